/- The functions that the laws of layer 5 call: short, same, head, lay. head and lay, as the laws of layer 5 reckon them. -/
import Derived.Test.YtffhepdhkpldlaaDoorBSheet
import Derived.Test.YtffhepdhkpldlaaDoorBPlain
import Derived.Deep.QuietTactic
import Derived.BigQuiet
import Derived.Test.YtffhepdhkpldlaaDoorBCheck
import Derived.WalkSpells
import Derived.Lib.SlBytesConst
import Derived.Laws.StructEq
namespace Go.Proofs.YtffhepdhkpldlaaDoor.Sht
open Go Go.RowKit Go.Proofs.YtffhepdhkpldlaaDoor.Words Go.Proofs.YtffhepdhkpldlaaDoor.Enc Go.Proofs.YtffhepdhkpldlaaDoor.Made Go.Proofs.YtffhepdhkpldlaaDoor.Dsk
set_option linter.unusedVariables false

theorem take_snoc_eq {L M : List (List UInt8)} {j : Nat} (hl : j < L.length) (hm : j < M.length) (h : L.take j = M.take j) (he : L.getD j [] = M.getD j []) : L.take (j + 1) = M.take (j + 1) := by
  rw [List.take_add_one, List.take_add_one, h, List.getElem?_eq_getElem hl, List.getElem?_eq_getElem hm]
  rw [List.getD_eq_getElem?_getD, List.getD_eq_getElem?_getD, List.getElem?_eq_getElem hl, List.getElem?_eq_getElem hm] at he
  simp only [Option.getD_some] at he
  rw [he]
theorem bytes_ne {p q : List UInt8} (h : p ≠ q) : ((⟨p.toArray⟩ : ByteArray).toList == (⟨q.toArray⟩ : ByteArray).toList) = false := by
  rw [bytes_toList, bytes_toList]
  simpa using h

end Go.Proofs.YtffhepdhkpldlaaDoor.Sht
namespace Go.Proofs.YtffhepdhkpldlaaDoor.Sht
open Go Go.RowKit Go.Proofs.YtffhepdhkpldlaaDoor.Words Go.Proofs.YtffhepdhkpldlaaDoor.Enc Go.Proofs.YtffhepdhkpldlaaDoor.Made Go.Proofs.YtffhepdhkpldlaaDoor.Dsk
set_option linter.unusedVariables false

theorem count_le : ∀ M : List (List UInt8), M.length ≤ (wraps M).length := by
  intro M
  induction M with
  | nil => simp
  | cons x r ih =>
    simp only [wraps, List.map_cons, List.flatten_cons, List.length_append, List.length_cons] at ih ⊢
    have := wrap_length x
    omega

end Go.Proofs.YtffhepdhkpldlaaDoor.Sht

/- The example with which the laws of layer 5 begin. What Swap comes to, on a disk of one file: plain lists. Calls of the laws of layer 5, held against the world in which the law began. -/
namespace Go.Proofs.YtffhepdhkpldlaaDoor.Sht
open Go Go.RowKit Go.Proofs.YtffhepdhkpldlaaDoor.Words Go.Proofs.YtffhepdhkpldlaaDoor.Enc Go.Proofs.YtffhepdhkpldlaaDoor.Made Go.Proofs.YtffhepdhkpldlaaDoor.Dsk
set_option linter.unusedVariables false

theorem hd_fits5 {h : Hd} (h1 : -9223372036854775808 ≤ h.room) (h2 : h.room ≤ 9223372036854775807) (h3 : h.acts ≤ 1000000000000) (h4 : -9223372036854775808 ≤ h.left) (h5 : h.left ≤ 9223372036854775807) (h6 : -9223372036854775808 ≤ h.torn) (h7 : h.torn ≤ 9223372036854775807) : h.fits := ⟨⟨h1, h2⟩, h3, ⟨h4, h5⟩, ⟨h6, h7⟩⟩
theorem ok_f5 : okName [102] = true := by decide +kernel
theorem ok_fn5 : okName ([102] ++ suff) = true := by decide +kernel
/-- Behind a step on a disk of the call's own. -/
theorem step_low5 {w0 w w' : World} {S S' : List Nat} (b : Below w0.heap.size w0 w) (hS : ∀ k ∈ S, w0.heap.size ≤ k) (hb : Beside S w w') (hs : ∀ k ∈ S', k ∈ S ∨ w.heap.size ≤ k) : Below w0.heap.size w0 w' ∧ ∀ k ∈ S', w0.heap.size ≤ k :=
  ⟨Below.beside b hb b.size hS, fun k hk => by
    rcases hs k hk with h | h
    · exact hS k h
    · have := b.size; omega⟩
theorem junk_ex : allL [49, 50, 51, 52] most = ([], 0, 5) := by decide +kernel
theorem head_ex : (headL 120 0 0).length = 12 := by
  rw [headL_len (by omega) (by omega)]
  simp [titleL, enc_small]
theorem wrap_ex : (wrap [120]).length = 6 := by
  rw [wrap_length]
  simp [enc_small]

end Go.Proofs.YtffhepdhkpldlaaDoor.Sht
namespace Go.Proofs.YtffhepdhkpldlaaDoor.Sht
open Go Go.RowKit Go.Proofs.YtffhepdhkpldlaaDoor.Words Go.Proofs.YtffhepdhkpldlaaDoor.Enc Go.Proofs.YtffhepdhkpldlaaDoor.Made Go.Proofs.YtffhepdhkpldlaaDoor.Dsk
set_option linter.unusedVariables false

abbrev fN : List UInt8 := [102]
abbrev tN : List UInt8 := [102, 46, 110, 101, 119]
theorem tN_is : fN ++ suff = tN := rfl
theorem act_un {room left torn : Int} {acts : Nat} (hl : left < 0) : Hd.act ⟨room, acts, left, torn, false⟩ = ⟨room, acts + 1, left, torn, false⟩ := by
  have h1 : ¬ left = 0 := by omega
  have h2 : ¬ 0 < left := by omega
  simp [Hd.act, h1, h2]
theorem may_un {room left torn : Int} {acts : Nat} (hl : left ≠ 0) : Hd.may ⟨room, acts, left, torn, false⟩ = true := by simp [Hd.may, hl]

/-- The new file, made and moved: on a disk that holds nothing else. -/
theorem swap_new {room left torn : Int} {acts : Nat} {q : List UInt8} (hl : left < 0) (hq : (q.length : Int) ≤ room) :
    swapR ⟨room, acts, left, torn, false⟩ fN tN q [] = (0, [⟨fN, q, q.length⟩], ⟨room, acts + 4, left, torn, false⟩) := by
  have h0 : left ≠ 0 := by omega
  have hr : removeF ⟨room, acts, left, torn, false⟩ tN [] = [] := by simp [removeF, dropF]
  have ht : thereE ⟨room, acts, left, torn, false⟩ tN [] = 2 := by simp [thereE, may_un h0, lookA]
  have ha : appE ⟨room, acts + 1, left, torn, false⟩ tN q [] = 0 := by simp [appE, may_un h0, sumA, hq]
  have hf : appF ⟨room, acts + 1, left, torn, false⟩ tN q [] = [⟨tN, q, 0⟩] := by simp [appF, h0, sumA, hq, put]
  have hc : createR ⟨room, acts + 1, left, torn, false⟩ tN q [] = (0, [⟨tN, q, q.length⟩], ⟨room, acts + 3, left, torn, false⟩) := by
    unfold createR
    rw [ha, if_pos rfl, hf, act_un hl, act_un hl]
    simp [thereE, thereF, may_un h0, lookA, upd, syncG]
  unfold swapR
  rw [ht, if_neg (by decide), hr, act_un hl, hc, if_neg (by simp)]
  simp only [act_un hl]
  simp [thereE, moveF, may_un h0, moved, lookA, dropF]
/-- .. beside the old one; with what is left of a new file, or without. -/
theorem swap_old {room left torn : Int} {acts : Nat} {p q p2 : List UInt8} {n n2 : Nat} (hl : left < 0) (rest : List File) (hrest : rest = [] ∨ rest = [⟨tN, p2, n2⟩]) :
    swapR ⟨room, acts, left, torn, false⟩ fN tN q (⟨fN, p, n⟩ :: rest) = if (p.length : Int) + q.length ≤ room then (0, [⟨fN, q, q.length⟩], ⟨room, acts + 4, left, torn, false⟩) else (3, [⟨fN, p, n⟩], ⟨room, acts + 2, left, torn, false⟩) := by
  have h0 : left ≠ 0 := by omega
  have hr : removeF ⟨room, acts, left, torn, false⟩ tN (⟨fN, p, n⟩ :: rest) = [⟨fN, p, n⟩] := by
    rcases hrest with rfl | rfl <;> simp [removeF, dropF, may_un h0]
  have ht : thereE ⟨room, acts, left, torn, false⟩ tN (⟨fN, p, n⟩ :: rest) ≠ 7 := by
    rcases hrest with rfl | rfl <;> simp [thereE, may_un h0, lookA]
  unfold swapR
  rw [if_neg ht, hr, act_un hl]
  by_cases hq : (p.length : Int) + q.length ≤ room
  · have ha : appE ⟨room, acts + 1, left, torn, false⟩ tN q [⟨fN, p, n⟩] = 0 := by simp [appE, may_un h0, sumA, hq]
    have hf : appF ⟨room, acts + 1, left, torn, false⟩ tN q [⟨fN, p, n⟩] = [⟨fN, p, n⟩, ⟨tN, q, 0⟩] := by simp [appF, h0, sumA, hq, put]
    have hc : createR ⟨room, acts + 1, left, torn, false⟩ tN q [⟨fN, p, n⟩] = (0, [⟨fN, p, n⟩, ⟨tN, q, q.length⟩], ⟨room, acts + 3, left, torn, false⟩) := by
      unfold createR
      rw [ha, if_pos rfl, hf, act_un hl, act_un hl]
      simp [thereE, thereF, may_un h0, lookA, upd, syncG]
    rw [hc, if_neg (by simp), if_pos hq]
    simp only [act_un hl]
    simp [thereE, moveF, may_un h0, moved, lookA, dropF, upd]
  · have ha : appE ⟨room, acts + 1, left, torn, false⟩ tN q [⟨fN, p, n⟩] = 3 := by simp [appE, may_un h0, sumA, hq]
    have hf : appF ⟨room, acts + 1, left, torn, false⟩ tN q [⟨fN, p, n⟩] = [⟨fN, p, n⟩] := by simp [appF, h0, sumA, hq]
    have hc : createR ⟨room, acts + 1, left, torn, false⟩ tN q [⟨fN, p, n⟩] = (3, [⟨fN, p, n⟩], ⟨room, acts + 2, left, torn, false⟩) := by
      unfold createR
      rw [ha, if_neg (by decide), hf, act_un hl]
    rw [hc, if_pos (by simp), if_neg hq]
/-- The sums that Swap's contract asks for, where all is small. -/
theorem swap_small {h : Hd} {files : List File} {q : List UInt8} {B : Nat} (hB : sumA files + q.length ≤ B) :
    sumA (removeF h tN files) ≤ B ∧ sumA (appF h.act tN q (removeF h tN files)) ≤ B ∧ sumA (createR h.act tN q (removeF h tN files)).2.1 ≤ B := by
  have hdrop : ∀ l : List File, sumA (dropF tN l) ≤ sumA l := by
    intro l
    induction l with
    | nil => simp [dropF]
    | cons x r ih =>
      simp only [dropF, List.filter_cons] at ih ⊢
      split
      · simp only [sumA]; omega
      · simp only [sumA]; omega
  have h1 : sumA (removeF h tN files) ≤ sumA files := by
    unfold removeF
    split
    · exact hdrop files
    · exact Nat.le_refl _
  have hput : ∀ (x : List UInt8) (l : List File), sumA (put tN x l) = sumA l + x.length := by
    intro x l
    induction l with
    | nil => simp [put, sumA]
    | cons f r ih =>
      simp only [put]
      split
      · simp only [sumA, List.length_append]; omega
      · simp only [sumA, ih]; omega
  have h2 : ∀ (g : Hd) (l : List File), sumA (appF g tN q l) ≤ sumA l + q.length := by
    intro g l
    unfold appF tornF
    split
    · omega
    · split
      · split
        · rw [hput, List.length_take]; omega
        · omega
      · split
        · rw [hput]; omega
        · omega
  have hupd : ∀ l : List File, sumA (upd tN syncG l) = sumA l := by
    intro l
    induction l with
    | nil => rfl
    | cons f r ih =>
      simp only [upd, List.map_cons, sumA] at ih ⊢
      rw [ih]
      split <;> simp [syncG]
  have h3 := h2 h.act (removeF h tN files)
  refine ⟨by omega, by omega, ?_⟩
  unfold createR
  split
  · simp only [thereF]
    split
    · rw [hupd]; omega
    · omega
  · simp only []; omega
theorem swap_few {h : Hd} {files : List File} {q : List UInt8} : (removeF h tN files).length ≤ files.length ∧ (createR h.act tN q (removeF h tN files)).2.1.length ≤ files.length + 1 := by
  have h1 : (removeF h tN files).length ≤ files.length := by
    unfold removeF dropF
    split
    · exact List.length_filter_le _ _
    · exact Nat.le_refl _
  have hput : ∀ (x : List UInt8) (l : List File), (put tN x l).length ≤ l.length + 1 := by
    intro x l
    induction l with
    | nil => simp [put]
    | cons f r ih =>
      simp only [put]
      split
      · simp
      · simp only [List.length_cons]; omega
  have h2 : ∀ (g : Hd) (l : List File), (appF g tN q l).length ≤ l.length + 1 := by
    intro g l
    unfold appF tornF
    split
    · omega
    · split
      · split
        · exact hput _ _
        · omega
      · split
        · exact hput _ _
        · omega
  have h3 := h2 h.act (removeF h tN files)
  refine ⟨h1, ?_⟩
  unfold createR
  split
  · simp only [thereF]
    split
    · simp [upd]; omega
    · omega
  · simp only []; omega
end Go.Proofs.YtffhepdhkpldlaaDoor.Sht
namespace Go.Proofs.YtffhepdhkpldlaaDoor.Sht
open Go Go.RowKit Go.Proofs.YtffhepdhkpldlaaDoor.Words Go.Proofs.YtffhepdhkpldlaaDoor.Enc Go.Proofs.YtffhepdhkpldlaaDoor.Made Go.Proofs.YtffhepdhkpldlaaDoor.Dsk
set_option linter.unusedVariables false

/-- A disk of the law's own: all that it owns is new since w0; what was there in w0 is as it was. -/
def Since (w0 : World) (d : Nat) (files : List File) (h : Hd) (w : World) : Prop := ∃ S, Disk w d S files h ∧ Below w0.heap.size w0 w ∧ ∀ k ∈ S, w0.heap.size ≤ k
theorem Since.below {w0 w : World} {d : Nat} {files : List File} {h : Hd} (s : Since w0 d files h w) : Below w0.heap.size w0 w := by obtain ⟨_, _, b, _⟩ := s; exact b
theorem Since.after {w0 w w' : World} {d : Nat} {files : List File} {h : Hd} (s : Since w0 d files h w) (hb : Below w.heap.size w w') : Since w0 d files h w' := by
  obtain ⟨S, hd, b, hS⟩ := s
  exact ⟨S, hd.below hb, b.trans (hb.mono b.size), hS⟩
theorem since_next {w0 w w' : World} {d : Nat} {S : List Nat} {files : List File} {h : Hd} (b : Below w0.heap.size w0 w) (hS : ∀ k ∈ S, w0.heap.size ≤ k) (hn : Dsk.Next S w d files h w') : Since w0 d files h w' := by
  obtain ⟨S', hd, hb, hs⟩ := hn
  obtain ⟨b', hS'⟩ := step_low5 b hS hb hs
  exact ⟨S', hd, b', hS'⟩
/-- What is seen in w0 is seen still, and a disk's call leaves it alone. -/
theorem since_sees {w0 w W : World} {S : List Nat} {A : Option Addr} {n : Nat} {L : List (List UInt8)} (hs : SeesAll w0 A n L) (b : Below w0.heap.size w0 w) (hS : ∀ k ∈ S, w0.heap.size ≤ k) (hb : Beside S w W) : SeesAll W A n L :=
  hs.below (Below.beside b hb b.size hS)

theorem newL (w0 w : World) (b : Below w0.heap.size w0 w) (room : Int) :
    Calls Tryd.prog 15 #[.int .i64 room] w fun e w' => ∃ d, e = .returned (.pointer (some ⟨d, 0, none⟩)) ∧ Since w0 d [] ⟨room, 0, -1, 0, false⟩ w' := by
  refine (newC room w).mono ?_
  rintro e w1 ⟨d, S, rfl, hd, hS, hb⟩
  exact ⟨d, rfl, S, hd, b.trans (hb.mono b.size), fun k hk => Nat.le_trans b.size (hS k hk)⟩

theorem swapL (w0 w : World) (d : Nat) (files : List File) (h : Hd) (k : UInt8) (a b : Nat) (A : Option Addr) (n c : Nat) (L : List (List UInt8)) (T : Chk.Tabs w0) (hs : SeesAll w0 A n L) (ha : a < 18446744073709551616) (hb : b < 18446744073709551616)
    (hd : Since w0 d files h w) (hf : h.fits) (hac : h.acts < 1000) (hL : lens L ≤ 2000) (hsm : sumA files ≤ 100000) (hfl : files.length ≤ 10) {E : Int} {files' : List File} {h' : Hd} (hr : swapR h fN tN (wholeL k a b L) files = (E, files', h')) :
    Calls Tryd.prog 22 #[.pointer (some ⟨d, 0, none⟩), .string ⟨#[102]⟩, titleV k a b, .slice A n c] w fun e w' => e = .returned (.int .i64 E) ∧ Since w0 d files' h' w' := by
  obtain ⟨S, hd, bel, hS⟩ := hd
  have hln := hs.len
  have hl2 := lens_len L
  have hws := wraps_short hL
  have hhl := headL_len (k := k) ha hb
  have htl := (titleL_len (k := k) ha hb).2
  have hwh : (wholeL k a b L).length ≤ 2100 := by unfold wholeL; rw [List.length_append]; omega
  obtain ⟨s1, s2, s3⟩ := swap_small (h := h) (files := files) (q := wholeL k a b L) (B := 200000) (by omega)
  obtain ⟨f1, f2⟩ := swap_few (h := h) (files := files) (q := wholeL k a b L)
  have := swap_any d S files h fN k a b A n c L w (fun W hW => T.below (Below.beside bel hW bel.size hS)) ha hb hd hf (by omega) ok_f5 ok_fn5 (by omega) (by omega) (hs.below bel) (by omega)
    (fun l hl => by have := short_each hL l hl; omega) (by omega) (fun W hW => since_sees hs bel hS hW)
    (by rw [tN_is]; omega) (by rw [tN_is]; omega) (by rw [tN_is]; omega) (by rw [tN_is]; omega) (by rw [tN_is]; omega)
  rw [tN_is, hr] at this
  refine this.mono ?_
  rintro e w' ⟨rfl, hn⟩
  exact ⟨rfl, since_next bel hS hn⟩

theorem readL (w0 w : World) (d : Nat) (files : List File) (h : Hd) (s p : List UInt8) (E : Int) (hd : Since w0 d files h w) (hs : s.length ≤ 100) (hsm : sumA files ≤ 1000000000000) (hp : readP h s files = p) (hE : readE h s files = E) :
    Calls Tryd.prog 64 #[.pointer (some ⟨d, 0, none⟩), .string ⟨s.toArray⟩] w fun e w' => ∃ A c, e = .returned (.tuple #[.slice A p.length c, .int .i64 E]) ∧ w'.ownsRow w.heap.size 5 1 (.slice A p.length c) p.length (cs p) ∧ Below w.heap.size w w' ∧ Since w0 d files h w' := by
  obtain ⟨S, hd, bel, hS⟩ := hd
  have := readC d S files h s w hd (by omega) hsm
  rw [hp, hE] at this
  refine this.mono ?_
  rintro e w' ⟨A, c, rfl, hown, hb⟩
  exact ⟨A, c, rfl, hown, hb, S, hd.below hb, bel.trans (hb.mono bel.size), hS⟩
theorem armL (w0 w : World) (d : Nat) (files : List File) (h : Hd) (acts torn : Int) (hd : Since w0 d files h w) :
    Calls Tryd.prog 17 #[.pointer (some ⟨d, 0, none⟩), .int .i64 acts, .int .i64 torn] w fun e w' => e = .returned (.tuple #[]) ∧ Since w0 d files { h with left := acts, torn := torn } w' := by
  obtain ⟨S, hd, bel, hS⟩ := hd
  refine (armC d S files h acts torn w hd).mono ?_
  rintro e w' ⟨rfl, hn⟩
  exact ⟨rfl, since_next bel hS hn⟩
theorem crashL (w0 w : World) (d : Nat) (files : List File) (h : Hd) (keep : Int) (hd : Since w0 d files h w) (hsm : sumA files ≤ 1000000000000) (hk1 : -9223372036854775808 ≤ keep) (hk2 : keep ≤ 9223372036854775807) :
    Calls Tryd.prog 18 #[.pointer (some ⟨d, 0, none⟩), .int .i64 keep] w fun e w' => e = .returned (.tuple #[]) ∧ Since w0 d (files.map (crashG keep)) { h with off := false, left := -1 } w' := by
  obtain ⟨S, hd, bel, hS⟩ := hd
  refine (crashC d S files h keep w hd hsm hk1 hk2).mono ?_
  rintro e w' ⟨rfl, hn⟩
  exact ⟨rfl, since_next bel hS hn⟩
/-- A title's variable. -/
def TitleAt (w : World) (m : Nat) (k : UInt8) (a b : Nat) : Prop := w.heap[m]? = some (.cells #[.int .u8 (k.toNat : Int), .int .u64 (a : Int), .int .u64 (b : Int)] 50 (0, 0))
theorem TitleAt.cells {w : World} {m : Nat} {k : UInt8} {a b : Nat} (h : TitleAt w m k a b) : w.cell? ⟨m, 0, none⟩ = some (.int .u8 (k.toNat : Int)) ∧ w.cell? ⟨m, 1, none⟩ = some (.int .u64 (a : Int)) ∧ w.cell? ⟨m, 2, none⟩ = some (.int .u64 (b : Int)) := by
  unfold TitleAt at h
  refine ⟨?_, ?_, ?_⟩ <;> (rw [cell_of_row w m _ _ _ _ h]; rfl)
theorem TitleAt.lt {w : World} {m : Nat} {k : UInt8} {a b : Nat} (h : TitleAt w m k a b) : m < w.heap.size := (Array.getElem?_eq_some_iff.1 h).1
theorem TitleAt.below {w0 w : World} {m : Nat} {k : UInt8} {a b : Nat} (h : TitleAt w0 m k a b) (hb : Below w0.heap.size w0 w) : TitleAt w m k a b := (hb.block m h.lt).trans h
end Go.Proofs.YtffhepdhkpldlaaDoor.Sht

/- More calls of the laws of layer 5: Begin, Add, Read, held against the world in which the law began; two titles that are one. -/
namespace Go.Proofs.YtffhepdhkpldlaaDoor.Sht
open Go Go.RowKit Go.Proofs.YtffhepdhkpldlaaDoor.Words Go.Proofs.YtffhepdhkpldlaaDoor.Enc Go.Proofs.YtffhepdhkpldlaaDoor.Made Go.Proofs.YtffhepdhkpldlaaDoor.Dsk
set_option linter.unusedVariables false

theorem sheetL (w0 w : World) (d : Nat) (k : UInt8) (a b : Nat) (L : List (List UInt8)) (N acts : Nat) (T : Chk.Tabs w0) (ha : a < 18446744073709551616) (hb : b < 18446744073709551616) (hd : Since w0 d [⟨fN, wholeL k a b L, N⟩] ⟨65536, acts, -1, 0, false⟩ w) (hL : lens L ≤ 2000) :
    Calls Tryd.prog 40 #[.pointer (some ⟨d, 0, none⟩), .string ⟨#[102]⟩] w fun e w' => ∃ Al nl cl, e = .returned (.tuple #[sheetV k a b Al nl cl (wholeL k a b L).length 0, .int .i64 0]) ∧ SeesAll w' Al nl L ∧ nl ≤ 2000 ∧ Below w.heap.size w w' := by
  obtain ⟨S, hd, bel, hS⟩ := hd
  have hhl := headL_len (k := k) ha hb
  have htl := (titleL_len (k := k) ha hb).2
  have hwa := wraps_short hL
  have hla : (wholeL k a b L).length ≤ 2100 := by unfold wholeL; rw [List.length_append]; omega
  have hall := allL_wraps most L [] (fun l hl => by have := short_each hL l hl; unfold most; omega)
  rw [List.append_nil] at hall
  have h0 : allL [] most = ([], 0, 0) := by decide +kernel
  rw [h0] at hall
  have hg : goodN k a b (wraps L) = (wholeL k a b L).length := by unfold goodN wholeL; rw [hall, List.length_append]; simp
  have := read_ok d S [⟨fN, wholeL k a b L, N⟩] ⟨65536, acts, -1, 0, false⟩ fN ⟨fN, wholeL k a b L, N⟩ k a b (wraps L) w (T.below bel) ha hb hd (by simp) (by simp only [sumA]; omega) rfl (by simp [lookA]) rfl
  rw [hg, hall] at this
  refine this.mono ?_
  rintro e w' ⟨Al, nl, cl, vs, rfl, hown, heach, hb'⟩
  have hs := SeesAll.of_own hown heach.each
  simp only [List.append_nil] at hs
  have hln := hs.len
  have := lens_len L
  exact ⟨Al, nl, cl, rfl, hs, by omega, hb'⟩
theorem noSheetL (w0 w : World) (d : Nat) (hd : Since w0 d [] ⟨65536, 0, -1, 0, false⟩ w) :
    Calls Tryd.prog 40 #[.pointer (some ⟨d, 0, none⟩), .string ⟨#[102]⟩] w fun e w' => e = .returned (.tuple #[zeroSheet, .int .i64 2]) ∧ Since w0 d [] ⟨65536, 0, -1, 0, false⟩ w' := by
  have hd' := hd
  obtain ⟨S, hd, bel, hS⟩ := hd
  refine (read_none d S [] _ fN w hd (by simp) (by simp [sumA]) rfl (by simp [lookA])).mono ?_
  rintro e w' ⟨rfl, hb⟩
  exact ⟨rfl, hd'.after hb⟩
theorem tFields : Tryd.prog.underlying 50 = some (.struct (Tryd.prog.fieldsOf 50)) := by kernel_rfl
theorem tHeld : Tryd.prog.stoodInHeld 50 = false := by kernel_rfl
theorem title_same (k : UInt8) (a b : Nat) (W : World) :
    (binOp .eql 50 (.agg #[.int .u8 (k.toNat : Int), .int .u64 (a : Int), .int .u64 (b : Int)]) (.agg #[.int .u8 (k.toNat : Int), .int .u64 (a : Int), .int .u64 (b : Int)])).run Tryd.prog W = .ok (.bool true) W := by
  rw [run_eql_struct, run_equalIn_agg _ _ _ _ _ tFields tHeld]
  simp only [Program.fieldsOf, Tryd.underlying50]
  simp [go_sem]
end Go.Proofs.YtffhepdhkpldlaaDoor.Sht

/- Mend of a sheet that is torn, and what follows it: held against the world in which the law began. -/
namespace Go.Proofs.YtffhepdhkpldlaaDoor.Sht
open Go Go.RowKit Go.Proofs.YtffhepdhkpldlaaDoor.Words Go.Proofs.YtffhepdhkpldlaaDoor.Enc Go.Proofs.YtffhepdhkpldlaaDoor.Made Go.Proofs.YtffhepdhkpldlaaDoor.Dsk
set_option linter.unusedVariables false

theorem sees_take {w : World} {A : Option Addr} {n : Nat} {L : List (List UInt8)} (h : SeesAll w A n L) {k : Nat} (hk : k ≤ n) : SeesAll w A k (L.take k) := by
  obtain ⟨vs, h1, h2, h3⟩ := h
  refine ⟨vs.take k, ⟨by rw [List.length_take, List.length_take, h1.1], fun j l hj => ?_⟩, by rw [List.length_take]; omega, fun hk0 => ?_⟩
  · have hjk : j < k := by
      rcases Nat.lt_or_ge j k with h5 | h5
      · exact h5
      · rw [List.getElem?_eq_none (by rw [List.length_take]; omega)] at hj; cases hj
    rw [List.getElem?_take, if_pos hjk] at hj
    obtain ⟨A', c', hv, hr⟩ := h1.2 j l hj
    exact ⟨A', c', by rw [List.getElem?_take, if_pos hjk]; exact hv, hr⟩
  · obtain ⟨b, o, hA, hc⟩ := h3 (by omega)
    refine ⟨b, o, hA, fun j v hj => hc j v ?_⟩
    rw [List.getElem?_take] at hj
    split at hj
    · exact hj
    · cases hj
/-- The first bytes of a file, appended. -/
theorem appendL (w0 w : World) (d : Nat) (A : Option Addr) (n c : Nat) (q : List UInt8) (hd : Since w0 d [] ⟨65536, 0, -1, 0, false⟩ w) (hs : Sees w0 A n q) (hn : n ≤ 60000) (hnc : n ≤ c) (hcc : c ≤ 9223372036854775807) :
    Calls Tryd.prog 21 #[.pointer (some ⟨d, 0, none⟩), .string ⟨#[102]⟩, .slice A n c] w fun e w' => e = .returned (.int .i64 0) ∧ Since w0 d [⟨fN, q, 0⟩] ⟨65536, 1, -1, 0, false⟩ w' := by
  obtain ⟨S, hd, bel, hS⟩ := hd
  have hql := hs.1
  have hfi : (q.length : Int) ≤ 65536 := by omega
  have hr : appE ⟨65536, 0, -1, 0, false⟩ fN q [] = 0 := by simp [appE, may_un, sumA, hfi]
  have hf : appF ⟨65536, 0, -1, 0, false⟩ fN q [] = [⟨fN, q, 0⟩] := by simp [appF, sumA, put, hfi]
  have := appendC d S [] ⟨65536, 0, -1, 0, false⟩ fN A n c q w hd (hd_fits5 (by simp) (by simp) (by simp) (by simp) (by simp) (by simp) (by simp)) (by simp) ok_f5 (by simp [sumA]) (by simp) (by omega) hnc hcc (hs.below bel) (Out.of_lt hs (Nat.le_refl _) hS)
  rw [hr, hf, act_un (by decide)] at this
  refine this.mono ?_
  rintro e w' ⟨rfl, hn⟩
  exact ⟨rfl, since_next bel hS hn⟩
/-- An operation that isn't wanted. -/
theorem wanted_not {ops : Array Oper} {o : Oper} {a : Act} {g d : Nat} {b : Bool} (h : o.guard = some (g, b)) (hd : (ops[g]?).bind (·.dst) = some d) (hv : a.tmps.getD d undef = .bool (!b)) : Region.wanted o (yielded ops a.tmps) = false := by
  have hlt : d < a.tmps.size := by
    rcases Nat.lt_or_ge d a.tmps.size with h' | h'
    · exact h'
    · rw [Array.getD_eq_getD_getElem?, Array.getElem?_eq_none h'] at hv
      cases hv
  have hy : yielded ops a.tmps g = some (!b) := by
    unfold yielded
    rw [hd]
    simp only [Option.bind_some]
    rw [Array.getD_eq_getD_getElem?, Array.getElem?_eq_getElem hlt] at hv
    rw [Array.getElem?_eq_getElem hlt]
    simp only [Option.getD_some] at hv
    rw [hv]
  cases b <;> simp [Region.wanted, h, hy]
theorem step_skip {P : Program} {ops : Array Oper} {a0 : Act} {w0 : World} {L : List Facts.Pred} {j : Nat} {o : Oper}
    (h : ∀ (a : Act) (w : World), (∀ i d, Facts.dep ops j i d = true → Facts.holds L i (a.tmps.getD d undef) w) → Region.wanted o (yielded ops a.tmps) = false) (hu : ∀ w, Facts.holds L j undef w) :
    Facts.Step P ops a0 w0 (fun a b => Below a.heap.size a b) (Facts.holds L) j o := fun a w _ _ hnew =>
  ⟨fun hw => absurd hw (by rw [h a w hnew]; decide), fun _ => hu w⟩
theorem wraps_short3 {L : List (List UInt8)} (h : lens L ≤ 10000) : (wraps L).length ≤ lens L := by
  induction L with
  | nil => simp [wraps]
  | cons x r ih =>
    simp only [lens] at h ⊢
    have h1 := ih (by omega)
    have h2 := enc_two (n := x.length) (by omega)
    have h3 := wrap_length x
    have h4 : (wraps (x :: r)).length = (wrap x).length + (wraps r).length := by simp [wraps]
    omega
theorem sheetL3 (w0 w : World) (d : Nat) (k : UInt8) (a b : Nat) (L : List (List UInt8)) (N acts : Nat) (T : Chk.Tabs w0) (ha : a < 18446744073709551616) (hb : b < 18446744073709551616) (hd : Since w0 d [⟨fN, wholeL k a b L, N⟩] ⟨65536, acts, -1, 0, false⟩ w) (hL : lens L ≤ 10000) :
    Calls Tryd.prog 40 #[.pointer (some ⟨d, 0, none⟩), .string ⟨#[102]⟩] w fun e w' => ∃ Al cl, e = .returned (.tuple #[sheetV k a b Al L.length cl (wholeL k a b L).length 0, .int .i64 0]) ∧ SeesAll w' Al L.length L ∧ Below w.heap.size w w' := by
  obtain ⟨S, hd, bel, hS⟩ := hd
  have hhl := headL_len (k := k) ha hb
  have htl := (titleL_len (k := k) ha hb).2
  have hwa := wraps_short3 hL
  have hla : (wholeL k a b L).length ≤ 11000 := by unfold wholeL; rw [List.length_append]; omega
  have hall := allL_wraps most L [] (fun l hl => by have := lens_mem l hl; unfold most; omega)
  rw [List.append_nil] at hall
  have h0 : allL [] most = ([], 0, 0) := by decide +kernel
  rw [h0] at hall
  have hg : goodN k a b (wraps L) = (wholeL k a b L).length := by unfold goodN wholeL; rw [hall, List.length_append]; simp
  have := read_ok d S [⟨fN, wholeL k a b L, N⟩] ⟨65536, acts, -1, 0, false⟩ fN ⟨fN, wholeL k a b L, N⟩ k a b (wraps L) w (T.below bel) ha hb hd (by simp) (by simp only [sumA]; omega) rfl (by simp [lookA]) rfl
  rw [hg, hall] at this
  refine this.mono ?_
  rintro e w' ⟨Al, nl, cl, vs, rfl, hown, heach, hb'⟩
  have hs := SeesAll.of_own hown heach.each
  simp only [List.append_nil] at hs
  have hln := hs.len
  subst hln
  exact ⟨Al, cl, rfl, hs, hb'⟩
end Go.Proofs.YtffhepdhkpldlaaDoor.Sht
