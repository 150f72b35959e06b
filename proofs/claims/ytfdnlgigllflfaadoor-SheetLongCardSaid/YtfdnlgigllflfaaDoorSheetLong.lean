/- The law SheetLong: a record of two mebibytes, and one of more. -/
import Derived.Test.YtfdnlgigllflfaaDoorBSheetLaw
import Derived.Laws.OwnMore
namespace Go.Proofs.YtfdnlgigllflfaaDoor.Sht
open Go Go.RowKit Go.Proofs.YtfdnlgigllflfaaDoor.Words Go.Proofs.YtfdnlgigllflfaaDoor.Enc Go.Proofs.YtfdnlgigllflfaaDoor.Made Go.Proofs.YtfdnlgigllflfaaDoor.Dsk
set_option linter.unusedVariables false

/-- A row of kk bytes, all zero; a list of one slice that shows them. -/
def zRow (kk : Nat) : Array Value := madeCells #[.int .u8 0] kk
def ZAt (W : World) (b kk : Nat) : Prop := W.heap[b]? = some (.cells (zRow kk) 5 (0, 0))
def ListAt (W : World) (b bz kk : Nat) : Prop := W.heap[b]? = some (.cells #[.slice (some ⟨bz, 0, none⟩) kk kk] 37 (0, 0))
theorem zRow_get (kk j : Nat) (hj : j < kk) : (zRow kk)[j]? = some (.int .u8 0) := by
  unfold zRow
  rw [← Array.getElem?_toList, toList_madeCells_one, List.getElem?_replicate, if_pos hj]
theorem ZAt.sees {W : World} {b kk : Nat} (h : ZAt W b kk) : Sees W (some ⟨b, 0, none⟩) kk (List.replicate kk 0) := by
  refine ⟨List.length_replicate, fun _ => ⟨b, 0, rfl, fun j u hj => ?_⟩⟩
  have hjk : j < kk := by
    rcases Nat.lt_or_ge j kk with h1 | h1
    · exact h1
    · rw [List.getElem?_eq_none (by simpa using h1)] at hj
      cases hj
  rw [List.getElem?_replicate, if_pos hjk] at hj
  injection hj with hj
  subst hj
  rw [Nat.zero_add, cell_of_row W b j _ _ _ h, zRow_get kk j hjk]
  rfl
theorem one_sees {W : World} {b bz kk : Nat} (h : ZAt W bz kk) (hl : ListAt W b bz kk) : SeesAll W (some ⟨b, 0, none⟩) 1 [List.replicate kk 0] := by
  refine ⟨[.slice (some ⟨bz, 0, none⟩) kk kk], ⟨rfl, fun j l hj => ?_⟩, rfl, fun _ => ⟨b, 0, rfl, fun j v hv => ?_⟩⟩
  · match j, hj with
    | 0, hj =>
      simp only [List.getElem?_cons_zero, Option.some.injEq] at hj
      subst hj
      have h1 : (List.replicate kk (0 : UInt8)).length = kk := List.length_replicate
      rw [h1]
      exact ⟨_, kk, rfl, Nat.le_refl _, h.sees⟩
  · match j, hv with
    | 0, hv =>
      rw [Nat.zero_add, cell_of_row W b 0 _ _ _ hl]
      simpa using hv
theorem ZAt.beside {W W' : World} {b kk : Nat} {S : List Nat} (h : ZAt W b kk) (hb : Beside S W W') (hS : b ∉ S) : ZAt W' b kk := (hb.block b (Array.getElem?_eq_some_iff.1 h).1 hS).trans h
theorem ListAt.beside {W W' : World} {b bz kk : Nat} {S : List Nat} (h : ListAt W b bz kk) (hb : Beside S W W') (hS : b ∉ S) : ListAt W' b bz kk := (hb.block b (Array.getElem?_eq_some_iff.1 h).1 hS).trans h
theorem make_run (W : World) (kk : Nat) (hk : kk ≤ 3000000) : (Instr.makeSlice 37 (.int .i64 (kk : Int)) (.int .i64 (kk : Int))).run Tryd.prog W = .ok (.slice (some ⟨W.heap.size, 0, none⟩) kk kk) (W.alloc (.cells (zRow kk) 5)) := by
  obtain ⟨i, hi, hz, hsz, hby⟩ := info_parts info8
  have := run_make (P := Tryd.prog) W 37 5 i (.int .u8 0) Tryd.underlying37 hi hz .i64 .i64 (kk : Int) (kk : Int) (by omega) (Int.le_refl _) (by rw [hby]; omega) (by omega)
  rw [this, hsz]
  simp only [Int.toNat_natCast, Nat.mul_one]
  rfl

set_option maxRecDepth 100000 in
/-- Swap with a first record that is too long: the new file of before is removed, and that is all. -/
theorem swap_tooLong (d : Nat) (S : List Nat) (files : List File) (h : Hd) (s : List UInt8) (k : UInt8) (a b : Nat) (A : Option Addr) (n c : Nat) (x : List UInt8) (L : List (List UInt8)) (w : World) (hd : Disk w d S files h) (hf : h.fits) (hac : h.acts < 999999999980)
    (hs1 : s.length ≤ 100000) (hs2 : (s ++ suff).length ≤ 100000) (ht : sumA files ≤ 1000000000) (hn : n ≤ 1000000000) (hx : 2097152 < x.length) (hE : thereE h (s ++ suff) files = 2) (hout : ∀ W, Beside S w W → SeesAll W A n (x :: L)) :
    Calls Tryd.prog 20 #[.pointer (some ⟨d, 0, none⟩), .string ⟨s.toArray⟩, titleV k a b, .slice A n c] w fun e w' => e = .returned (.int .i64 6) ∧ Dsk.Next S w d (removeF h (s ++ suff) files) h.act w' := by
  have hadd := fun W : World => run_string_add_lists (P := Tryd.prog) W s suff (by omega) (by simp [suff])
  have hb0 : Below w.heap.size w (w.alloc (.cells #[.int .u8 (k.toNat : Int), .int .u64 (a : Int), .int .u64 (b : Int)] 24)) := (Below.refl _ _).alloc (Nat.le_refl _) _
  have hrem := removeC d S files h (s ++ suff) _ (hd.below hb0) hf hs2 (by omega)
  rw [hE] at hrem
  have hcat : (⟨s.toArray⟩ : ByteArray) ++ ⟨#[46, 110, 101, 119]⟩ = ⟨(s ++ suff).toArray⟩ := ByteArray.mk_append_mk ..
  have hpos : decide ((0 : Int) ≤ 0) = true := by decide
  unfold titleV
  generalize s ++ suff = t at hrem hcat hadd hs2 hE ⊢
  go_enter Tryd.func20, Tryd.ntmps20
  go_wp2_with fail
  refine hrem.mono ?_
  rintro e w1 ⟨rfl, hn1⟩
  have hn0 := hn1.below hb0
  obtain ⟨S1, hd1, hb1, hs1'⟩ := hn1
  have hbw1 : Beside S w w1 := (Beside.of_below hb0 S).trans hb1 fun x hx => .inl hx
  have hcont := contains_any A n c w1 0 (index_first A n c x L w1 (hout w1 hbw1) hn hx)
  rw [hpos] at hcont
  go_wp2_with fail
  refine hcont.mono ?_
  rintro e w2 ⟨rfl, rfl⟩
  go_wp2
  go_ret
  exact ⟨rfl, hn0⟩

abbrev gN : List UInt8 := [103]
abbrev tG : List UInt8 := [103, 46, 110, 101, 119]
theorem tG_is : gN ++ suff = tG := rfl
theorem ok_g5 : okName [103] = true := by decide +kernel
theorem ok_gn5 : okName ([103] ++ suff) = true := by decide +kernel
/-- What Swap comes to beside another file. -/
theorem swap_g {room left torn : Int} {acts : Nat} {p q : List UInt8} {n : Nat} (hl : left < 0) (hq : (p.length : Int) + q.length ≤ room) :
    removeF ⟨room, acts, left, torn, false⟩ tG [⟨fN, p, n⟩] = [⟨fN, p, n⟩] ∧ appF (Hd.act ⟨room, acts, left, torn, false⟩) tG q [⟨fN, p, n⟩] = [⟨fN, p, n⟩, ⟨tG, q, 0⟩] ∧ createR (Hd.act ⟨room, acts, left, torn, false⟩) tG q [⟨fN, p, n⟩] = (0, [⟨fN, p, n⟩, ⟨tG, q, q.length⟩], ⟨room, acts + 3, left, torn, false⟩) ∧
    swapR ⟨room, acts, left, torn, false⟩ gN tG q [⟨fN, p, n⟩] = (0, [⟨fN, p, n⟩, ⟨gN, q, q.length⟩], ⟨room, acts + 4, left, torn, false⟩) := by
  have h0 : left ≠ 0 := by omega
  have hr : removeF ⟨room, acts, left, torn, false⟩ tG [⟨fN, p, n⟩] = [⟨fN, p, n⟩] := by simp [removeF, dropF, may_un h0]
  have ht : thereE ⟨room, acts, left, torn, false⟩ tG [⟨fN, p, n⟩] ≠ 7 := by simp [thereE, may_un h0, lookA]
  have ha : appE ⟨room, acts + 1, left, torn, false⟩ tG q [⟨fN, p, n⟩] = 0 := by simp [appE, may_un h0, sumA, hq]
  have hf : appF ⟨room, acts + 1, left, torn, false⟩ tG q [⟨fN, p, n⟩] = [⟨fN, p, n⟩, ⟨tG, q, 0⟩] := by simp [appF, h0, sumA, hq, put]
  have hc : createR ⟨room, acts + 1, left, torn, false⟩ tG q [⟨fN, p, n⟩] = (0, [⟨fN, p, n⟩, ⟨tG, q, q.length⟩], ⟨room, acts + 3, left, torn, false⟩) := by
    unfold createR
    rw [ha, if_pos rfl, hf, act_un hl, act_un hl]
    simp [thereE, thereF, may_un h0, lookA, upd, syncG]
  refine ⟨hr, by rw [act_un hl]; exact hf, by rw [act_un hl]; exact hc, ?_⟩
  unfold swapR
  rw [if_neg ht, hr, act_un hl, hc, if_neg (by simp)]
  simp only [act_un hl]
  simp [thereE, moveF, may_un h0, moved, lookA, dropF]

theorem beginM (w0 w : World) (d : Nat) (k : UInt8) (a b : Nat) (T : Chk.Tabs w0) (ha : a < 18446744073709551616) (hb : b < 18446744073709551616) (hd : Since w0 d [] ⟨8388608, 0, -1, 0, false⟩ w) :
    Calls Tryd.prog 12 #[.pointer (some ⟨d, 0, none⟩), .string ⟨#[102]⟩, titleV k a b] w fun e w' => e = .returned (.int .i64 0) ∧ Since w0 d [⟨fN, headL k a b, (headL k a b).length⟩] ⟨8388608, 2, -1, 0, false⟩ w' := by
  obtain ⟨S, hd, bel, hS⟩ := hd
  have hhl := headL_len (k := k) ha hb
  have htl := (titleL_len (k := k) ha hb).2
  have hlen : (headL k a b).length ≤ 50 := by omega
  have ha1 : appE ⟨8388608, 0, -1, 0, false⟩ fN (headL k a b) [] = 0 := by simp [appE, may_un, sumA]; omega
  have hf1 : appF ⟨8388608, 0, -1, 0, false⟩ fN (headL k a b) [] = [⟨fN, headL k a b, 0⟩] := by simp [appF, sumA, put]; omega
  have hr : beginR ⟨8388608, 0, -1, 0, false⟩ fN (headL k a b) [] = (0, [⟨fN, headL k a b, (headL k a b).length⟩], ⟨8388608, 2, -1, 0, false⟩) := by
    have he : readE ⟨8388608, 0, -1, 0, false⟩ fN [] = 2 := by simp [readE, lookA]
    unfold beginR
    rw [he, if_neg (by decide)]
    unfold createR
    rw [ha1, if_pos rfl, hf1, act_un (by decide), act_un (by decide)]
    simp [thereE, thereF, may_un, lookA, upd, syncG]
  have := begin_any d S [] ⟨8388608, 0, -1, 0, false⟩ fN k a b w (T.below bel) ha hb hd (hd_fits5 (by simp) (by simp) (by simp) (by simp) (by simp) (by simp) (by simp)) (by simp) ok_f5 (by simp [sumA]) (by rw [hf1]; simp only [sumA]; omega) (by simp)
  rw [hr] at this
  refine this.mono ?_
  rintro e w' ⟨rfl, hn⟩
  exact ⟨rfl, since_next bel hS hn⟩
theorem addM (w0 w : World) (d : Nat) (p : List UInt8) (N acts : Nat) (A : Option Addr) (n c : Nat) (l : List UInt8) (T : Chk.Tabs w0) (hd : Since w0 d [⟨fN, p, N⟩] ⟨8388608, acts, -1, 0, false⟩ w) (hac : acts < 100000) (hn : n ≤ 2097152) (hnc : n ≤ c) (hs : Sees w A n l) (hfit : p.length + (wrap l).length ≤ 8388608) :
    Calls Tryd.prog 13 #[.pointer (some ⟨d, 0, none⟩), .string ⟨#[102]⟩, .slice A n c] w fun e w' => e = .returned (.int .i64 0) ∧ Since w0 d [⟨fN, p ++ wrap l, N⟩] ⟨8388608, acts + 1, -1, 0, false⟩ w' := by
  obtain ⟨S, hd, bel, hS⟩ := hd
  have hfi : (p.length : Int) + (wrap l).length ≤ 8388608 := by omega
  have hr : appE ⟨8388608, acts, -1, 0, false⟩ fN (wrap l) [⟨fN, p, N⟩] = 0 := by simp [appE, may_un, sumA, hfi]
  have hf : appF ⟨8388608, acts, -1, 0, false⟩ fN (wrap l) [⟨fN, p, N⟩] = [⟨fN, p ++ wrap l, N⟩] := by simp [appF, sumA, put, hfi]
  have := add_any d S [⟨fN, p, N⟩] ⟨8388608, acts, -1, 0, false⟩ fN A n c l w (T.below bel) hd (hd_fits5 (by simp) (by simp) (by show acts ≤ _; omega) (by simp) (by simp) (by simp) (by simp)) (by show acts < _; omega) ok_f5 (by simp only [sumA]; omega) (by simp) (by omega) hnc hs
  rw [hr, hf, act_un (by decide)] at this
  refine this.mono ?_
  rintro e w' ⟨rfl, hn⟩
  exact ⟨rfl, since_next bel hS hn⟩
/-- Swap with one record of zeros, made behind the disk. -/
theorem swapM (w0 w w' : World) (d : Nat) (p : List UInt8) (N acts bz bl kk : Nat) (k : UInt8) (a b : Nat) (T : Chk.Tabs w0) (ha : a < 18446744073709551616) (hb' : b < 18446744073709551616) (hd : Since w0 d [⟨fN, p, N⟩] ⟨8388608, acts, -1, 0, false⟩ w) (hb : Below w.heap.size w w') (h1 : w.heap.size ≤ bz) (h2 : w.heap.size ≤ bl) (hz : ZAt w' bz kk) (hl : ListAt w' bl bz kk)
    (hac : acts < 100000) (hk : kk ≤ 2097152) (hp : p.length ≤ 3000000) :
    Calls Tryd.prog 20 #[.pointer (some ⟨d, 0, none⟩), .string ⟨#[103]⟩, titleV k a b, .slice (some ⟨bl, 0, none⟩) 1 1] w' fun e w'' => e = .returned (.int .i64 0) ∧ Since w0 d [⟨fN, p, N⟩, ⟨gN, wholeL k a b [List.replicate kk 0], (wholeL k a b [List.replicate kk 0]).length⟩] ⟨8388608, acts + 4, -1, 0, false⟩ w'' := by
  obtain ⟨S, hd, bel, hS⟩ := hd
  have hlt := hd.lt
  have hd' := hd.below hb
  have bel' := bel.trans (hb.mono bel.size)
  have hx : (List.replicate kk (0 : UInt8)).length = kk := List.length_replicate
  have hout : ∀ W, Beside S w' W → SeesAll W (some ⟨bl, 0, none⟩) 1 [List.replicate kk 0] := fun W hW => one_sees (hz.beside hW fun hm => by have := hlt _ hm; omega) (hl.beside hW fun hm => by have := hlt _ hm; omega)
  generalize List.replicate kk (0 : UInt8) = x at hx hout ⊢
  have hhl := headL_len (k := k) ha hb'
  have htl := (titleL_len (k := k) ha hb').2
  have hws : (wraps [x]).length ≤ kk + 14 := by
    have h3 := wrap_length x
    have h4 := enc_ten (n := x.length) (by omega)
    simp only [wraps, List.map_cons, List.map_nil, List.flatten_cons, List.flatten_nil, List.append_nil]
    omega
  have hwh : (wholeL k a b [x]).length ≤ 2100000 := by unfold wholeL; rw [List.length_append]; omega
  obtain ⟨r1, r2, r3, r4⟩ := swap_g (room := 8388608) (left := -1) (torn := 0) (acts := acts) (p := p) (q := wholeL k a b [x]) (n := N) (by decide) (by omega)
  have := swap_any d S [⟨fN, p, N⟩] ⟨8388608, acts, -1, 0, false⟩ gN k a b (some ⟨bl, 0, none⟩) 1 1 [x] w' (fun W hW => T.below (Below.beside bel' hW bel'.size hS)) ha hb' hd' (hd_fits5 (by simp) (by simp) (by show acts ≤ _; omega) (by simp) (by simp) (by simp) (by simp)) (by show acts < _; omega) ok_g5 ok_gn5 (by simp only [sumA]; omega) (by simp)
    (hout w' (Beside.refl _ _)) (by omega) (fun l hl => by simp at hl; subst hl; omega) (by omega) hout
    (by rw [tG_is, r1]; simp only [sumA]; omega) (by rw [tG_is, r1]; simp) (by rw [tG_is, r1, r2]; simp only [sumA]; omega) (by rw [tG_is, r1, r3]; simp only [sumA]; omega) (by rw [tG_is, r1, r3]; simp)
  rw [tG_is, r4] at this
  refine this.mono ?_
  rintro e w'' ⟨rfl, hn⟩
  exact ⟨rfl, since_next bel' hS hn⟩
theorem swapM_long (w0 w w' : World) (d : Nat) (p : List UInt8) (N acts bz bl kk : Nat) (k : UInt8) (a b : Nat) (hd : Since w0 d [⟨fN, p, N⟩] ⟨8388608, acts, -1, 0, false⟩ w) (hb : Below w.heap.size w w') (h1 : w.heap.size ≤ bz) (h2 : w.heap.size ≤ bl) (hz : ZAt w' bz kk) (hl : ListAt w' bl bz kk)
    (hac : acts < 100000) (hk : 2097152 < kk) (hp : p.length ≤ 3000000) :
    Calls Tryd.prog 20 #[.pointer (some ⟨d, 0, none⟩), .string ⟨#[103]⟩, titleV k a b, .slice (some ⟨bl, 0, none⟩) 1 1] w' fun e w'' => e = .returned (.int .i64 6) ∧ Since w0 d [⟨fN, p, N⟩] ⟨8388608, acts + 1, -1, 0, false⟩ w'' ∧ ∀ (v : Value) (n : Nat) (xs : List Value), w'.ownsRow w.heap.size 5 1 v n xs → w''.ownsRow w.heap.size 5 1 v n xs := by
  obtain ⟨S, hd, bel, hS⟩ := hd
  have hlt := hd.lt
  have hd' := hd.below hb
  have bel' := bel.trans (hb.mono bel.size)
  have hx : (List.replicate kk (0 : UInt8)).length = kk := List.length_replicate
  have hout : ∀ W, Beside S w' W → SeesAll W (some ⟨bl, 0, none⟩) 1 [List.replicate kk 0] := fun W hW => one_sees (hz.beside hW fun hm => by have := hlt _ hm; omega) (hl.beside hW fun hm => by have := hlt _ hm; omega)
  generalize List.replicate kk (0 : UInt8) = x at hx hout ⊢
  have hE : thereE ⟨8388608, acts, -1, 0, false⟩ (gN ++ suff) [⟨fN, p, N⟩] = 2 := by rw [tG_is]; simp [thereE, may_un, lookA]
  have hr : removeF ⟨8388608, acts, -1, 0, false⟩ (gN ++ suff) [⟨fN, p, N⟩] = [⟨fN, p, N⟩] := by rw [tG_is]; simp [removeF, dropF, may_un]
  have := swap_tooLong d S [⟨fN, p, N⟩] ⟨8388608, acts, -1, 0, false⟩ gN k a b (some ⟨bl, 0, none⟩) 1 1 x [] w' hd' (hd_fits5 (by simp) (by simp) (by show acts ≤ _; omega) (by simp) (by simp) (by simp) (by simp)) (by show acts < _; omega) (by simp) (by simp [suff]) (by simp only [sumA]; omega) (by omega) (by omega) hE hout
  rw [hr, act_un (by decide)] at this
  refine this.mono ?_
  rintro e w'' ⟨rfl, hn⟩
  refine ⟨rfl, since_next bel' hS hn, fun v n xs ho => ?_⟩
  obtain ⟨_, _, hbs, _⟩ := hn
  exact own_beside ho hbs hlt

set_option maxRecDepth 100000 in
set_option maxHeartbeats 1000000 in
theorem long_law (m : Nat) (w : World) (T : Chk.Tabs w) (hm : m < 256) :
    Calls Tryd.prog 7 #[.int .u8 (m : Int)] w fun e w' => e = .returned (.bool true) ∧ Below w.heap.size w w' := by
  obtain ⟨r, hr⟩ : ∃ r, r = m % 5 := ⟨_, rfl⟩
  have hr5 : r < 5 := by omega
  have hmod : (m : Int).tmod 5 = (r : Int) := by rw [hr]; rfl
  obtain ⟨kk, hkk⟩ : ∃ kk, kk = 2097150 + r := ⟨_, rfl⟩
  have hw1 : IntKind.i64.wrap (2097150 + (r : Int)) = (kk : Int) := by rw [IntWalk.i64_in _ (by omega)]; omega
  have hk1 : kk ≤ 3000000 := by omega
  have MAKE := fun W => make_run W kk hk1
  have hhl := headL_len (k := 0) (a := 0) (b := 0) (by omega) (by omega)
  have htl := (titleL_len (k := 0) (a := 0) (b := 0) (by omega) (by omega)).2
  have hhd : (headL 0 0 0).length ≤ 50 := by omega
  have BEGIN := fun (W : World) (d : Nat) hd => beginM w W d 0 0 0 T (by omega) (by omega) hd
  have SWAP := fun (W W' : World) (d : Nat) (p : List UInt8) (N acts bz bl : Nat) hd hb h1 h2 hz hl hac hk hp => swapM w W W' d p N acts bz bl kk 0 0 0 T (by omega) (by omega) hd hb h1 h2 hz hl hac hk hp
  have SWAPL := fun (W W' : World) (d : Nat) (p : List UInt8) (N acts bz bl : Nat) hd hb h1 h2 hz hl hac hk hp => swapM_long w W W' d p N acts bz bl kk 0 0 0 hd hb h1 h2 hz hl hac hk hp
  unfold titleV at BEGIN SWAP SWAPL
  simp only [show ((0 : UInt8).toNat : Int) = 0 from rfl, Int.natCast_zero] at BEGIN SWAP SWAPL
  have hzl : (List.replicate kk (0 : UInt8)).length = kk := List.length_replicate
  have hwz : (wrap (List.replicate kk (0 : UInt8))).length ≤ kk + 14 ∧ 0 < (wrap (List.replicate kk (0 : UInt8))).length := by
    have h3 := wrap_length (List.replicate kk (0 : UInt8))
    have h4 := enc_ten (n := (List.replicate kk (0 : UInt8)).length) (by omega)
    omega
  have ADD := Lib.hid (fun (W : World) (d : Nat) (N b : Nat) hd (hk : kk ≤ 2097152) (hz : ZAt W b kk) => addM w W d (headL 0 0 0) N 2 (some ⟨b, 0, none⟩) kk kk _ T hd (by omega) hk (Nat.le_refl _) hz.sees (by omega))
  have HB := Lib.hid BEGIN
  have HS := Lib.hid SWAP
  have HSL := Lib.hid SWAPL
  have hql : (wholeL 0 0 0 [List.replicate kk 0]).length ≤ 3000000 := by
    unfold wholeL
    rw [List.length_append]
    simp only [wraps, List.map_cons, List.map_nil, List.flatten_cons, List.flatten_nil, List.append_nil]
    omega
  generalize hqq : wholeL 0 0 0 [List.replicate kk 0] = q at HS hql
  have HQ := Lib.hid hql
  clear hql
  generalize headL 0 0 0 = hdl at hhd HB ADD
  generalize hwzz : wrap (List.replicate kk (0 : UInt8)) = zl at hwz ADD
  clear hwzz hqq BEGIN SWAP SWAPL hhl htl hr
  have HKK := Lib.hid hkk
  have HZ := Lib.hid hwz
  clear hkk hzl hwz
  have HHD := Lib.hid hhd
  clear hhd
  go_enter Tryd.func7, Tryd.ntmps7
  go_wp2_with fail
  refine (newL w w (Below.refl _ _) 8388608).mono ?_
  rintro e w1 ⟨d, rfl, s1⟩
  go_wp2_with fail
  refine (HB.out w1 d s1).mono ?_
  rintro e w2 ⟨rfl, s2⟩
  clear s1
  obtain ⟨N, hN⟩ : ∃ N, N = hdl.length := ⟨_, rfl⟩
  rw [← hN] at s2
  have HN := Lib.hid hN
  clear hN
  go_wp2_with fail
  refine (readL w w2 d [⟨fN, hdl, N⟩] ⟨8388608, 2, -1, 0, false⟩ [102] hdl 0 s2 (by simp) (by simp only [sumA]; have := HHD.out; omega) (by simp [readP, lookA]) (by simp [readE, lookA])).mono ?_
  rintro e w3 ⟨A3, c3, rfl, hown3, hb3, s3⟩
  rw [← HN.out] at hown3 ⊢
  have hsee3 : Sees w3 A3 N hdl := Sees.of_own hown3
  go_wp2_with fail
  have hz4 : ZAt (w3.alloc (.cells (zRow kk) 5)) w3.heap.size kk := heap_alloc_new w3 _
  have b34 : Below w3.heap.size w3 (w3.alloc (.cells (zRow kk) 5)) := (Below.refl _ _).alloc (Nat.le_refl _) _
  have s4 := s3.after b34
  have own4 := Own.below hown3 b34 (Nat.le_refl _)
  have b24 := hb3.trans (b34.mono hb3.size)
  have hr3 : w2.heap.size ≤ w3.heap.size := hb3.size
  clear s3 hsee3 b34 hown3 hb3
  generalize w3.alloc (.cells (zRow kk) 5) = w4 at hz4 s4 own4 b24 ⊢
  generalize w3.heap.size = r3 at hz4 hr3 ⊢
  by_cases hle : kk ≤ 2097152
  · have hd1 : decide ((kk : Int) ≤ 2097152) = true := by simp; omega
    refine (ADD.out w4 d N r3 s4 hle hz4).mono ?_
    rintro e w5 ⟨rfl, s5⟩
    go_wp2_with fail
    have b56 : Below w5.heap.size w5 ((w5.alloc (.cells (zRow kk) 5)).alloc (.cells #[.slice (some ⟨w5.heap.size, 0, none⟩) kk kk] 37)) := ((Below.refl _ _).alloc (Nat.le_refl _) _).alloc (by simp) _
    have hz5 : ZAt (w5.alloc (.cells (zRow kk) 5)) w5.heap.size kk := heap_alloc_new w5 _
    have hz6 : ZAt ((w5.alloc (.cells (zRow kk) 5)).alloc (.cells #[.slice (some ⟨w5.heap.size, 0, none⟩) kk kk] 37)) w5.heap.size kk := hz5.beside (Beside.of_below ((Below.refl _ _).alloc (Nat.le_refl _) _) []) (by simp)
    have hl6 : ListAt ((w5.alloc (.cells (zRow kk) 5)).alloc (.cells #[.slice (some ⟨w5.heap.size, 0, none⟩) kk kk] 37)) (w5.heap.size + 1) w5.heap.size kk := by
      have h1 := heap_alloc_new (w5.alloc (.cells (zRow kk) 5)) (.cells #[.slice (some ⟨w5.heap.size, 0, none⟩) kk kk] 37)
      have h2 : (w5.alloc (.cells (zRow kk) 5)).heap.size = w5.heap.size + 1 := by simp
      rw [h2] at h1
      exact h1
    generalize (w5.alloc (.cells (zRow kk) 5)).alloc (.cells #[.slice (some ⟨w5.heap.size, 0, none⟩) kk kk] 37) = w6 at b56 hz6 hl6 ⊢
    clear hz5
    refine (HS.out w5 w6 d (hdl ++ zl) N 3 w5.heap.size (w5.heap.size + 1) s5 b56 (Nat.le_refl _) (by omega) hz6 hl6 (by omega) hle (by rw [List.length_append]; have := HHD.out; have := HZ.out.1; omega)).mono ?_
    rintro e w7 ⟨rfl, s7⟩
    have hdM : ∃ M, M = (hdl ++ zl).length := ⟨_, rfl⟩
    obtain ⟨M, hM⟩ := hdM
    have hMN : N < M ∧ M ≤ 3000000 := by rw [hM, HN.out, List.length_append]; have := HHD.out; have := HZ.out; omega
    have hgt : decide (N < M) = true := decide_eq_true hMN.1
    have HM := Lib.hid hM
    have HQ2 := Lib.hid hMN
    clear hM hMN b56 hz6 hl6 s5 hz4 s4 own4 b24 s2
    go_wp2_with fail
    refine (readL w w7 d [⟨fN, hdl ++ zl, N⟩, ⟨gN, q, q.length⟩] ⟨8388608, 3 + 4, -1, 0, false⟩ [102] (hdl ++ zl) 0 s7 (by simp) (by simp only [sumA]; have := HM.out; have := HQ2.out; have := HQ.out; omega) (by simp [readP, lookA]) (by simp [readE, lookA])).mono ?_
    rintro e w8 ⟨A8, c8, rfl, hown8, hb8, s8⟩
    rw [← HM.out]
    clear hown8 hb8 s7
    go_wp2_with fail
    refine (readL w w8 d [⟨fN, hdl ++ zl, N⟩, ⟨gN, q, q.length⟩] ⟨8388608, 3 + 4, -1, 0, false⟩ [103] q 0 s8 (by simp) (by simp only [sumA]; have := HM.out; have := HQ2.out; have := HQ.out; omega) (by simp [readP, lookA]) (by simp [readE, lookA])).mono ?_
    rintro e w9 ⟨A9, c9, rfl, hown9, hb9, s9⟩
    clear hown9 hb9 s8
    go_wp2_with fail
    refine (awake5 w9 (T.below s9.below)).mono ?_
    rintro e w10 ⟨rfl, hb10⟩
    go_wp2
    go_ret
    exact ⟨rfl, s9.below.trans (hb10.mono s9.below.size)⟩
  · have hd1 : decide ((kk : Int) ≤ 2097152) = false := by simp; omega
    have hle2 : 2097152 < kk := by omega
    refine (add_long d [102] (some ⟨r3, 0, none⟩) kk kk w4 hle2).mono ?_
    rintro e w5 ⟨rfl, rfl⟩
    go_wp2_with fail
    have b56 : Below w4.heap.size w4 ((w4.alloc (.cells (zRow kk) 5)).alloc (.cells #[.slice (some ⟨w4.heap.size, 0, none⟩) kk kk] 37)) := ((Below.refl _ _).alloc (Nat.le_refl _) _).alloc (by simp) _
    have hz5 : ZAt (w4.alloc (.cells (zRow kk) 5)) w4.heap.size kk := heap_alloc_new w4 _
    have hz6 : ZAt ((w4.alloc (.cells (zRow kk) 5)).alloc (.cells #[.slice (some ⟨w4.heap.size, 0, none⟩) kk kk] 37)) w4.heap.size kk := hz5.beside (Beside.of_below ((Below.refl _ _).alloc (Nat.le_refl _) _) []) (by simp)
    have hl6 : ListAt ((w4.alloc (.cells (zRow kk) 5)).alloc (.cells #[.slice (some ⟨w4.heap.size, 0, none⟩) kk kk] 37)) (w4.heap.size + 1) w4.heap.size kk := by
      have h1 := heap_alloc_new (w4.alloc (.cells (zRow kk) 5)) (.cells #[.slice (some ⟨w4.heap.size, 0, none⟩) kk kk] 37)
      have h2 : (w4.alloc (.cells (zRow kk) 5)).heap.size = w4.heap.size + 1 := by simp
      rw [h2] at h1
      exact h1
    generalize (w4.alloc (.cells (zRow kk) 5)).alloc (.cells #[.slice (some ⟨w4.heap.size, 0, none⟩) kk kk] 37) = w6 at b56 hz6 hl6 ⊢
    clear hz5
    have own6 := Own.below own4 b56 (Nat.le_refl _)
    have hs24 := b24.size
    refine (HSL.out w2 w6 d hdl N 2 w4.heap.size (w4.heap.size + 1) s2 (b24.trans (b56.mono hs24)) hs24 (by omega) hz6 hl6 (by omega) hle2 (by have := HHD.out; omega)).mono ?_
    rintro e w7 ⟨rfl, s7, ho7⟩
    have hsee7 : Sees w7 A3 N hdl := Sees.of_own (ho7 _ _ _ own6)
    clear b56 hz6 hl6 s4 hz4 own4 own6 ho7 s2 b24 hs24
    go_wp2_with fail
    refine (readL w w7 d [⟨fN, hdl, N⟩] ⟨8388608, 2 + 1, -1, 0, false⟩ [102] hdl 0 s7 (by simp) (by simp only [sumA]; have := HHD.out; omega) (by simp [readP, lookA]) (by simp [readE, lookA])).mono ?_
    rintro e w8 ⟨A8, c8, rfl, hown8, hb8, s8⟩
    rw [← HN.out] at hown8 ⊢
    have hsee8 : Sees w8 A8 N hdl := Sees.of_own hown8
    have hsee68 := hsee7.below hb8
    clear hown8 hb8 s7 hsee7
    go_wp2_with fail
    refine (readL w w8 d [⟨fN, hdl, N⟩] ⟨8388608, 2 + 1, -1, 0, false⟩ [103] [] 2 s8 (by simp) (by simp only [sumA]; have := HHD.out; omega) (by simp [readP, lookA]) (by simp [readE, lookA])).mono ?_
    rintro e w9 ⟨A9, c9, rfl, hown9, hb9, s9⟩
    have hsee9 := hsee8.below hb9
    have hsee69 := hsee68.below hb9
    clear hown9 hb9 s8 hsee8 hsee68
    go_wp2_with fail
    refine (awake5 w9 (T.below s9.below)).mono ?_
    rintro e w10 ⟨rfl, hb10⟩
    obtain ⟨sp, hsp'⟩ : ∃ sp, sp = (⟨hdl.toArray⟩ : ByteArray) := ⟨_, rfl⟩
    have STR1 := (hsee9.below hb10).string (P := Tryd.prog) c8 (s := 9) Tryd.underlying37 Tryd.underlying5 Tryd.underlying9
    have STR2 := (hsee69.below hb10).string (P := Tryd.prog) c3 (s := 9) Tryd.underlying37 Tryd.underlying5 Tryd.underlying9
    rw [← hsp'] at STR1 STR2
    have b10 := s9.below.trans (hb10.mono s9.below.size)
    clear hsp' hsee9 hsee69 hb10 s9
    go_wp2
    go_ret
    exact ⟨rfl, b10⟩
end Go.Proofs.YtfdnlgigllflfaaDoor.Sht
