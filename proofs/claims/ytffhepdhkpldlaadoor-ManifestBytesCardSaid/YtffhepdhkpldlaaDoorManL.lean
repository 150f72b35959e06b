/- Calls of the laws of layer 10, held against the world in which the law began. -/
import Derived.Test.YtffhepdhkpldlaaDoorManWrite
namespace Go.Proofs.YtffhepdhkpldlaaDoor.Man
open Go Go.RowKit Go.Proofs.YtffhepdhkpldlaaDoor.Words Go.Proofs.YtffhepdhkpldlaaDoor.Enc Go.Proofs.YtffhepdhkpldlaaDoor.Made Go.Proofs.YtffhepdhkpldlaaDoor.Tape Go.Proofs.YtffhepdhkpldlaaDoor.Vec Go.Proofs.YtffhepdhkpldlaaDoor.Dsk
set_option linter.unusedVariables false
set_option linter.unusedSimpArgs false
open Go.Proofs.YtffhepdhkpldlaaDoor.Sht (Since since_next scanG scanG_errs)

theorem mreadNone (w0 w : World) (d : Nat) (files : List File) (h : Hd) (hd : Since w0 d files h w) (hoff : h.off = false) (hl : lookA mN files = none) (ht : sumA files ≤ 500000000) :
    Calls Tryd.prog 19 #[.pointer (some ⟨d, 0, none⟩)] w fun e w' => e = .returned (.tuple #[zeroM, .int .i64 2]) ∧ Since w0 d files h w' := by
  have hd' := hd
  obtain ⟨S, hdk, bel, hS⟩ := hd
  refine (read_err d 2 w (.inl rfl) fun W hW => (Sht.read_none d S files h mN W (hdk.below hW) (by simp) ht hoff hl)).mono ?_
  rintro e w' ⟨rfl, hb⟩
  exact ⟨rfl, hd'.after hb⟩
theorem mreadOff (w0 w : World) (d : Nat) (files : List File) (h : Hd) (hd : Since w0 d files h w) (hoff : h.off = true) (ht : sumA files ≤ 500000000) :
    Calls Tryd.prog 19 #[.pointer (some ⟨d, 0, none⟩)] w fun e w' => e = .returned (.tuple #[zeroM, .int .i64 7]) ∧ Since w0 d files h w' := by
  have hd' := hd
  obtain ⟨S, hdk, bel, hS⟩ := hd
  refine (read_err d 7 w (by simp) fun W hW => (Sht.read_off d S files h mN W (hdk.below hW) (by simp) ht hoff)).mono ?_
  rintro e w' ⟨rfl, hb⟩
  exact ⟨rfl, hd'.after hb⟩

theorem readM_of {m : Mn} (h : Right m) : readM 109 m.node.toNat m.serial [manL m] 0 = .inr { m with floor := trimL m.floor } := by
  unfold readM
  simp [decM_of h]
theorem all_one (x : List UInt8) (hx : x.length ≤ 2097152) : allL (Sht.wraps [x]) Sht.most = ([x], (wrap x).length, 0) := by
  have hall := Sht.allL_wraps Sht.most [x] [] (fun l hl => by simp at hl; subst hl; unfold Sht.most; omega)
  rw [List.append_nil] at hall
  have h0 : allL [] Sht.most = ([], 0, 0) := by decide +kernel
  rw [h0] at hall
  rw [hall]
  simp [Sht.wraps]
/-- A file of that title, with one record. -/
theorem mreadSheet (w0 w : World) (d : Nat) (files : List File) (h : Hd) (f : File) (k : UInt8) (a b : Nat) (x : List UInt8) (T : Chk.Tabs w0) (ha : a < 18446744073709551616) (hb : b < 18446744073709551616) (hx : x.length ≤ 100000) (hd : Since w0 d files h w) (hoff : h.off = false) (hl : lookA mN files = some f) (hf : f.p = Sht.wholeL k a b [x]) (ht : sumA files ≤ 500000000) :
    Calls Tryd.prog 19 #[.pointer (some ⟨d, 0, none⟩)] w fun e w' => DecGives (readM k a b [x] 0) w e w' ∧ Since w0 d files h w' := by
  have hd' := hd
  obtain ⟨S, hdk, bel, hS⟩ := hd
  have hall := all_one x (by omega)
  have RS := read_sheet d (Sht.goodN k a b (Sht.wraps [x])) 0 k a b [x] w (fun y hy => by simp at hy; subst hy; exact hx) (by simp) fun W hW => by
    have := Sht.read_ok d S files h mN f k a b (Sht.wraps [x]) W (T.below (bel.trans (hW.mono bel.size))) ha hb (hdk.below hW) (by simp) ht hoff hl hf
    rw [hall] at this
    exact this
  refine RS.mono ?_
  intro e w' hg
  refine ⟨hg, hd'.after ?_⟩
  cases hm : readM k a b [x] 0 with
  | inl E => rw [hm] at hg; exact hg.2
  | inr m => rw [hm] at hg; obtain ⟨_, _, _, _, _, hb⟩ := hg; exact hb
theorem mem_allF (m : Int) : ∀ (f : Nat) (l : List UInt8), ∀ x ∈ (allF m f l).1, x.length ≤ l.length
  | 0, l => by simp [allF]
  | f + 1, l => by
    rw [allF]
    by_cases h0 : l = []
    · rw [if_pos h0]; simp
    · rw [if_neg h0]
      by_cases hE : (openL l m).2.2 ≠ 0
      · rw [if_pos hE]; simp
      · rw [if_neg hE]
        intro x hx
        simp only [List.mem_cons] at hx
        rcases hx with rfl | hx
        · exact Sht.openL_text l m
        · have := mem_allF m f (l.drop (openL l m).2.1) x hx
          rw [List.length_drop] at this
          omega
/-- What any bytes are, as a manifest's file. -/
def fileM (p : List UInt8) : Nat ⊕ Mn :=
  match scanG p with
  | .inl _ => .inl 4
  | .inr ((k, a, b), H) => readM k a b (allL (p.drop H) Sht.most).1 (allL (p.drop H) Sht.most).2.2
theorem fileM_errs {p : List UInt8} {E : Nat} (h : fileM p = .inl E) : E = 4 := by
  unfold fileM at h
  cases hs : scanG p with
  | inl E1 => rw [hs] at h; injection h with h; exact h.symm
  | inr t =>
    obtain ⟨⟨k, a, b⟩, H⟩ := t
    rw [hs] at h
    simp only [] at h
    unfold readM at h
    split at h
    · injection h with h; exact h.symm
    · split at h
      · split at h
        · injection h with h; exact h.symm
        · split at h
          · cases h
          · injection h with h; exact h.symm
      · injection h with h; exact h.symm
/-- Any file. -/
theorem mreadFile (w0 w : World) (d : Nat) (files : List File) (h : Hd) (f : File) (T : Chk.Tabs w0) (hd : Since w0 d files h w) (hoff : h.off = false) (hl : lookA mN files = some f) (hp : f.p.length ≤ 100000) (ht : sumA files ≤ 500000000) :
    Calls Tryd.prog 19 #[.pointer (some ⟨d, 0, none⟩)] w fun e w' => DecGives (fileM f.p) w e w' ∧ Since w0 d files h w' := by
  have hd' := hd
  obtain ⟨S, hdk, bel, hS⟩ := hd
  have RD := fun W hW => Sht.read_all d S files h mN f W (T.below (bel.trans (Below.mono hW bel.size))) (hdk.below hW) (by simp) ht hoff hl
  cases hs : scanG f.p with
  | inl E =>
    have he := scanG_errs hs
    have hm : fileM f.p = .inl 4 := by unfold fileM; rw [hs]
    have hme : errM E = 4 := by unfold errM; rw [if_neg (by omega)]
    rw [hm]
    refine (read_err d E w (by omega) fun W hW => by have := RD W hW; rw [hs] at this; exact this).mono ?_
    rintro e w' ⟨rfl, hb⟩
    rw [hme]
    exact ⟨⟨rfl, hb⟩, hd'.after hb⟩
  | inr t =>
    obtain ⟨⟨k, a, b⟩, H⟩ := t
    have hm : fileM f.p = readM k a b (allL (f.p.drop H) Sht.most).1 (allL (f.p.drop H) Sht.most).2.2 := by unfold fileM; rw [hs]
    have hlen : ∀ x ∈ (allL (f.p.drop H) Sht.most).1, x.length ≤ 100000 := fun x hx => by
      have := mem_allF Sht.most _ _ x hx
      rw [List.length_drop] at this
      omega
    have hnum : (allL (f.p.drop H) Sht.most).1.length ≤ 1000000000 := by
      have := allF_len Sht.most ((f.p.drop H).length + 1) (f.p.drop H)
      rw [List.length_drop] at this
      unfold allL
      rw [List.length_drop]
      omega
    rw [hm]
    refine (read_sheet d _ _ k a b _ w hlen hnum fun W hW => by have := RD W hW; rw [hs] at this; exact this).mono ?_
    intro e w' hg
    refine ⟨hg, hd'.after ?_⟩
    generalize readM k a b (allL (f.p.drop H) Sht.most).1 (allL (f.p.drop H) Sht.most).2.2 = G at hg
    cases G with
    | inl E => exact hg.2
    | inr m => obtain ⟨_, _, _, _, _, hb⟩ := hg; exact hb
theorem mwriteBad (w0 w : World) (d : Nat) (files : List File) (h : Hd) (m : Mn) (A : Option Addr) (n c : Nat) (hd : Since w0 d files h w) (hn0 : -9223372036854775808 ≤ m.node) (hn1 : m.node ≤ 9223372036854775807) (hf : m.fold.size ≤ 9223372036854775807) (hb : mayB m = false) :
    Calls Tryd.prog 16 #[.pointer (some ⟨d, 0, none⟩), m.val A n c] w fun e w' => e = .returned (.int .i64 1) ∧ Since w0 d files h w' :=
  (write_bad d m A n c w hn0 hn1 hf hb).mono fun e w' ⟨he, hb⟩ => ⟨he, hd.after hb⟩
theorem mwriteL (w0 w : World) (d : Nat) (files files' : List File) (h h' : Hd) (E : Int) (m : Mn) (A : Option Addr) (n c : Nat) (T : Chk.Tabs w0) (hd : Since w0 d files h w) (hf : h.fits) (hac : h.acts < 1000)
    (hm : mayB m = true) (hsr : m.serial < 18446744073709551616) (htm : m.time < 18446744073709551616) (tv : Took2 w A n c m.floor) (hn : n ≤ 64) (ht : sumA files ≤ 100000000) (hfs : files.length < 100000000) (hr : Sht.swapR h mN mT (fileL m) files = (E, files', h')) :
    Calls Tryd.prog 16 #[.pointer (some ⟨d, 0, none⟩), m.val A n c] w fun e w' => e = .returned (.int .i64 E) ∧ Since w0 d files' h' w' := by
  obtain ⟨S, hdk, bel, hS⟩ := hd
  have := write_any d S files h m A n c w (fun W hW => T.below (Below.beside bel hW bel.size hS)) hdk hf (by omega) hm hsr htm tv hn (by omega) (by omega)
  rw [hr] at this
  refine this.mono ?_
  rintro e w' ⟨rfl, hn⟩
  exact ⟨rfl, since_next bel hS hn⟩
end Go.Proofs.YtffhepdhkpldlaaDoor.Man
