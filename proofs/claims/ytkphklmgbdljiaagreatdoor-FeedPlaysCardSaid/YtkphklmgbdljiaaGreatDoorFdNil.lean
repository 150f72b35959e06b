/- feed: a nil feed; a feed of a disk without files. -/
import Derived.Test.YtkphklmgbdljiaaGreatDoorBSegName
import Derived.Test.YtkphklmgbdljiaaGreatDoorBDiskB
import Derived.Test.YtkphklmgbdljiaaGreatDoorBEvent
namespace Go.Proofs.YtkphklmgbdljiaaGreatDoor.Dsk
open Go Go.RowKit Go.Proofs.YtkphklmgbdljiaaGreatDoor.Words
set_option linter.unusedVariables false

set_option maxRecDepth 100000 in
theorem names_none (d mb : Nat) (h : Hd) (s : ByteArray) (w : World) (hd : DiskAt w d mb [] h) (hoff : h.off = false) :
    Calls Tryz.prog 14 #[.pointer (some ⟨d, 0, none⟩), .string s] w fun e w' => e = .returned (.slice none 0 0) ∧ Below w.heap.size w w' := by
  obtain ⟨c0, _⟩ := hd.head.cells
  obtain ⟨D, hown, hsh⟩ := hd.map
  have HSH := Lib.hid hsh
  clear hsh
  go_enter Tryz.func14, Tryz.ntmps14
  go_wp2_with fail
  refine (on_any d mb [] h w hd).mono ?_
  rintro e w1 ⟨rfl, rfl⟩
  rw [hoff]
  go_wp2_with (first | (at_range; refine wpList_range_own _ rfl _ 55 rfl 9 83 keyStr Tryz.underlying55 ptrElem mb ([] : List Fil).length D rfl hown ?_; intro w0 hrg0 hg0 hs0))
  go_frame
  go_loopw [5] (fun v wr => ∃ left cnt, wr.ranges Tryz.prog 9 ptrElem mb w.heap.size ([] : List Fil).length D left cnt ∧ Below w.heap.size w wr ∧ v = .slice none 0 0) (fun _ wr => wr.rangeLeft mb w.heap.size)
  case atStart => exact ⟨_, _, hrg0, (Below.refl _ _).grown hg0 (by omega) (fun k hk => by cases hk), rfl⟩
  case round =>
    obtain ⟨left, cnt, hrg, hbs, rfl⟩ := hrel
    have HOLD := Lib.hid hrg.left_eq
    have hrlt := hrg.lt
    clear hg0 hs0 hrg0
    go_wp2_with (first | (at_next; refine wpList_next_ranges _ rfl _ rfl 9 keyStr ptrElem Value.string Value.pointer (fun _ _ hh => strKey_inv hh) (fun v y hh => (by obtain ⟨a, ha, _⟩ := ptrElem_inv hh; exact ⟨a, ha⟩)) mb w.heap.size ([] : List Fil).length D left cnt rfl hrg ?_ ?_))
    · intro hc0 hl0
      clear hrg hl0
      go_wp2_with fail
      refine (Tryz.slices_Sort_string_none none 0 wr).mono ?_
      rintro e w5 ⟨rfl, rfl⟩
      go_wp2
      go_returns
      exact ⟨rfl, hbs⟩
    · intro x a kl ya yb w1 cnt1 hkey hlk hRv hat hrg1 hlt hg1 hs1 hen
      obtain rfl := strKey_of hkey
      have h2 := (HSH.out.2.1 x.data.toList).symm.trans (Maps.has_true_of_atKey hat)
      simp [look] at h2
theorem namesN (d : Nat) (S : List Nat) (h : Hd) (s : ByteArray) (w : World) (hd : Disk w d S [] h) (hoff : h.off = false) :
    Calls Tryz.prog 14 #[.pointer (some ⟨d, 0, none⟩), .string s] w fun e w' => e = .returned (.slice none 0 0) ∧ Below w.heap.size w w' := by
  obtain ⟨mb, fs, hd, hf, rfl⟩ := hd
  have : fs = [] := by simpa [abs] using hf
  subst this
  exact names_none d mb h s w hd hoff
theorem onC (d : Nat) (S : List Nat) (files : List File) (h : Hd) (w : World) (hd : Disk w d S files h) :
    Calls Tryz.prog 24 #[.pointer (some ⟨d, 0, none⟩)] w fun e w' => e = .returned (.bool !h.off) ∧ w = w' := by
  obtain ⟨mb, fs, hd, hf, rfl⟩ := hd
  exact on_any d mb fs h w hd
end Go.Proofs.YtkphklmgbdljiaaGreatDoor.Dsk
namespace Go.Proofs.YtkphklmgbdljiaaGreatDoor.Fd
open Go Go.RowKit Go.Proofs.YtkphklmgbdljiaaGreatDoor.Words Go.Proofs.YtkphklmgbdljiaaGreatDoor.Enc Go.Proofs.YtkphklmgbdljiaaGreatDoor.Evt Go.Proofs.YtkphklmgbdljiaaGreatDoor.Made Go.Proofs.YtkphklmgbdljiaaGreatDoor.Dsk Go.Proofs.YtkphklmgbdljiaaGreatDoor.Seg
set_option linter.unusedVariables false
set_option linter.unusedSimpArgs false

/-- A feed's struct. -/
def cells (d : Nat) (x sz : Int) (floor time : Nat) (P : Value) (safe : Int) : Array Value := #[.pointer (some ⟨d, 0, none⟩), .int .i64 x, .int .i64 sz, .int .u64 (floor : Int), .int .u64 (time : Int), P, .int .i64 safe]

set_option maxRecDepth 100000 in
theorem openN (d : Nat) (S : List Nat) (h : Hd) (x sz : Int) (floor time : Nat) (w : World) (T : STabs w) (hd : Disk w d S [] h) (hoff : h.off = false) (h0 : 0 ≤ x) (h1 : x < 64) :
    Calls Tryz.prog 8 #[.pointer (some ⟨d, 0, none⟩), .int .i64 x, .int .i64 sz, .int .u64 (floor : Int), .int .u64 (time : Int)] w fun e w' =>
      ∃ f, e = .returned (.tuple #[.pointer (some ⟨f, 0, none⟩), .int .i64 0]) ∧ w.heap.size ≤ f ∧ w'.heap[f]? = some (.cells (cells d x sz floor time (.slice none 0 0) 0) 60 (0, 0)) ∧ Below w.heap.size w w' := by
  have k0 : decide (x < 0) = false := by simp; omega
  have k1 : decide ((64 : Int) ≤ x) = false := by simp; omega
  go_enter Tryz.func8, Tryz.ntmps8
  go_wp2_with fail
  refine (onC d S [] h w hd).mono ?_
  rintro e w1 ⟨rfl, rfl⟩
  rw [hoff]
  have hb0 := (Below.refl w.heap.size w).alloc (Nat.le_refl _) (.cells (cells d x sz floor time (.slice none 0 0) 0) 60)
  have g0 := heap_alloc_new w (.cells (cells d x sz floor time (.slice none 0 0) 0) 60)
  unfold cells at *
  go_wp2_with fail
  refine (begin_any x (by omega) (by omega) _ (T.below hb0)).mono ?_
  rintro e w2 ⟨rfl, hb2⟩
  have b2 := hb0.trans (hb2.mono hb0.size)
  have g2 := (hb2.block w.heap.size (by simp)).trans g0
  go_wp2_with fail
  refine (namesN d S h _ w2 (hd.below b2) hoff).mono ?_
  rintro e w3 ⟨rfl, hb3⟩
  have b3 := b2.trans (hb3.mono b2.size)
  have g3 := (hb3.block w.heap.size (Array.getElem?_eq_some_iff.1 g2).1).trans g2
  clear hb0 g0 hb2 b2 g2 hb3
  go_wp2
  go_loopw [41] (fun v wr => v = .int .i64 0 ∧ wr = w3) (fun _ _ => 0)
  case atStart => exact ⟨rfl, rfl⟩
  case round =>
    obtain ⟨rfl, rfl⟩ := hrel
    go_wp2
    go_ret2
    exact ⟨_, rfl, Nat.le_refl _, g3, b3⟩

set_option maxRecDepth 100000 in
theorem all_nil (w : World) : Calls Tryz.prog 22 #[.pointer none] w fun e w' => e = .returned (.slice none 0 0) ∧ w = w' := by
  go_enter Tryz.func22, Tryz.ntmps22
  go_wp2
  go_ret
  exact ⟨rfl, rfl⟩
end Go.Proofs.YtkphklmgbdljiaaGreatDoor.Fd
