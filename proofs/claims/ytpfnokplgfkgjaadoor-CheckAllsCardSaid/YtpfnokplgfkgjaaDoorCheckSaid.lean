/- What is asked of package check, function by function; the laws of layer 3 are walked out of this. -/
import Derived.Test.YtpfnokplgfkgjaaDoorBPlain
namespace Go.Proofs.YtpfnokplgfkgjaaDoor.Chk
open Go Go.RowKit Go.Proofs.YtpfnokplgfkgjaaDoor.Words Go.Proofs.YtpfnokplgfkgjaaDoor.Enc Go.Proofs.YtpfnokplgfkgjaaDoor.Made
set_option linter.unusedVariables false

theorem sees_nine (w : World) (e : TypeId) (fr : Nat × Nat) : Sees (w.alloc (.cells #[.int .u8 49, .int .u8 50, .int .u8 51, .int .u8 52, .int .u8 53, .int .u8 54, .int .u8 55, .int .u8 56, .int .u8 57] e fr)) (some ⟨w.heap.size, 0, none⟩) 9 [49, 50, 51, 52, 53, 54, 55, 56, 57] := by
  refine sees_marked w e _ fr 9 _ rfl fun j u hu => ?_
  match j, hu with
  | 0, hu => simp at hu; subst hu; rfl
  | 1, hu => simp at hu; subst hu; rfl
  | 2, hu => simp at hu; subst hu; rfl
  | 3, hu => simp at hu; subst hu; rfl
  | 4, hu => simp at hu; subst hu; rfl
  | 5, hu => simp at hu; subst hu; rfl
  | 6, hu => simp at hu; subst hu; rfl
  | 7, hu => simp at hu; subst hu; rfl
  | 8, hu => simp at hu; subst hu; rfl
theorem sum_ex : (Crc.sum [49, 50, 51, 52, 53, 54, 55, 56, 57]).toNat = 3808858755 := by decide +kernel

theorem awake_any (hsum : SumSaid) (w : World) (T : Tabs w) : Calls Tryd.prog 7 #[] w fun e w' => e = .returned (.bool true) ∧ Below w.heap.size w w' := by
  have h := fun (W : World) (A : Option Addr) (c : Nat) (hT : Tabs W) (hs : Sees W A 9 [49, 50, 51, 52, 53, 54, 55, 56, 57]) (hc : 9 ≤ c) => hsum A 9 c _ W hT hs hc (by omega)
  rw [sum_ex] at h
  have H := Lib.hid h
  clear h
  have hconv := fun (W : World) (C : Array Value) (n c : Nat) => Lib.run_convert_bytes_const (P := Tryd.prog) W 22 5 C n c Tryd.underlying22 Tryd.underlying5
  go_enter Tryd.func7, Tryd.ntmps7
  go_wp2_with fail
  refine (H.out _ _ 9 (T.below ((Below.refl _ _).alloc (Nat.le_refl _) _)) (sees_nine w _ _) (by omega)).mono ?_
  rintro e w1 ⟨rfl, hb1⟩
  go_wp2
  go_ret
  exact ⟨rfl, ((Below.refl _ _).alloc (Nat.le_refl _) _).trans (hb1.mono (by simp))⟩

end Go.Proofs.YtpfnokplgfkgjaaDoor.Chk
