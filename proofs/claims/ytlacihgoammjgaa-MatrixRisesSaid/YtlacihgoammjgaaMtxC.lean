/- Package matrix: row, unfolded, list. -/
import Derived.Test.YtlacihgoammjgaaMtxB
import Derived.Deep.Cut
namespace Go.Proofs.Ytlacihgoammjgaa.Mtx
open Go Go.RowKit Go.Proofs.Ytlacihgoammjgaa.Words Go.Proofs.Ytlacihgoammjgaa.Vec
set_option linter.unusedVariables false
set_option linter.unusedSimpArgs false

def Hav.val (h : Hav) : Value := .slice h.A h.n h.c
def Hav.row (h : Hav) : Value := .agg #[.slice h.A h.n h.c, .int .u64 (h.t : Int)]
/-- Lists of events by their times: K lists at block ob; H are the times. -/
structure ListsAt (ob K : Nat) (L : Nat → Hav) (W : World) : Prop where
  cell : ∀ k, k < K → W.cell? ⟨ob, k, none⟩ = some (L k).val
  len : ∀ k, k < K → (L k).H.length = (L k).n
  time : ∀ k, k < K → ∀ j, j < (L k).n → ∃ b o, (L k).A = some ⟨b, o, none⟩ ∧ W.cell? ⟨b, o + j * 8 + 2, none⟩ = some (.int .u64 (at_ (L k).H j : Int)) ∧ 1 ≤ at_ (L k).H j ∧ at_ (L k).H j < 18446744073709551616
  few : K ≤ 1000 ∧ ∀ k, k < K → (L k).n ≤ 1000
theorem ListsAt.below {ob K : Nat} {L : Nat → Hav} {W W' : World} (h : ListsAt ob K L W) (hb : Below W.heap.size W W') : ListsAt ob K L W' :=
  ⟨fun k hk => by rw [hb.cell (World.block_lt_of_cell? _ _ (h.cell k hk))]; exact h.cell k hk, h.len, fun k hk j hj => by
    obtain ⟨b, o, h1, h2, h3⟩ := h.time k hk j hj
    exact ⟨b, o, h1, by rw [hb.cell (World.block_lt_of_cell? _ _ h2)]; exact h2, h3⟩, h.few⟩
theorem ListsAt.beside {ob K : Nat} {L : Nat → Hav} {S : List Nat} {W W' : World} (h : ListsAt ob K L W) (hb : Beside S W W') (h0 : ob ∉ S) (hS : ∀ k, k < K → 0 < (L k).n → ∀ a, (L k).A = some a → a.block ∉ S) : ListsAt ob K L W' :=
  ⟨fun k hk => hb.cell (h.cell k hk) h0, h.len, fun k hk j hj => by
    obtain ⟨b, o, h1, h2, h3⟩ := h.time k hk j hj
    exact ⟨b, o, h1, hb.cell h2 (show b ∉ S from hS k hk (by omega) ⟨b, o, none⟩ h1), h3⟩, h.few⟩
/-- The list of writer n, as the program asks for it. -/
def listOf (K : Nat) (L : Nat → Hav) (n : Nat) : Hav := if n < K then L n else noHav
def knownV (ob K : Nat) : Value := .agg #[.slice none 0 0, .slice (some ⟨ob, 0, none⟩) K K]

set_option maxRecDepth 100000 in
theorem rowM_any (mb k : Nat) (R : Nat → Hav) (w : World) (hM : MatAt mb R w) (hk : k < 64) :
    Calls Try.prog 40 #[.pointer (some ⟨mb, 0, none⟩), .int .i64 (k : Int)] w fun e w' => e = .returned (R k).row ∧ Below w.heap.size w w' := by
  obtain ⟨c1, c2⟩ := hM.cells hk
  have hms := hM.lt
  have hk64 : (k : Int) < 64 := by omega
  have hne : ¬ w.heap.size = mb := by omega
  have hne2 : ¬ mb = w.heap.size := by omega
  have B0 := Lib.hid (show Below w.heap.size w (w.alloc (.cells #[.slice none 0 0, .int .u64 0] 81)) from (Below.refl _ _).alloc (Nat.le_refl _) _)
  unfold Hav.row
  clear hM
  go_enter Try.func40, Try.ntmps40
  go_wp2_with fail
  refine (nodeM_any k hk _).mono ?_
  rintro e w1 ⟨rfl, rfl⟩
  go_wp2
  exact bodyPost_ret (v := .agg #[.slice (R k).A (R k).n (R k).c, .int .u64 ((R k).t : Int)]) (by simp [results, Try.results40, go_sem]) rfl ⟨rfl, ((Below.refl _ _).alloc (Nat.le_refl _) _)⟩

set_option maxRecDepth 100000 in
set_option maxHeartbeats 200000 in
theorem unfolded_any (h : Hav) (j ob K : Nat) (w : World) (hs : SeesU w h.A h.n h.H) (hj : j ≤ 900000) (hf : Fits h.H) :
    Calls Try.prog 59 #[h.row, .int .i64 (j : Int), knownV ob K] w fun e w' => e = .returned (.int .u64 (at_ h.H j : Int)) ∧ Below w.heap.size w w' := by
  obtain ⟨A, n, c, H, t⟩ := h
  have C3 := World.cell_new2 w (.slice A n c) (.int .u64 (t : Int)) 81
  obtain ⟨w0, hw0⟩ : ∃ u, u = w.alloc (.cells #[.slice A n c, .int .u64 (t : Int)] 81) := ⟨_, rfl⟩
  have C5 := World.cell_new2 w0 (.slice none 0 0) (.slice (some ⟨ob, 0, none⟩) K K) 60
  have B0 : Below w.heap.size w w0 := by rw [hw0]; exact (Below.refl _ _).alloc (Nat.le_refl _) _
  have hsz : w0.heap.size = w.heap.size + 1 := by rw [hw0]; simp
  obtain ⟨w1, hw1⟩ : ∃ u, u = w0.alloc (.cells #[.slice none 0 0, .slice (some ⟨ob, 0, none⟩) K K] 60) := ⟨_, rfl⟩
  have B1 : Below w0.heap.size w0 w1 := by rw [hw1]; exact (Below.refl _ _).alloc (Nat.le_refl _) _
  rw [← hw0] at C3
  rw [← hw1, hsz] at C5
  have k3 : w1.cell? ⟨w.heap.size, 0, none⟩ = some (.slice A n c) := by rw [B1.cell (p := ⟨w.heap.size, 0, none⟩) (by show w.heap.size < _; omega)]; exact C3.1
  have k5 := C5.1
  have HB := Lib.hid (B0.trans (B1.mono B0.size))
  have HS := Lib.hid (hs.below HB.out)
  have HW0 := Lib.hid hw0
  have HW1 := Lib.hid hw1
  clear C3 C5 B0 B1 hsz hw0 hw1 hs
  simp only [Hav.row, knownV]
  go_enter Try.func59, Try.ntmps59
  go_upto_region 1 with fail
  rw [← HW0.out, ← HW1.out]
  have hfj : at_ H j < 18446744073709551616 := hf j
  have G := fun k => Vec.get_at A n c H j (w1.drewN k) (HS.out.drewN k)
  have G0 := fun k => Vec.get_at none 0 0 [] j (w1.drewN k) (SeesU.nil _ _)
  rw [show at_ [] j = 0 by simp [at_]] at G0
  have HG := Lib.hid G
  have HG0 := Lib.hid G0
  have HR := Lib.hid (show IntKind.u64.wrap (at_ H j : Int) = (at_ H j : Int) by rw [IntKind.wrap_u64]; omega)
  clear G G0 HS hfj hf
  go_quiet (first | (with_reducible refine (HG.out _).mono ?_; intro e w1 h; exact ⟨h.1, _, h.2⟩) | (with_reducible refine (HG0.out _).mono ?_; intro e w1 h; exact ⟨h.1, _, h.2⟩))
  go_wp2
  go_ret
  exact ⟨by simpa using HR.out, HB.out.trans ((Vec.below_drewN w1 _).mono HB.out.size)⟩

set_option maxRecDepth 100000 in
theorem listM_any (n ob K : Nat) (L : Nat → Hav) (w : World) (hL : ListsAt ob K L w) :
    Calls Try.prog 60 #[knownV ob K, .int .i64 (n : Int)] w fun e w' => e = .returned (listOf K L n).val ∧ Below w.heap.size w w' := by
  unfold knownV listOf
  by_cases hn : n < K
  · rw [if_pos hn]
    have hc := hL.cell n hn
    have hc2 : ∀ o, (w.alloc o).cell? ⟨ob, n, none⟩ = some (L n).val := fun o => by rw [(Below.refl _ _).alloc (Nat.le_refl _) o |>.cell (World.block_lt_of_cell? _ _ hc)]; exact hc
    have hn2 : ¬ K ≤ n := by omega
    have hn3 : (n : Int) < (K : Int) := by omega
    unfold Hav.val at *
    go_enter Try.func60, Try.ntmps60
    go_wp2
    go_ret
    exact ⟨rfl, (Below.refl _ _).alloc (Nat.le_refl _) _⟩
  · rw [if_neg hn]
    have hn2 : K ≤ n := by omega
    unfold Hav.val noHav
    go_enter Try.func60, Try.ntmps60
    go_wp2
    go_ret
    exact ⟨rfl, (Below.refl _ _).alloc (Nat.le_refl _) _⟩
end Go.Proofs.Ytlacihgoammjgaa.Mtx
