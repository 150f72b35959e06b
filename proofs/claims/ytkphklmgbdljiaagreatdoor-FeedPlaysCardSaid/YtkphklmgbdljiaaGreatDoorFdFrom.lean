/- feed: the events from a number on. -/
import Derived.Test.YtkphklmgbdljiaaGreatDoorFdNext
import Derived.ChangeArms
namespace Go.Proofs.YtkphklmgbdljiaaGreatDoor.Fd
open Go Go.RowKit Go.Proofs.YtkphklmgbdljiaaGreatDoor.Words Go.Proofs.YtkphklmgbdljiaaGreatDoor.Enc Go.Proofs.YtkphklmgbdljiaaGreatDoor.Evt Go.Proofs.YtkphklmgbdljiaaGreatDoor.Made Go.Proofs.YtkphklmgbdljiaaGreatDoor.Dsk Go.Proofs.YtkphklmgbdljiaaGreatDoor.Sht Go.Proofs.YtkphklmgbdljiaaGreatDoor.Seg
set_option linter.unusedVariables false
set_option linter.unusedSimpArgs false

set_option maxRecDepth 100000 in
/-- The function that the search asks. -/
theorem fromAsk [Inhabited XS] (d f x : Nat) (sz : Int) (floor time : Nat) (R : List SegS) (safe : Nat) (A : Option Addr) (c : Nat) (S : List Nat) (h : Hd) (b3 b4 seq j : Nat) (r : SegS) (w : World) (F : FeedAt w d f x sz floor time R safe A c S h)
    (g3 : w.heap[b3]? = some (.cells #[.pointer (some ⟨f, 0, none⟩)] 26 (0, 0))) (g4 : w.heap[b4]? = some (.cells #[.int .u64 (seq : Int)] 30 (0, 0))) (hj : R[j]? = some r) (hlt : r.p.u + r.p.L.length < 18446744073709551616) :
    Calls Tryz.prog 59 #[.int .i64 (j : Int), .pointer (some ⟨b3, 0, none⟩), .pointer (some ⟨b4, 0, none⟩)] w fun e w' => e = .returned (.bool (decide (seq < r.p.u + r.p.L.length))) ∧ Below w.heap.size w w' := by
  obtain ⟨g, rfl, k0, k1, k2, k3⟩ := F.at_ hj
  obtain ⟨_, _, _, _, _, c5, _⟩ := F.cells
  have k4 : w.cell? ⟨b3, 0, none⟩ = some (.pointer (some ⟨f, 0, none⟩)) := by rw [cell_of_row w b3 _ _ _ _ g3]; rfl
  have k5 : w.cell? ⟨b4, 0, none⟩ = some (.int .u64 (seq : Int)) := by rw [cell_of_row w b4 _ _ _ _ g4]; rfl
  have h4 : b4 < w.heap.size := (Array.getElem?_eq_some_iff.1 g4).1
  have h3 : b3 < w.heap.size := (Array.getElem?_eq_some_iff.1 g3).1
  have hf : f < w.heap.size := F.lt f (by simp)
  have hg : g < w.heap.size := F.lt g (by simp [blk])
  have hjn : j < R.length := (List.getElem?_eq_some_iff.1 hj).1
  have NXS := Lib.hid (fun W => next_any (x : Int) r.p.u r.A r.p.L.length r.p.L.length (r.p.z x) W hlt)
  unfold segV at NXS
  have N1 : ∀ W, Below w.heap.size w W → Calls Tryz.prog 39 #[.agg #[.int .i64 (x : Int), .int .u64 (r.p.u : Int), .slice r.A r.p.L.length r.p.L.length, .int .i64 (r.p.z x : Int)]] W fun e w' => e = .returned (.int .u64 ((r.p.u + r.p.L.length : Nat) : Int)) ∧ Hid (Below w.heap.size w w') ∧ w'.cell? ⟨b3, 0, none⟩ = some (.pointer (some ⟨f, 0, none⟩)) ∧ w'.cell? ⟨f, 5, none⟩ = some (.slice (some ⟨g, 0, none⟩) R.length c) ∧ w'.cell? ⟨g, j * 4, none⟩ = some (.int .i64 (x : Int)) ∧ w'.cell? ⟨g, j * 4 + 1, none⟩ = some (.int .u64 (r.p.u : Int)) ∧ w'.cell? ⟨g, j * 4 + 2, none⟩ = some (.slice r.A r.p.L.length r.p.L.length) ∧ w'.cell? ⟨g, j * 4 + 3, none⟩ = some (.int .i64 (r.p.z x : Int)) ∧ w'.cell? ⟨b4, 0, none⟩ = some (.int .u64 (seq : Int)) := fun W hW => by
    refine (NXS.out W).mono ?_
    rintro e w' ⟨rfl, hb⟩
    have hb' := hW.trans (hb.mono hW.size)
    exact ⟨rfl, Lib.hid hb', (hb'.cell (p := ⟨b3, 0, none⟩) h3).trans k4, (hb'.cell (p := ⟨f, 5, none⟩) hf).trans c5, (hb'.cell (p := ⟨g, j * 4, none⟩) hg).trans k0, (hb'.cell (p := ⟨g, j * 4 + 1, none⟩) hg).trans k1, (hb'.cell (p := ⟨g, j * 4 + 2, none⟩) hg).trans k2, (hb'.cell (p := ⟨g, j * 4 + 3, none⟩) hg).trans k3, (hb'.cell (p := ⟨b4, 0, none⟩) h4).trans k5⟩
  have hd : decide ((seq : Int) < ((r.p.u + r.p.L.length : Nat) : Int)) = decide (seq < r.p.u + r.p.L.length) := by simp only [decide_eq_decide]; omega
  generalize r.p.u + r.p.L.length = nx at *
  generalize R.length = n at *
  generalize decide (seq < nx) = B at *
  clear F NXS hj hlt g3 g4
  go_enter Tryz.func59, Tryz.ntmps59
  go_wp2_with fail
  go_region_held3 (fun w' => w'.cell? ⟨b3, 0, none⟩ = some (.pointer (some ⟨f, 0, none⟩)) ∧ w'.cell? ⟨f, 5, none⟩ = some (.slice (some ⟨g, 0, none⟩) n c) ∧ w'.cell? ⟨g, j * 4, none⟩ = some (.int .i64 (x : Int)) ∧ w'.cell? ⟨g, j * 4 + 1, none⟩ = some (.int .u64 (r.p.u : Int)) ∧ w'.cell? ⟨g, j * 4 + 2, none⟩ = some (.slice r.A r.p.L.length r.p.L.length) ∧ w'.cell? ⟨g, j * 4 + 3, none⟩ = some (.int .i64 (r.p.z x : Int)) ∧ w'.cell? ⟨b4, 0, none⟩ = some (.int .u64 (seq : Int))) (go_keep)
    (first
      | (go_at_call 39
         refine (N1 _ ?h1).mono ?_
         case h1 => first | exact Below.refl _ _ | exact (Below.refl _ _).drew
         rintro e w7 ⟨rfl, HN, k4, c5, k0, k1, k2, k3, k5⟩))
  all_goals go_wp2
  all_goals go_ret
  all_goals exact ⟨by rw [← hd]; simp, HN.out⟩

set_option maxRecDepth 100000 in
/-- sort.Search, over that function. -/
theorem search_any (V3 V4 : Value) (n : Nat) (p : Nat → Bool) (w : World) (hn : n ≤ 1000000)
    (hf : ∀ W i, Below w.heap.size w W → i < n → Calls Tryz.prog 59 #[.int .i64 (i : Int), V3, V4] W fun e w' => e = .returned (.bool (p i)) ∧ Below W.heap.size W w')
    (hmono : ∀ a b, a ≤ b → b < n → p a = true → p b = true) :
    Calls Tryz.prog 58 #[.int .i64 (n : Int), .func (.func 59) #[] #[V3, V4]] w fun e w' =>
      ∃ k : Nat, e = .returned (.int .i64 (k : Int)) ∧ k ≤ n ∧ (∀ t, t < k → p t = false) ∧ (∀ t, k ≤ t → t < n → p t = true) ∧ Below w.heap.size w w' := by
  have HF := Lib.hid hf
  have M := Lib.hid hmono
  clear hf hmono
  go_enter Tryz.func58, Tryz.ntmps58
  go_wp2
  go_loopw [5, 6] (fun s5 s6 wr => ∃ lo hi : Nat, s5 = .int .i64 (lo : Int) ∧ s6 = .int .i64 (hi : Int) ∧ lo ≤ hi ∧ hi ≤ n ∧ Hid (Below w.heap.size w wr) ∧ Hid ((∀ t, t < lo → p t = false) ∧ (∀ t, hi ≤ t → t < n → p t = true))) (fun s5 s6 _ => (intOf s6).toNat - (intOf s5).toNat)
  case atStart => exact ⟨0, n, rfl, rfl, Nat.zero_le _, Nat.le_refl _, Lib.hid (Below.refl _ _), Lib.hid ⟨fun t ht => absurd ht (Nat.not_lt_zero _), fun t h1 h2 => by omega⟩⟩
  case round =>
    obtain ⟨lo, hi, rfl, rfl, hlh, hin, HB, I⟩ := hrel
    by_cases hlt : lo < hi
    · have hc := Lib.hid (HF.out wr ((lo + hi) / 2) HB.out (by omega))
      rw [show (((lo + hi) / 2 : Nat) : Int) = ((lo : Int) + (hi : Int)) / 2 by omega] at hc
      cases hp : p ((lo + hi) / 2) <;> rw [hp] at hc
      · have HP := Lib.hid hp
        clear hp
        go_wp2_with fail
        refine hc.out.mono ?_
        rintro e w' ⟨rfl, hb⟩
        have HB2 := Lib.hid (HB.out.trans (hb.mono HB.out.size))
        clear hb hc
        go_wp2
        go_roundw
        case rel =>
          refine ⟨(lo + hi) / 2 + 1, hi, by simp, rfl, by omega, hin, HB2, Lib.hid ⟨fun t ht => ?_, I.out.2⟩⟩
          cases ht2 : p t
          · rfl
          · have := M.out t ((lo + hi) / 2) (by omega) (by omega) ht2
            rw [HP.out] at this
            cases this
        case measure => simp [intOf]; omega
      · have HP := Lib.hid hp
        clear hp
        go_wp2_with fail
        refine hc.out.mono ?_
        rintro e w' ⟨rfl, hb⟩
        have HB2 := Lib.hid (HB.out.trans (hb.mono HB.out.size))
        clear hb hc
        go_wp2
        go_roundw
        case rel => exact ⟨lo, (lo + hi) / 2, rfl, by simp, by omega, by omega, HB2, Lib.hid ⟨I.out.1, fun t h1 h2 => M.out _ t h1 h2 HP.out⟩⟩
        case measure => simp [intOf]; omega
    · have he : lo = hi := by omega
      subst he
      go_wp2
      go_ret
      exact ⟨lo, rfl, hin, I.out.1, I.out.2, HB.out⟩
end Go.Proofs.YtkphklmgbdljiaaGreatDoor.Fd
