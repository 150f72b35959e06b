/- The laws of layer 6, walked: awake, EventRight, EventOrders. -/
import Derived.Test.YtocokfgkbdfodaaEvRef
import Derived.Test.YtocokfgkbdfodaaEvPlace
import Derived.Test.YtocokfgkbdfodaaEvNear
import Derived.Test.YtocokfgkbdfodaaEvSame
import Derived.Test.YtocokfgkbdfodaaEvPlain
import Derived.BigQuiet
import Derived.Deep.Cut
import Derived.Deep.QuietTactic
namespace Go.Proofs.Ytocokfgkbdfodaa.Evt
open Go Go.RowKit Go.Proofs.Ytocokfgkbdfodaa.Words Go.Proofs.Ytocokfgkbdfodaa.Enc Go.Proofs.Ytocokfgkbdfodaa.Q Go.Proofs.Ytocokfgkbdfodaa.Made
set_option linter.unusedVariables false

theorem sample_right : Right ⟨1, 2, 3, 4, ⟨#[107]⟩, [], 0, 0⟩ :=
  ⟨by simp, by simp, by simp, by simp, by simp, by simp, by simp, by simp, fun h => by simp at h, fun _ => ⟨by decide, by decide⟩, fun h => by simp at h⟩
theorem sample_bytes : evL ⟨1, 2, 3, 4, ⟨#[107]⟩, [], 0, 0⟩ = [1, 2, 3, 4, 1, 107] := by
  rw [evL_drop rfl, enc_small (by simp), enc_small (by simp), enc_small (by simp), enc_small (by decide)]
  rfl
set_option maxRecDepth 100000 in
theorem awake_any (w : World) : Calls Try.prog 8 #[] w fun e' w' => e' = .returned (.bool true) ∧ Below w.heap.size w w' := by
  go_enter Try.func8, Try.ntmps8
  go_wp2_with fail
  refine (encode_any ⟨1, 2, 3, 4, ⟨#[107]⟩, [], 0, 0⟩ none 0 0 w (Sees.nil _ _) (by simp) sample_right).mono ?_
  rw [sample_bytes]
  rintro e w1 ⟨A1, c1, rfl, hown, hb⟩
  have r : (convert 23 9 (.slice A1 6 c1)).run Try.prog w1 = .ok (.string ⟨#[1, 2, 3, 4, 1, 107]⟩) w1 := (Sees.of_own hown).string (P := Try.prog) c1 (t := 23) (s := 9) (e := 5) Try.underlying23 Try.underlying5 Try.underlying9
  clear hown
  show match Ending.returned (.slice A1 6 c1), w1 with | _, _ => _
  go_wp2
  go_ret
  exact ⟨rfl, hb⟩

theorem cells2 {w : World} {b : Nat} {v0 v1 : Value} {T : TypeId} {f : Nat × Nat} (h : w.heap[b]? = some (.cells #[v0, v1] T f)) : w.cell? ⟨b, 0, none⟩ = some v0 ∧ w.cell? ⟨b, 1, none⟩ = some v1 := by
  refine ⟨?_, ?_⟩ <;> (rw [cell_of_row w b _ _ _ _ h]; rfl)

/-- The ways two places stand. -/
theorem stand (t1 : Nat) (w1 : Int) (t2 : Nat) (w2 : Int) :
    (decide (cmpS t1 w1 t2 w2 < 0) = true ∧ decide (0 < cmpS t1 w1 t2 w2) = false ∧ (cmpS t1 w1 t2 w2 == 0) = false ∧ decide (0 ≤ cmpS t1 w1 t2 w2) = false ∧ decide (cmpS t2 w2 t1 w1 < 0) = false ∧ (((t1 : Int) == t2) = false ∨ ((t1 : Int) == t2) = true ∧ (w1 == w2) = false)) ∨
    (decide (cmpS t1 w1 t2 w2 < 0) = false ∧ decide (0 < cmpS t1 w1 t2 w2) = true ∧ (cmpS t1 w1 t2 w2 == 0) = false ∧ decide (0 ≤ cmpS t1 w1 t2 w2) = true ∧ decide (cmpS t2 w2 t1 w1 < 0) = true ∧ (((t1 : Int) == t2) = false ∨ ((t1 : Int) == t2) = true ∧ (w1 == w2) = false)) ∨
    (decide (cmpS t1 w1 t2 w2 < 0) = false ∧ decide (0 < cmpS t1 w1 t2 w2) = false ∧ (cmpS t1 w1 t2 w2 == 0) = true ∧ decide (0 ≤ cmpS t1 w1 t2 w2) = true ∧ decide (cmpS t2 w2 t1 w1 < 0) = false ∧ t1 = t2 ∧ w1 = w2) := by
  have e : cmpS t2 w2 t1 w1 < 0 ↔ 0 < cmpS t1 w1 t2 w2 := by rw [cmpS_lt, cmpS_gt]
  have a := @cmpS_lt t1 w1 t2 w2
  have b := @cmpS_gt t1 w1 t2 w2
  rcases Int.lt_trichotomy (cmpS t1 w1 t2 w2) 0 with h | h | h
  · have h1 := a.1 h
    refine .inl ⟨by simp [h], by simp; omega, by rw [beq_eq_false_iff_ne]; omega, by simp; omega, by simp [e]; omega, ?_⟩
    by_cases ht : (t1 : Int) = t2
    · exact .inr ⟨by simp [ht], by rw [beq_eq_false_iff_ne]; omega⟩
    · exact .inl (by rw [beq_eq_false_iff_ne]; omega)
  · have h1 : ¬ (t1 < t2 ∨ t1 = t2 ∧ w1 < w2) := fun k => by have := a.2 k; omega
    have h2 : ¬ (t2 < t1 ∨ t2 = t1 ∧ w2 < w1) := fun k => by have := b.2 k; omega
    exact .inr (.inr ⟨by simp [h], by simp [h], by simp [h], by simp [h], by simp [e, h], by omega, by omega⟩)
  · have h1 := b.1 h
    refine .inr (.inl ⟨by simp; omega, by simp [h], by rw [beq_eq_false_iff_ne]; omega, by simp; omega, by simp [e, h], ?_⟩)
    by_cases ht : (t1 : Int) = t2
    · exact .inr ⟨by simp [ht], by rw [beq_eq_false_iff_ne]; omega⟩
    · exact .inl (by rw [beq_eq_false_iff_ne]; omega)
theorem cmpS_trans {t1 t2 t3 : Nat} {w1 w2 w3 : Int} (h1 : cmpS t1 w1 t2 w2 < 0) (h2 : cmpS t2 w2 t3 w3 < 0) : cmpS t1 w1 t3 w3 < 0 := by
  rw [cmpS_lt] at *
  omega

set_option maxRecDepth 100000 in
set_option maxHeartbeats 1000000 in
theorem orders_law (t1 t2 t3 : Nat) (w1 w2 w3 : Int) (w : World) :
    Calls Try.prog 6 #[spotV t1 w1, spotV t2 w2, spotV t3 w3] w fun e' w' => e' = .returned (.bool true) ∧ Below w.heap.size w w' := by
  unfold spotV
  have hbx : ∀ W, Below (w.heap.size + 3) (((w.alloc (.cells #[.int .u64 (t1 : Int), .int .i64 w1] 39)).alloc (.cells #[.int .u64 (t2 : Int), .int .i64 w2] 39)).alloc (.cells #[.int .u64 (t3 : Int), .int .i64 w3] 39)) W →
      (W.cell? ⟨w.heap.size, 0, none⟩ = some (.int .u64 (t1 : Int)) ∧ W.cell? ⟨w.heap.size, 1, none⟩ = some (.int .i64 w1)) ∧ (W.cell? ⟨w.heap.size + 1, 0, none⟩ = some (.int .u64 (t2 : Int)) ∧ W.cell? ⟨w.heap.size + 1, 1, none⟩ = some (.int .i64 w2)) ∧
      (W.cell? ⟨w.heap.size + 1 + 1, 0, none⟩ = some (.int .u64 (t3 : Int)) ∧ W.cell? ⟨w.heap.size + 1 + 1, 1, none⟩ = some (.int .i64 w3)) ∧ Below w.heap.size w W ∧ w.heap.size + 3 ≤ W.heap.size := by
    intro W hW
    obtain ⟨h1, h2, h3, h4, h5⟩ := boxes3 _ _ _ _ w hW
    exact ⟨cells2 h1, cells2 h2, cells2 h3, h4, h5⟩
  have HBX := Lib.hid hbx
  clear hbx
  have HTR := Lib.hid (@cmpS_trans t1 t2 t3 w1 w2 w3)
  rcases stand t1 w1 t2 w2 with ⟨x1, x2, x3, x4, x5, x6⟩ | ⟨x1, x2, x3, x4, x5, x6⟩ | ⟨x1, x2, x3, x4, x5, x6, x7⟩
  · rcases x6 with x6 | ⟨x6, x7⟩
    all_goals
      go_enter Try.func6, Try.ntmps6
      go_wp2_with fail
      refine (compare_any t1 w1 t2 w2 _).mono ?_
      rintro e u1 ⟨rfl, hb⟩
      have b1 := hb.mono (show w.heap.size + 3 ≤ _ by simp)
      obtain ⟨⟨p0, p1⟩, ⟨q0, q1⟩, ⟨r0, r1⟩, bel, hz⟩ := HBX.out u1 b1
      go_wp2_with fail
      refine (awake_any _).mono ?_
      rintro e u2 ⟨rfl, hb⟩
      have b2 := b1.trans (hb.mono (hz))
      clear p0 p1 q0 q1 r0 r1 bel
      clear hz
      obtain ⟨⟨p0, p1⟩, ⟨q0, q1⟩, ⟨r0, r1⟩, bel, hz⟩ := HBX.out u2 b2
      go_wp2_with fail
      refine (ahead_any t1 w1 t2 w2 _).mono ?_
      rintro e u3 ⟨rfl, hb⟩
      have b3 := b2.trans (hb.mono (hz))
      clear p0 p1 q0 q1 r0 r1 bel
      clear hz
      obtain ⟨⟨p0, p1⟩, ⟨q0, q1⟩, ⟨r0, r1⟩, bel, hz⟩ := HBX.out u3 b3
      try rw [x1]
      go_wp2_with fail
      refine (ahead_any t2 w2 t1 w1 _).mono ?_
      rintro e u4 ⟨rfl, hb⟩
      have b4 := b3.trans (hb.mono (hz))
      clear p0 p1 q0 q1 r0 r1 bel
      clear hz
      obtain ⟨⟨p0, p1⟩, ⟨q0, q1⟩, ⟨r0, r1⟩, bel, hz⟩ := HBX.out u4 b4
      try rw [x5]
      go_wp2_with fail
      refine (compare_any t2 w2 t3 w3 _).mono ?_
      rintro e u5 ⟨rfl, hb⟩
      have b5 := b4.trans (hb.mono (hz))
      clear p0 p1 q0 q1 r0 r1 bel
      clear hz
      obtain ⟨⟨p0, p1⟩, ⟨q0, q1⟩, ⟨r0, r1⟩, bel, hz⟩ := HBX.out u5 b5
      by_cases hy : cmpS t2 w2 t3 w3 < 0
      · have hz3 := HTR.out (by simpa using x1) hy
        have y1 : decide (0 ≤ cmpS t2 w2 t3 w3) = false := by simp; omega
        have y2 : decide (cmpS t1 w1 t3 w3 < 0) = true := by simp [hz3]
        clear hy hz3
        go_wp2_with fail
        refine (compare_any t1 w1 t3 w3 _).mono ?_
        rintro e u6 ⟨rfl, hb⟩
        have b6 := b5.trans (hb.mono (hz))
        clear p0 p1 q0 q1 r0 r1 bel
        clear hz
        obtain ⟨⟨p0, p1⟩, ⟨q0, q1⟩, ⟨r0, r1⟩, bel, hz⟩ := HBX.out u6 b6
        go_wp2
        go_ret
        exact ⟨rfl, bel⟩
      · have y1 : decide (0 ≤ cmpS t2 w2 t3 w3) = true := by simp; omega
        clear hy
        go_wp2
        go_ret
        exact ⟨rfl, bel⟩
  · rcases x6 with x6 | ⟨x6, x7⟩
    all_goals
      go_enter Try.func6, Try.ntmps6
      go_wp2_with fail
      refine (compare_any t1 w1 t2 w2 _).mono ?_
      rintro e u1 ⟨rfl, hb⟩
      have b1 := hb.mono (show w.heap.size + 3 ≤ _ by simp)
      obtain ⟨⟨p0, p1⟩, ⟨q0, q1⟩, ⟨r0, r1⟩, bel, hz⟩ := HBX.out u1 b1
      go_wp2_with fail
      refine (awake_any _).mono ?_
      rintro e u2 ⟨rfl, hb⟩
      have b2 := b1.trans (hb.mono (hz))
      clear p0 p1 q0 q1 r0 r1 bel
      clear hz
      obtain ⟨⟨p0, p1⟩, ⟨q0, q1⟩, ⟨r0, r1⟩, bel, hz⟩ := HBX.out u2 b2
      go_wp2_with fail
      refine (ahead_any t1 w1 t2 w2 _).mono ?_
      rintro e u3 ⟨rfl, hb⟩
      have b3 := b2.trans (hb.mono (hz))
      clear p0 p1 q0 q1 r0 r1 bel
      clear hz
      obtain ⟨⟨p0, p1⟩, ⟨q0, q1⟩, ⟨r0, r1⟩, bel, hz⟩ := HBX.out u3 b3
      try rw [x1]
      go_wp2_with fail
      refine (ahead_any t2 w2 t1 w1 _).mono ?_
      rintro e u4 ⟨rfl, hb⟩
      have b4 := b3.trans (hb.mono (hz))
      clear p0 p1 q0 q1 r0 r1 bel
      clear hz
      obtain ⟨⟨p0, p1⟩, ⟨q0, q1⟩, ⟨r0, r1⟩, bel, hz⟩ := HBX.out u4 b4
      try rw [x5]
      go_wp2
      go_ret
      exact ⟨rfl, bel⟩
  · subst x6
    subst x7
    go_enter Try.func6, Try.ntmps6
    go_wp2_with fail
    refine (compare_any t1 w1 t1 w1 _).mono ?_
    rintro e u1 ⟨rfl, hb⟩
    have b1 := hb.mono (show w.heap.size + 3 ≤ _ by simp)
    obtain ⟨⟨p0, p1⟩, ⟨q0, q1⟩, ⟨r0, r1⟩, bel, hz⟩ := HBX.out u1 b1
    go_wp2_with fail
    refine (awake_any _).mono ?_
    rintro e u2 ⟨rfl, hb⟩
    have b2 := b1.trans (hb.mono (hz))
    clear p0 p1 q0 q1 r0 r1 bel
    clear hz
    obtain ⟨⟨p0, p1⟩, ⟨q0, q1⟩, ⟨r0, r1⟩, bel, hz⟩ := HBX.out u2 b2
    go_wp2_with fail
    refine (ahead_any t1 w1 t1 w1 _).mono ?_
    rintro e u3 ⟨rfl, hb⟩
    have b3 := b2.trans (hb.mono (hz))
    clear p0 p1 q0 q1 r0 r1 bel
    clear hz
    obtain ⟨⟨p0, p1⟩, ⟨q0, q1⟩, ⟨r0, r1⟩, bel, hz⟩ := HBX.out u3 b3
    try rw [x1]
    go_wp2_with fail
    refine (ahead_any t1 w1 t1 w1 _).mono ?_
    rintro e u4 ⟨rfl, hb⟩
    have b4 := b3.trans (hb.mono (hz))
    clear p0 p1 q0 q1 r0 r1 bel
    clear hz
    obtain ⟨⟨p0, p1⟩, ⟨q0, q1⟩, ⟨r0, r1⟩, bel, hz⟩ := HBX.out u4 b4
    try rw [x5]
    go_wp2
    go_ret
    exact ⟨rfl, bel⟩
end Go.Proofs.Ytocokfgkbdfodaa.Evt
