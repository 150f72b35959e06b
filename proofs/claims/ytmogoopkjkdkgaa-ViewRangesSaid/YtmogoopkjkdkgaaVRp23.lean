/- Layer 15: Range of a view. Layer 15: what events come to is a fold in its bounds. Layer 15: the law ViewRanges: small facts. -/
import Derived.Test.YtmogoopkjkdkgaaVRp19
import Derived.Test.YtmogoopkjkdkgaaVRp20
import Derived.Test.YtmogoopkjkdkgaaVRp21
import Derived.Test.YtmogoopkjkdkgaaVRp22
namespace Go.Proofs.Ytmogoopkjkdkgaa.Vw
open Go Go.RowKit Go.Proofs.Ytmogoopkjkdkgaa.Words Go.Proofs.Ytmogoopkjkdkgaa.Enc Go.Proofs.Ytmogoopkjkdkgaa.Q Go.Proofs.Ytmogoopkjkdkgaa.Evt Go.Proofs.Ytmogoopkjkdkgaa.Seg Go.Proofs.Ytmogoopkjkdkgaa.Fol Go.Proofs.Ytmogoopkjkdkgaa.Ord
set_option linter.unusedVariables false
set_option linter.unusedSimpArgs false

theorem rises_map {R r0 : List EvS} (h : R.map EvS.e = r0.map EvS.e) (hr : Rises r0) : Rises R := by
  have h1 : (r0.map EvS.e).Pairwise fun a b => a.time < b.time ∨ (a.time = b.time ∧ a.writer ≤ b.writer) := List.pairwise_map.2 hr
  rw [← h] at h1
  have h2 := List.pairwise_map.1 h1
  exact h2
/-- The first m events of a row behind a place, copied. -/
def PRng (ts : Nat) (ws : Int) (m : Nat) (R : List EvS) : Facts.Pred := ⟨fun v w => ∃ g S rs rest, v = .slice (some ⟨g, 0, none⟩) m m ∧ S.length = m ∧ RowAt g m S w ∧ S.map EvS.e = rs.map EvS.e ∧ (rs ++ rest).Perm (R.filter (aftB ts ws)) ∧ Rises rs ∧ (∀ r ∈ rs, ∀ e ∈ rest, evLe r e) ∧ rs.length = m,
  fun v w w' h hb => by
    obtain ⟨g, S, rs, rest, h1, h2, h3, h4⟩ := h
    exact ⟨g, S, rs, rest, h1, h2, h3.beside (Beside.of_below hb []) (fun x hx => by cases hx), h4⟩⟩
section
variable {w : World} {vb b0 st : Nat} {F0 F : Fo} {A : Option Addr} {c : Nat} {R : List EvS}
theorem good_view (h : ViewAt w vb b0 st F0 F A c R) (hr : Rises R) (gl : Nat) (T : TypeId) (hrow : w.heap[gl]? = some (.cells #[.slice A R.length c] T (0, 0))) : GoodLists w.heap.size w (some ⟨gl, 0, none⟩) [⟨A, c, R⟩] := by
  have hgl := (Array.getElem?_eq_some_iff.1 hrow).1
  refine ⟨⟨fun _ => ⟨gl, 0, hgl, rfl, fun j x hx => ?_⟩, fun x hx => ?_⟩, fun x hx => ?_, by simp, ?_, fun r hr => ?_⟩
  · match j, hx with
    | 0, hx =>
      simp at hx
      subst hx
      rw [cell_of_row w gl _ _ _ _ hrow]
      rfl
    | j + 1, hx => simp at hx
  · simp at hx
    subst hx
    refine ⟨h.cap, fun h0 => ?_⟩
    obtain ⟨b, o, h1, h2⟩ := h.raw h0
    refine ⟨b, o, ?_, h1, h2⟩
    have h3 : 0 < (rowsL R).length := by rw [rowsL_len]; exact Nat.mul_pos h0 (by omega)
    exact World.block_lt_of_cell? _ _ (h2 0 _ (List.getElem?_eq_getElem h3))
  · simp at hx
    subst hx
    exact hr
  · have := h.few; simp [flat]; omega
  · have hr2 : r ∈ R := by simpa [flat] using hr
    have hs := h.text r hr2
    refine ⟨hs, by have := h.small r hr2; omega, fun h0 a ha => ?_⟩
    obtain ⟨b, o, h1, h2⟩ := hs.2 h0
    rw [h1] at ha
    cases ha
    have h3 : 0 < r.e.text.length := by rw [hs.1]; exact h0
    exact World.block_lt_of_cell? _ _ (h2 0 _ (List.getElem?_eq_getElem h3))
set_option maxRecDepth 100000 in
set_option maxHeartbeats 4000000 in
theorem vrange_no (h : ViewAt w vb b0 st F0 F A c R) (ts : Nat) (ws most : Int) (hlt : decide (cmpS ts ws F0.time (F0.wr : Int) < 0) = true)  :
    Calls Try.prog 9 #[.pointer (some ⟨vb, 0, none⟩), .agg #[.int .u64 (ts : Int), .int .i64 ws], .int .i64 most] w fun e w' => e = .returned (.tuple #[.slice none 0 0, .int .i64 13]) ∧ Below w.heap.size w w' := by
  obtain ⟨u, hu⟩ : ∃ u, u = w.alloc (.cells #[.int .u64 (ts : Int), .int .i64 ws] 25) := ⟨_, rfl⟩
  have hb1 : Below w.heap.size w u := by rw [hu]; exact (Below.refl _ _).alloc (Nat.le_refl _) _
  have g0 : u.heap[w.heap.size]? = some (.cells #[.int .u64 (ts : Int), .int .i64 ws] 25 (0, 0)) := by rw [hu]; exact heap_alloc_new w _
  obtain ⟨B, hB⟩ : ∃ B, B = w.heap.size := ⟨_, rfl⟩
  rw [← hB] at g0
  have HVA := Lib.hid (h.below hb1)
  obtain ⟨ft, hft⟩ : ∃ t, t = F0.time := ⟨_, rfl⟩
  obtain ⟨fw, hfw⟩ : ∃ t, t = F0.wr := ⟨_, rfl⟩
  rw [← hft, ← hfw] at hlt
  obtain ⟨z, hz⟩ : ∃ z, z = cmpS ts ws ft (fw : Int) := ⟨_, rfl⟩
  rw [← hz] at hlt
  have HZ := Lib.hid hz
  have HLT := Lib.hid hlt
  have HB1 := Lib.hid hb1
  have HG0 := Lib.hid g0
  have HU := Lib.hid hu
  have HB := Lib.hid hB
  have HFT := Lib.hid (And.intro hft hfw)
  have HC := Lib.hid (fun (W : World) (hW : Below u.drew.heap.size u.drew W) => (by
    have h4 := (Below.refl u.heap.size u).drew.trans hW
    have g7 := (h4.block B (Array.getElem?_eq_some_iff.1 HG0.out).1).trans HG0.out
    exact ⟨⟨by rw [cell_of_row W B _ _ _ _ g7]; rfl, by rw [cell_of_row W B _ _ _ _ g7]; rfl⟩, HVA.out.below h4, h4⟩ : (W.cell? ⟨B, 0, none⟩ = some (.int .u64 (ts : Int)) ∧ W.cell? ⟨B, 1, none⟩ = some (.int .i64 ws)) ∧ ViewAt W vb b0 st F0 F A c R ∧ Below u.heap.size u W))
  have LA := Lib.hid (fun (W : World) (hv : ViewAt W vb b0 st F0 F A c R) => (by
    obtain ⟨S, mb, hs⟩ := hv.base
    rw [HFT.out.1, HFT.out.2]
    exact last_any W hs : Calls Try.prog 21 #[.pointer (some ⟨b0, 0, none⟩)] W fun e w' => e = .returned (.agg #[.int .u64 (ft : Int), .int .i64 (fw : Int)]) ∧ Below W.heap.size W w'))
  have CM := Lib.hid (fun (W : World) => (by rw [HZ.out]; exact compare_any ts ws ft (fw : Int) W : Calls Try.prog 20 #[.agg #[.int .u64 (ts : Int), .int .i64 ws], .agg #[.int .u64 (ft : Int), .int .i64 (fw : Int)]] W fun e w' => e = .returned (.int .i64 z) ∧ Below W.heap.size W w'))
  clear h hb1 g0 hu hB hft hfw hz hlt
  go_enter Try.func9, Try.ntmps9
  go_upto_region 1 with fail
  rw [← HU.out, ← HB.out]
  go_upto_region 3 with fail
  refine Facts.wp_region_preds (n := 28) (by kernel_rfl) (by kernel_rfl) rfl [Facts.Pred.is (.agg #[.int .u64 (ts : Int), .int .i64 ws]), Facts.Pred.is (.pointer (some ⟨vb, 0, none⟩)), Facts.Pred.is (.pointer (some ⟨vb, 0, none⟩)), Facts.Pred.is (.pointer (some ⟨vb, 0, none⟩)), Facts.Pred.is (.pointer (some ⟨b0, 0, none⟩)), Facts.Pred.is (.agg #[.int .u64 (ft : Int), .int .i64 (fw : Int)]), Facts.Pred.is (.int .i64 z), Facts.Pred.is (.bool true), Facts.Pred.is (.bool true)] ?_ ?_
  · refine ⟨?_, ?_, ?_, ?_, ?_, ?_, ?_, ?_, ?_, trivial⟩
    · refine Facts.step_is (.agg #[.int .u64 (ts : Int), .int .i64 ws]) fun a W hR hold hnew => ?_
      have f4 : a.tmps.getD 4 undef = .pointer (some ⟨B, 0, none⟩) := hold 4 (by kernel_rfl)
      obtain ⟨q0, q1⟩ := (HC.out W hR).1
      refine ⟨Facts.wanted_free rfl, ?_, fun _ => rfl⟩; simp [go_sem, Act.eval, f4, q0, q1]
    · refine Facts.step_is (.pointer (some ⟨vb, 0, none⟩)) fun a W hR hold hnew => ?_
      have f0 : a.tmps.getD 0 undef = .pointer (some ⟨vb, 0, none⟩) := hold 0 (by kernel_rfl)
      refine ⟨Facts.wanted_free rfl, ?_, fun _ => rfl⟩; simp [go_sem, Act.eval, f0]
    · refine Facts.step_is (.pointer (some ⟨vb, 0, none⟩)) fun a W hR hold hnew => ?_
      have f13 : a.tmps.getD 13 undef = .pointer (some ⟨vb, 0, none⟩) := hnew 1 13 (by kernel_rfl)
      refine ⟨Facts.wanted_free rfl, ?_, fun _ => rfl⟩; simp [go_sem, Act.eval, f13]
    · refine Facts.step_is (.pointer (some ⟨vb, 0, none⟩)) fun a W hR hold hnew => ?_
      have f14 : a.tmps.getD 14 undef = .pointer (some ⟨vb, 0, none⟩) := hnew 2 14 (by kernel_rfl)
      refine ⟨Facts.wanted_free rfl, ?_, fun _ => rfl⟩; simp [go_sem, Act.eval, f14]
    · refine Facts.step_is (.pointer (some ⟨b0, 0, none⟩)) fun a W hR hold hnew => ?_
      have f15 : a.tmps.getD 15 undef = .pointer (some ⟨vb, 0, none⟩) := hnew 3 15 (by kernel_rfl)
      have q := (HC.out W hR).2.1.cells.1
      refine ⟨Facts.wanted_free rfl, ?_, fun _ => rfl⟩; simp [go_sem, Act.eval, f15, q]
    · refine Facts.step_call fun a W hR hold hnew => ?_
      have f16 : a.tmps.getD 16 undef = .pointer (some ⟨b0, 0, none⟩) := hnew 4 16 (by kernel_rfl)
      refine ⟨Facts.wanted_free rfl, 21, #[.pointer (some ⟨b0, 0, none⟩)], by simp [go_sem, Act.eval, f16], ?_⟩
      refine (LA.out W (HC.out W hR).2.1).mono ?_
      rintro e w8 ⟨rfl, hb8⟩
      exact ⟨_, rfl, hb8, rfl⟩
    · refine Facts.step_call fun a W hR hold hnew => ?_
      have f12 : a.tmps.getD 12 undef = .agg #[.int .u64 (ts : Int), .int .i64 ws] := hnew 0 12 (by kernel_rfl)
      have f17 : a.tmps.getD 17 undef = .agg #[.int .u64 (ft : Int), .int .i64 (fw : Int)] := hnew 5 17 (by kernel_rfl)
      refine ⟨Facts.wanted_free rfl, 20, #[.agg #[.int .u64 (ts : Int), .int .i64 ws], .agg #[.int .u64 (ft : Int), .int .i64 (fw : Int)]], by simp [go_sem, Act.eval, f12, f17], ?_⟩
      refine (CM.out W).mono ?_
      rintro e w8 ⟨rfl, hb8⟩
      exact ⟨_, rfl, hb8, rfl⟩
    · refine Facts.step_is (.bool true) fun a W hR hold hnew => ?_
      have f18 : a.tmps.getD 18 undef = .int .i64 z := hnew 6 18 (by kernel_rfl)
      have hlt := HLT.out
      refine ⟨Facts.wanted_free rfl, ?_, fun _ => rfl⟩; simp [go_sem, Act.eval, f18, hlt]
    · refine Facts.step_is (.bool true) fun a W hR hold hnew => ?_
      have f19 : a.tmps.getD 19 undef = .bool true := hnew 7 19 (by kernel_rfl)
      refine ⟨Facts.wanted_free rfl, ?_, fun _ => rfl⟩; simp [go_sem, Act.eval, f19]
  · intro a w2 hR' hsize hdef hnew hold
    have f11 : a.tmps.getD 11 undef = .bool true := hnew 8 11 (by kernel_rfl)
    have f0 : a.tmps.getD 0 undef = Value.pointer (some ⟨vb, 0, none⟩) := hold 0 (Facts.not_dst (by kernel_rfl))
    have f2 : a.tmps.getD 2 undef = Value.int .i64 most := hold 2 (Facts.not_dst (by kernel_rfl))
    have f4 : a.tmps.getD 4 undef = Value.pointer (some ⟨B, 0, none⟩) := hold 4 (Facts.not_dst (by kernel_rfl))
    have f6 : a.tmps.getD 6 undef = Value.slice none 0 0 := hold 6 (Facts.not_dst (by kernel_rfl))
    have f7 : a.tmps.getD 7 undef = Value.int .i64 0 := hold 7 (Facts.not_dst (by kernel_rfl))
    obtain ⟨tm, df⟩ := a
    simp only [] at hdef hsize f0 f2 f4 f6 f7 f11
    obtain ⟨xq, hxq, hlit⟩ := Facts.lits tm hsize Facts.idx28 Facts.idx28_eq
    rw [hxq] at f0 f2 f4 f6 f7 f11
    simp only [Facts.idx28, List.map_cons, List.map_nil, f0, f2, f4, f6, f7, f11] at hlit
    clear f0 f2 f4 f6 f7 f11 hsize hnew hold hxq
    subst hlit
    subst hdef
    try simp only []
    have HBE := Lib.hid (HB1.out.trans ((HC.out w2 hR').2.2.mono HB1.out.size))
    clear hR' HC
    go_wp2
    go_returns
    exact ⟨rfl, HBE.out⟩
set_option maxRecDepth 100000 in
set_option maxHeartbeats 4000000 in
theorem vrange_yes (h : ViewAt w vb b0 st F0 F A c R) (ts : Nat) (ws most : Int) (hlt : decide (cmpS ts ws F0.time (F0.wr : Int) < 0) = false) (hr : Rises R) (m : Nat) (hmo : -9223372036854775808 ≤ most ∧ most ≤ 9223372036854775807) (hm : (m : Int) = max 0 (min most ((R.filter (aftB ts ws)).length : Int))) :
    Calls Try.prog 9 #[.pointer (some ⟨vb, 0, none⟩), .agg #[.int .u64 (ts : Int), .int .i64 ws], .int .i64 most] w fun e w' => ∃ g S rs rest, e = .returned (.tuple #[.slice (some ⟨g, 0, none⟩) m m, .int .i64 0]) ∧ (S.length = m ∧ RowAt g m S w' ∧ S.map EvS.e = rs.map EvS.e ∧ (rs ++ rest).Perm (R.filter (aftB ts ws)) ∧ Rises rs ∧ (∀ r ∈ rs, ∀ e ∈ rest, evLe r e) ∧ rs.length = m) ∧ Below w.heap.size w w' := by
  obtain ⟨u, hu⟩ : ∃ u, u = w.alloc (.cells #[.int .u64 (ts : Int), .int .i64 ws] 25) := ⟨_, rfl⟩
  have hb1 : Below w.heap.size w u := by rw [hu]; exact (Below.refl _ _).alloc (Nat.le_refl _) _
  have g0 : u.heap[w.heap.size]? = some (.cells #[.int .u64 (ts : Int), .int .i64 ws] 25 (0, 0)) := by rw [hu]; exact heap_alloc_new w _
  obtain ⟨B, hB⟩ : ∃ B, B = w.heap.size := ⟨_, rfl⟩
  rw [← hB] at g0
  have HVA := Lib.hid (h.below hb1)
  obtain ⟨ft, hft⟩ : ∃ t, t = F0.time := ⟨_, rfl⟩
  obtain ⟨fw, hfw⟩ : ∃ t, t = F0.wr := ⟨_, rfl⟩
  rw [← hft, ← hfw] at hlt
  obtain ⟨z, hz⟩ : ∃ z, z = cmpS ts ws ft (fw : Int) := ⟨_, rfl⟩
  rw [← hz] at hlt
  have HZ := Lib.hid hz
  have HLT := Lib.hid hlt
  have HB1 := Lib.hid hb1
  have HG0 := Lib.hid g0
  have HU := Lib.hid hu
  have HB := Lib.hid hB
  have HFT := Lib.hid (And.intro hft hfw)
  have HC := Lib.hid (fun (W : World) (hW : Below u.drew.heap.size u.drew W) => (by
    have h4 := (Below.refl u.heap.size u).drew.trans hW
    have g7 := (h4.block B (Array.getElem?_eq_some_iff.1 HG0.out).1).trans HG0.out
    exact ⟨⟨by rw [cell_of_row W B _ _ _ _ g7]; rfl, by rw [cell_of_row W B _ _ _ _ g7]; rfl⟩, HVA.out.below h4, h4⟩ : (W.cell? ⟨B, 0, none⟩ = some (.int .u64 (ts : Int)) ∧ W.cell? ⟨B, 1, none⟩ = some (.int .i64 ws)) ∧ ViewAt W vb b0 st F0 F A c R ∧ Below u.heap.size u W))
  have LA := Lib.hid (fun (W : World) (hv : ViewAt W vb b0 st F0 F A c R) => (by
    obtain ⟨S, mb, hs⟩ := hv.base
    rw [HFT.out.1, HFT.out.2]
    exact last_any W hs : Calls Try.prog 21 #[.pointer (some ⟨b0, 0, none⟩)] W fun e w' => e = .returned (.agg #[.int .u64 (ft : Int), .int .i64 (fw : Int)]) ∧ Below W.heap.size W w'))
  have CM := Lib.hid (fun (W : World) => (by rw [HZ.out]; exact compare_any ts ws ft (fw : Int) W : Calls Try.prog 20 #[.agg #[.int .u64 (ts : Int), .int .i64 ws], .agg #[.int .u64 (ft : Int), .int .i64 (fw : Int)]] W fun e w' => e = .returned (.int .i64 z) ∧ Below W.heap.size W w'))
  clear h hb1 g0 hu hB hft hfw hz hlt
  go_enter Try.func9, Try.ntmps9
  go_upto_region 1 with fail
  rw [← HU.out, ← HB.out]
  go_upto_region 3 with fail
  refine Facts.wp_region_preds (n := 28) (by kernel_rfl) (by kernel_rfl) rfl [Facts.Pred.is (.agg #[.int .u64 (ts : Int), .int .i64 ws]), Facts.Pred.is (.pointer (some ⟨vb, 0, none⟩)), Facts.Pred.is (.pointer (some ⟨vb, 0, none⟩)), Facts.Pred.is (.pointer (some ⟨vb, 0, none⟩)), Facts.Pred.is (.pointer (some ⟨b0, 0, none⟩)), Facts.Pred.is (.agg #[.int .u64 (ft : Int), .int .i64 (fw : Int)]), Facts.Pred.is (.int .i64 z), Facts.Pred.is (.bool false), Facts.Pred.is (.bool false)] ?_ ?_
  · refine ⟨?_, ?_, ?_, ?_, ?_, ?_, ?_, ?_, ?_, trivial⟩
    · refine Facts.step_is (.agg #[.int .u64 (ts : Int), .int .i64 ws]) fun a W hR hold hnew => ?_
      have f4 : a.tmps.getD 4 undef = .pointer (some ⟨B, 0, none⟩) := hold 4 (by kernel_rfl)
      obtain ⟨q0, q1⟩ := (HC.out W hR).1
      refine ⟨Facts.wanted_free rfl, ?_, fun _ => rfl⟩; simp [go_sem, Act.eval, f4, q0, q1]
    · refine Facts.step_is (.pointer (some ⟨vb, 0, none⟩)) fun a W hR hold hnew => ?_
      have f0 : a.tmps.getD 0 undef = .pointer (some ⟨vb, 0, none⟩) := hold 0 (by kernel_rfl)
      refine ⟨Facts.wanted_free rfl, ?_, fun _ => rfl⟩; simp [go_sem, Act.eval, f0]
    · refine Facts.step_is (.pointer (some ⟨vb, 0, none⟩)) fun a W hR hold hnew => ?_
      have f13 : a.tmps.getD 13 undef = .pointer (some ⟨vb, 0, none⟩) := hnew 1 13 (by kernel_rfl)
      refine ⟨Facts.wanted_free rfl, ?_, fun _ => rfl⟩; simp [go_sem, Act.eval, f13]
    · refine Facts.step_is (.pointer (some ⟨vb, 0, none⟩)) fun a W hR hold hnew => ?_
      have f14 : a.tmps.getD 14 undef = .pointer (some ⟨vb, 0, none⟩) := hnew 2 14 (by kernel_rfl)
      refine ⟨Facts.wanted_free rfl, ?_, fun _ => rfl⟩; simp [go_sem, Act.eval, f14]
    · refine Facts.step_is (.pointer (some ⟨b0, 0, none⟩)) fun a W hR hold hnew => ?_
      have f15 : a.tmps.getD 15 undef = .pointer (some ⟨vb, 0, none⟩) := hnew 3 15 (by kernel_rfl)
      have q := (HC.out W hR).2.1.cells.1
      refine ⟨Facts.wanted_free rfl, ?_, fun _ => rfl⟩; simp [go_sem, Act.eval, f15, q]
    · refine Facts.step_call fun a W hR hold hnew => ?_
      have f16 : a.tmps.getD 16 undef = .pointer (some ⟨b0, 0, none⟩) := hnew 4 16 (by kernel_rfl)
      refine ⟨Facts.wanted_free rfl, 21, #[.pointer (some ⟨b0, 0, none⟩)], by simp [go_sem, Act.eval, f16], ?_⟩
      refine (LA.out W (HC.out W hR).2.1).mono ?_
      rintro e w8 ⟨rfl, hb8⟩
      exact ⟨_, rfl, hb8, rfl⟩
    · refine Facts.step_call fun a W hR hold hnew => ?_
      have f12 : a.tmps.getD 12 undef = .agg #[.int .u64 (ts : Int), .int .i64 ws] := hnew 0 12 (by kernel_rfl)
      have f17 : a.tmps.getD 17 undef = .agg #[.int .u64 (ft : Int), .int .i64 (fw : Int)] := hnew 5 17 (by kernel_rfl)
      refine ⟨Facts.wanted_free rfl, 20, #[.agg #[.int .u64 (ts : Int), .int .i64 ws], .agg #[.int .u64 (ft : Int), .int .i64 (fw : Int)]], by simp [go_sem, Act.eval, f12, f17], ?_⟩
      refine (CM.out W).mono ?_
      rintro e w8 ⟨rfl, hb8⟩
      exact ⟨_, rfl, hb8, rfl⟩
    · refine Facts.step_is (.bool false) fun a W hR hold hnew => ?_
      have f18 : a.tmps.getD 18 undef = .int .i64 z := hnew 6 18 (by kernel_rfl)
      have hlt := HLT.out
      refine ⟨Facts.wanted_free rfl, ?_, fun _ => rfl⟩; simp [go_sem, Act.eval, f18, hlt]
    · refine Facts.step_is (.bool false) fun a W hR hold hnew => ?_
      have f19 : a.tmps.getD 19 undef = .bool false := hnew 7 19 (by kernel_rfl)
      refine ⟨Facts.wanted_free rfl, ?_, fun _ => rfl⟩; simp [go_sem, Act.eval, f19]
  · intro a w2 hR' hsize hdef hnew hold
    have f11 : a.tmps.getD 11 undef = .bool false := hnew 8 11 (by kernel_rfl)
    have f0 : a.tmps.getD 0 undef = Value.pointer (some ⟨vb, 0, none⟩) := hold 0 (Facts.not_dst (by kernel_rfl))
    have f2 : a.tmps.getD 2 undef = Value.int .i64 most := hold 2 (Facts.not_dst (by kernel_rfl))
    have f4 : a.tmps.getD 4 undef = Value.pointer (some ⟨B, 0, none⟩) := hold 4 (Facts.not_dst (by kernel_rfl))
    have f6 : a.tmps.getD 6 undef = Value.slice none 0 0 := hold 6 (Facts.not_dst (by kernel_rfl))
    have f7 : a.tmps.getD 7 undef = Value.int .i64 0 := hold 7 (Facts.not_dst (by kernel_rfl))
    obtain ⟨tm, df⟩ := a
    simp only [] at hdef hsize f0 f2 f4 f6 f7 f11
    obtain ⟨xq, hxq, hlit⟩ := Facts.lits tm hsize Facts.idx28 Facts.idx28_eq
    rw [hxq] at f0 f2 f4 f6 f7 f11
    simp only [Facts.idx28, List.map_cons, List.map_nil, f0, f2, f4, f6, f7, f11] at hlit
    clear f0 f2 f4 f6 f7 f11 hsize hnew hold hxq
    subst hlit
    subst hdef
    try simp only []
    have HVB := Lib.hid (HC.out w2 hR').2.1
    have HSP := Lib.hid (HC.out w2 hR').1
    have HB2 := Lib.hid (HB1.out.trans ((HC.out w2 hR').2.2.mono HB1.out.size))
    have HR2 := Lib.hid (And.intro hr (And.intro hmo hm))
    obtain ⟨N, hN⟩ : ∃ N, N = R.length := ⟨_, rfl⟩
    have HNN := Lib.hid hN
    have HC2 := Lib.hid (fun (W : World) (hW : Below w2.drew.heap.size w2.drew W) => (by
      have h4 := (Below.refl w2.heap.size w2).drew.trans hW
      have old : ∀ {q : Addr} {v : Value}, w2.cell? q = some v → W.cell? q = some v := fun {q v} hq => by rw [h4.cell (World.block_lt_of_cell? _ _ hq)]; exact hq
      have hv := HVB.out.below h4
      exact ⟨⟨old HSP.out.1, old HSP.out.2⟩, by rw [HNN.out]; exact hv.cells.2.1, hv, h4⟩ : (W.cell? ⟨B, 0, none⟩ = some (.int .u64 (ts : Int)) ∧ W.cell? ⟨B, 1, none⟩ = some (.int .i64 ws)) ∧ W.cell? ⟨vb, 1, none⟩ = some (.slice A N c) ∧ ViewAt W vb b0 st F0 F A c R ∧ Below w2.heap.size w2 W))
    have RNG := Lib.hid (fun (W : World) (hv : ViewAt W vb b0 st F0 F A c R) (gl : Nat) (hrow : W.heap[gl]? = some (.cells #[.slice A N c] 27 (0, 0))) => (by
      rw [HNN.out] at hrow
      have hfl : flat [HV.mk A c R] = R := by simp [flat]
      have h1 := range_any (some ⟨gl, 0, none⟩) 1 [⟨A, c, R⟩] W (good_view hv HR2.out.1 gl _ hrow) (by simp) (by rw [hfl]; exact hv.few) ts ws most HR2.out.2.1.1 HR2.out.2.1.2 m (by rw [hfl]; exact HR2.out.2.2)
      unfold RangeGives at h1
      rw [hfl] at h1
      refine h1.mono ?_
      rintro e w' ⟨g, S, rs, rest, rfl, h2, h3, h4, h5, h6, h7, h8, h9, hb⟩
      exact ⟨g, S, rs, rest, rfl, ⟨h2, h3, h5, h6, h7, h8, h9⟩, hb⟩ : Calls Try.prog 22 #[.slice (some ⟨gl, 0, none⟩) 1 1, .agg #[.int .u64 (ts : Int), .int .i64 ws], .int .i64 most] W fun e w' => ∃ g S rs rest, e = .returned (.slice (some ⟨g, 0, none⟩) m m) ∧ (S.length = m ∧ RowAt g m S w' ∧ S.map EvS.e = rs.map EvS.e ∧ (rs ++ rest).Perm (R.filter (aftB ts ws)) ∧ Rises rs ∧ (∀ r ∈ rs, ∀ e ∈ rest, evLe r e) ∧ rs.length = m) ∧ Below W.heap.size W w'))
    clear hR' HC hN hr hmo hm
    go_upto_region 5 with fail
    refine Facts.wp_region_preds (n := 28) (by kernel_rfl) (by kernel_rfl) rfl [Facts.Pred.is (.pointer (some ⟨vb, 0, none⟩)), Facts.Pred.is (.pointer (some ⟨vb, 0, none⟩)), Facts.Pred.is (.pointer (some ⟨vb, 1, none⟩)), Facts.Pred.is (.slice A N c), PBlk (.cells #[.slice A N c] 27 (0, 0)), Facts.Pred.is (.agg #[.int .u64 (ts : Int), .int .i64 ws]), Facts.Pred.is (.int .i64 most), PRng ts ws m R, PRng ts ws m R, Facts.Pred.is (.int .i64 0)] ?_ ?_
    · refine ⟨?_, ?_, ?_, ?_, ?_, ?_, ?_, ?_, ?_, ?_, trivial⟩
      · refine Facts.step_is (.pointer (some ⟨vb, 0, none⟩)) fun a W hR hold hnew => ?_
        have f0 : a.tmps.getD 0 undef = .pointer (some ⟨vb, 0, none⟩) := hold 0 (by kernel_rfl)
        refine ⟨Facts.wanted_free rfl, ?_, fun _ => rfl⟩; simp [go_sem, Act.eval, f0]
      · refine Facts.step_is (.pointer (some ⟨vb, 0, none⟩)) fun a W hR hold hnew => ?_
        have f20 : a.tmps.getD 20 undef = .pointer (some ⟨vb, 0, none⟩) := hnew 0 20 (by kernel_rfl)
        refine ⟨Facts.wanted_free rfl, ?_, fun _ => rfl⟩; simp [go_sem, Act.eval, f20]
      · refine Facts.step_is (.pointer (some ⟨vb, 1, none⟩)) fun a W hR hold hnew => ?_
        have f21 : a.tmps.getD 21 undef = .pointer (some ⟨vb, 0, none⟩) := hnew 1 21 (by kernel_rfl)
        refine ⟨Facts.wanted_free rfl, ?_, fun _ => rfl⟩; simp [go_sem, Act.eval, f21]
      · refine Facts.step_is (.slice A N c) fun a W hR hold hnew => ?_
        have f22 : a.tmps.getD 22 undef = .pointer (some ⟨vb, 1, none⟩) := hnew 2 22 (by kernel_rfl)
        have q := (HC2.out W hR).2.1
        refine ⟨Facts.wanted_free rfl, ?_, fun _ => rfl⟩; simp [go_sem, Act.eval, f22, q]
      · refine Facts.step_new fun a W hR hold hnew => ?_
        have f23 : a.tmps.getD 23 undef = .slice A N c := hnew 3 23 (by kernel_rfl)
        rw [Array.getD_eq_getD_getElem?] at f23
        exact ⟨Facts.wanted_free rfl, .slice (some ⟨W.heap.size, 0, none⟩) 1 1, W.alloc (.cells #[.slice A N c] 27), by simp [go_sem, Act.eval, f23], (Below.refl _ _).alloc (Nat.le_refl _) _, W.heap.size, rfl, heap_alloc_new W _⟩
      · refine Facts.step_is (.agg #[.int .u64 (ts : Int), .int .i64 ws]) fun a W hR hold hnew => ?_
        have f4 : a.tmps.getD 4 undef = .pointer (some ⟨B, 0, none⟩) := hold 4 (by kernel_rfl)
        obtain ⟨q0, q1⟩ := (HC2.out W hR).1
        refine ⟨Facts.wanted_free rfl, ?_, fun _ => rfl⟩; simp [go_sem, Act.eval, f4, q0, q1]
      · refine Facts.step_is (.int .i64 most) fun a W hR hold hnew => ?_
        have f2 : a.tmps.getD 2 undef = .int .i64 most := hold 2 (by kernel_rfl)
        refine ⟨Facts.wanted_free rfl, ?_, fun _ => rfl⟩; simp [go_sem, Act.eval, f2]
      · refine Facts.step_call fun a W hR hold hnew => ?_
        have h24 : ∃ g, a.tmps.getD 24 undef = .slice (some ⟨g, 0, none⟩) 1 1 ∧ W.heap[g]? = some (.cells #[.slice A N c] 27 (0, 0)) := hnew 4 24 (by kernel_rfl)
        obtain ⟨g24, f24, h24⟩ := h24
        have f25 : a.tmps.getD 25 undef = .agg #[.int .u64 (ts : Int), .int .i64 ws] := hnew 5 25 (by kernel_rfl)
        have f26 : a.tmps.getD 26 undef = .int .i64 most := hnew 6 26 (by kernel_rfl)
        refine ⟨Facts.wanted_free rfl, 22, #[.slice (some ⟨g24, 0, none⟩) 1 1, .agg #[.int .u64 (ts : Int), .int .i64 ws], .int .i64 most], by simp [go_sem, Act.eval, f24, f25, f26], ?_⟩
        refine (RNG.out W (HC2.out W hR).2.2.1 g24 h24).mono ?_
        rintro e w8 ⟨g8, S8, rs8, rest8, rfl, p8, hb8⟩
        exact ⟨_, rfl, hb8, g8, S8, rs8, rest8, rfl, p8⟩
      · refine Facts.step_some fun a W hR hold hnew => ?_
        have h27 : ∃ g S rs rest, a.tmps.getD 27 undef = .slice (some ⟨g, 0, none⟩) m m ∧ S.length = m ∧ RowAt g m S W ∧ S.map EvS.e = rs.map EvS.e ∧ (rs ++ rest).Perm (R.filter (aftB ts ws)) ∧ Rises rs ∧ (∀ r ∈ rs, ∀ e ∈ rest, evLe r e) ∧ rs.length = m := hnew 7 27 (by kernel_rfl)
        obtain ⟨g27, S27, rs27, rest27, f27, p27⟩ := h27
        exact ⟨Facts.wanted_free rfl, .slice (some ⟨g27, 0, none⟩) m m, by simp [go_sem, Act.eval, f27], g27, S27, rs27, rest27, rfl, p27⟩
      · refine Facts.step_is (.int .i64 0) fun a W hR hold hnew => ?_
        refine ⟨Facts.wanted_free rfl, ?_, fun _ => rfl⟩; simp [go_sem, Act.eval]
    · intro a w3 hR' hsize hdef hnew hold
      have h6 : ∃ g S rs rest, a.tmps.getD 6 undef = .slice (some ⟨g, 0, none⟩) m m ∧ S.length = m ∧ RowAt g m S w3 ∧ S.map EvS.e = rs.map EvS.e ∧ (rs ++ rest).Perm (R.filter (aftB ts ws)) ∧ Rises rs ∧ (∀ r ∈ rs, ∀ e ∈ rest, evLe r e) ∧ rs.length = m := hnew 8 6 (by kernel_rfl)
      obtain ⟨g6, S6, rs6, rest6, f6, p6⟩ := h6
      have f7 : a.tmps.getD 7 undef = .int .i64 0 := hnew 9 7 (by kernel_rfl)
      have f0 : a.tmps.getD 0 undef = Value.pointer (some ⟨vb, 0, none⟩) := hold 0 (Facts.not_dst (by kernel_rfl))
      obtain ⟨tm, df⟩ := a
      simp only [] at hdef hsize f0 f6 f7
      obtain ⟨xq, hxq, hlit⟩ := Facts.lits tm hsize Facts.idx28 Facts.idx28_eq
      rw [hxq] at f0 f6 f7
      simp only [Facts.idx28, List.map_cons, List.map_nil, f0, f6, f7] at hlit
      clear f0 f6 f7 hsize hnew hold hxq
      subst hlit
      subst hdef
      try simp only []
      have HBE := Lib.hid (HB2.out.trans ((HC2.out w3 hR').2.2.2.mono HB2.out.size))
      have HP6 := Lib.hid p6
      clear hR' HC2 p6 RNG
      go_wp2
      go_returns
      exact ⟨g6, S6, rs6, rest6, rfl, HP6.out, HBE.out⟩
end
end Go.Proofs.Ytmogoopkjkdkgaa.Vw
namespace Go.Proofs.Ytmogoopkjkdkgaa.Vw
open Go Go.RowKit Go.Proofs.Ytmogoopkjkdkgaa.Words Go.Proofs.Ytmogoopkjkdkgaa.Enc Go.Proofs.Ytmogoopkjkdkgaa.Q Go.Proofs.Ytmogoopkjkdkgaa.Evt Go.Proofs.Ytmogoopkjkdkgaa.Seg Go.Proofs.Ytmogoopkjkdkgaa.Fol
set_option linter.unusedVariables false
set_option linter.unusedSimpArgs false

theorem sum_fit (F : Fo) (k : Key) {x : Nat} (hx : x < 18446744073709551616) : sumOf F k x < 18446744073709551616 ∧ qb (sumOf F k x) = sumOf F k x := by
  unfold sumOf
  split
  · split
    · exact ⟨ob_lt _ _, qb_ob _⟩
    · exact ⟨qb_lt x hx, qb_qb x⟩
  · exact ⟨qb_lt x hx, qb_qb x⟩
theorem ok_apply {F : Fo} {e : Ev} (ok : Ok F) (hq : e.num < 18446744073709551616) : Ok (applyF F e) := by
  unfold applyF
  split
  · rename_i h
    have hr : rightE e = 0 := by
      unfold applyE at h
      by_cases h1 : rightE e = 0
      · exact h1
      · rw [if_pos h1] at h; exact absurd h h1
    have hR := (right_iff e).1 hr
    have hk : e.kind ≤ 4 → e.key.data.toList.length ≤ 64 := fun h4 => by have := (hR.key h4).2; rw [show e.key.data.toList.length = e.key.size by simp]; exact this
    have hc : Ok (change F e) := by
      unfold change
      split
      · rename_i h1; exact ok_ins ok (hk (by omega)) ⟨hR.text h1, by show (0 : Nat) < _; omega, .inl rfl, qb_zero⟩
      · split
        · rename_i h2; exact ok_ins ok (hk (by omega)) ⟨by simp, qb_lt _ hq, .inr rfl, qb_qb _⟩
        · split
          · rename_i h3; exact ok_ins ok (hk (by omega)) ⟨by simp, (sum_fit F _ hq).1, .inr rfl, (sum_fit F _ hq).2⟩
          · split
            · exact ok_del ok _
            · split
              · exact ok_J ok _
              · exact ok_R ok _
    have h1 := ok_H hc e.writer.toNat hR.s2
    have h2 := ok_time h1 hR.t2
    have h3 := ok_wr h2 (t := e.writer.toNat) (by have := hR.w2; omega)
    have h4 := ok_mark h3 (hashL_lt (evL e) ok.mark)
    have e1 : (change F e).H = F.H := by unfold change; split; rfl; split; rfl; split; rfl; split; rfl; split <;> rfl
    have h5 := h4.h
    have h6 := h4.hs
    simp only [e1] at h5 h6
    exact ⟨h4.rise, h4.j, h4.r, h5, h6, h4.time, h4.wr, h4.mark, h4.cel, h4.plain⟩
  · exact ok
theorem all_len {l : List Ev} (hq : ∀ e ∈ l, e.num < 18446744073709551616) {F : Fo} (ok : Ok F) : (applyAll F l).L.length ≤ F.L.length + l.length := by
  unfold applyAll
  induction l generalizing F with
  | nil => exact Nat.le_refl _
  | cons e r ih =>
    have h1 := ih (fun x hx => hq x (List.mem_cons_of_mem _ hx)) (ok_apply ok (hq e List.mem_cons_self))
    have h2 := apply_len (e := e) ok
    rw [List.foldl_cons, List.length_cons]
    omega
end Go.Proofs.Ytmogoopkjkdkgaa.Vw
namespace Go.Proofs.Ytmogoopkjkdkgaa.Vw
open Go Go.RowKit Go.Proofs.Ytmogoopkjkdkgaa.Words Go.Proofs.Ytmogoopkjkdkgaa.Enc Go.Proofs.Ytmogoopkjkdkgaa.Q Go.Proofs.Ytmogoopkjkdkgaa.Evt Go.Proofs.Ytmogoopkjkdkgaa.Seg Go.Proofs.Ytmogoopkjkdkgaa.Fol Go.Proofs.Ytmogoopkjkdkgaa.Ord
set_option linter.unusedVariables false
set_option linter.unusedSimpArgs false

theorem evAt_drop {R : List EvS} {p q : Nat} (h : p + q < R.length) : evAt (R.drop p) q = evAt R (p + q) := by
  have h1 : q < (R.drop p).length := by rw [List.length_drop]; omega
  have h2 := evAt_get h1
  rw [List.getElem?_drop, evAt_get h] at h2
  exact (Option.some.inj h2).symm
/-- Where a fold of the first events ends. -/
theorem last_of {W : World} {AR : Option Addr} {R : List EvS} (E : Evs W AR R) {j : Nat} {r : EvS} (hr : R[j]? = some r) : (applyAll (newF 3) ((R.take (j + 1)).map EvS.e)).time = r.e.time ∧ ((applyAll (newF 3) ((R.take (j + 1)).map EvS.e)).wr : Int) = r.e.writer := by
  have h1 := applyAll_take (newF 3) (R.map EvS.e) j (e := r.e) (by rw [List.getElem?_map, hr]; rfl)
  rw [← List.map_take, ← List.map_take] at h1
  have h2 := Flows.at_ (E.flows 3) (j := j) (e := r.e) (by rw [List.getElem?_map, hr]; rfl)
  rw [← List.map_take] at h2
  rw [h1]
  have h3 := (E.right r (List.mem_of_getElem? hr)).w1
  unfold applyF taken
  rw [if_pos h2]
  exact ⟨rfl, Int.toNat_of_nonneg h3⟩
theorem filter_map_e {ts : Nat} {ws : Int} : ∀ {R Q : List EvS}, R.map EvS.e = Q.map EvS.e → (R.filter (aftB ts ws)).map EvS.e = (Q.filter (aftB ts ws)).map EvS.e
  | [], [], _ => rfl
  | [], _ :: _, h => by simp at h
  | _ :: _, [], h => by simp at h
  | a :: R, b :: Q, h => by
    simp only [List.map_cons, List.cons.injEq] at h
    have hab : aftB ts ws a = aftB ts ws b := by unfold aftB; rw [h.1]
    have ih := filter_map_e (ts := ts) (ws := ws) h.2
    by_cases hc : aftB ts ws b = true
    · rw [List.filter_cons_of_pos (by rw [hab]; exact hc), List.filter_cons_of_pos hc, List.map_cons, List.map_cons, h.1, ih]
    · rw [List.filter_cons_of_neg (by rw [hab]; exact hc), List.filter_cons_of_neg hc, ih]
/-- Events of a row that has those of another one: no two of them stand at one place. -/
theorem anti_e {R Q : List EvS} (h : R.map EvS.e = Q.map EvS.e) (hq : ∀ a b, a ∈ Q → b ∈ Q → evLe a b → evLe b a → a = b) {a b : EvS} (ha : a ∈ R) (hb : b ∈ R) (h1 : evLe a b) (h2 : evLe b a) : a.e = b.e := by
  have ha2 : a.e ∈ Q.map EvS.e := by rw [← h]; exact List.mem_map.2 ⟨a, ha, rfl⟩
  have hb2 : b.e ∈ Q.map EvS.e := by rw [← h]; exact List.mem_map.2 ⟨b, hb, rfl⟩
  obtain ⟨a', ha', ea⟩ := List.mem_map.1 ha2
  obtain ⟨b', hb', eb⟩ := List.mem_map.1 hb2
  have := hq a' b' ha' hb' (by unfold evLe at h1 ⊢; rw [ea, eb]; exact h1) (by unfold evLe at h2 ⊢; rw [ea, eb]; exact h2)
  rw [← ea, ← eb, this]
/-- What is taken first is what stands first. -/
theorem split_e {L rs rest : List EvS} (hL : Rises L) (hp : (rs ++ rest).Perm L) (hr : Rises rs) (hle : ∀ r ∈ rs, ∀ e ∈ rest, evLe r e) (anti : ∀ a b, a ∈ L → b ∈ L → evLe a b → evLe b a → a.e = b.e) : rs.map EvS.e = (L.take rs.length).map EvS.e := by
  let le : EvS → EvS → Bool := fun a b => decide (a.e.time < b.e.time ∨ (a.e.time = b.e.time ∧ a.e.writer ≤ b.e.writer))
  have hms := List.pairwise_mergeSort (le := le) (fun a b c h1 h2 => by
    have h1 := of_decide_eq_true h1; have h2 := of_decide_eq_true h2
    exact decide_eq_true (evLe_trans a b c h1 h2)) (fun a b => by
    rcases evLe_total a b with h | h
    · simp [le]; unfold evLe at h; omega
    · simp [le]; unfold evLe at h; omega) rest
  have hmp : (rest.mergeSort le).Perm rest := List.mergeSort_perm rest le
  have hm : Rises (rest.mergeSort le) := hms.imp fun h => of_decide_eq_true h
  obtain ⟨rest', hrs'⟩ : ∃ r, r = rest.mergeSort le := ⟨_, rfl⟩
  rw [← hrs'] at hmp hm
  have hs : Rises (rs ++ rest') := List.pairwise_append.2 ⟨hr, hm, fun a ha b hb => hle a ha b (hmp.mem_iff.1 hb)⟩
  have hpp : (rs ++ rest').Perm L := (hmp.append_left rs).trans hp
  have he : (rs ++ rest').map EvS.e = L.map EvS.e := by
    refine List.Perm.eq_of_pairwise (le := fun a b : Ev => a.time < b.time ∨ (a.time = b.time ∧ a.writer ≤ b.writer)) (fun a b ha hb h1 h2 => ?_) (List.pairwise_map.2 hs) (List.pairwise_map.2 hL) (hpp.map _)
    obtain ⟨a', ha', rfl⟩ := List.mem_map.1 ha
    obtain ⟨b', hb', rfl⟩ := List.mem_map.1 hb
    exact anti a' b' (hpp.mem_iff.1 ha') hb' h1 h2
  have := congrArg (List.take rs.length) he
  rw [List.map_append, List.take_append_of_le_length (by simp), List.take_of_length_le (by simp)] at this
  rw [List.map_take]
  exact this
theorem len_60 {W : World} {AR : Option Addr} {R : List EvS} (E : Evs W AR R) (hR : R.length ≤ 60) (k : Nat) : (applyAll (newF 3) ((R.take k).map EvS.e)).L.length ≤ 60 := by
  have := all_len (l := (R.take k).map EvS.e) (F := newF 3) (fun e he => by
    obtain ⟨r, hr, rfl⟩ := List.mem_map.1 he
    exact (E.sees.fit r (List.mem_of_mem_take hr)).1.q) (ok_new 3)
  rw [List.length_map, List.length_take] at this
  have h2 : (newF 3).L.length = 0 := rfl
  omega
end Go.Proofs.Ytmogoopkjkdkgaa.Vw
