/- feed: the first segments of a row are given up: slices.Delete; above. -/
import Derived.Test.YtkphklmgbdljiaaGreatDoorFdLoose
import Derived.Deep.RegionLaw
import Derived.Lib.SliceRun
namespace Go.Proofs.YtkphklmgbdljiaaGreatDoor.Fd
open Go Go.RowKit Go.Proofs.YtkphklmgbdljiaaGreatDoor.Words Go.Proofs.YtkphklmgbdljiaaGreatDoor.Enc Go.Proofs.YtkphklmgbdljiaaGreatDoor.Evt Go.Proofs.YtkphklmgbdljiaaGreatDoor.Made Go.Proofs.YtkphklmgbdljiaaGreatDoor.Dsk Go.Proofs.YtkphklmgbdljiaaGreatDoor.Sht Go.Proofs.YtkphklmgbdljiaaGreatDoor.Seg
set_option linter.unusedVariables false
set_option linter.unusedSimpArgs false

theorem setCells_beside (b : Nat) : ∀ (vs : List Value) (o : Nat) (w : World), Beside [b] w (w.setCells b o vs)
  | [], o, w => Beside.refl _ _
  | v :: r, o, w => ((Beside.refl [b] w).setCell (p := ⟨b, o, none⟩) (by simp) v).trans (setCells_beside b r (o + 1) _) fun x hx => .inl hx
/-- What is written over a part of a row. -/
theorem setCells_heap (b : Nat) (T : TypeId) (f : Nat × Nat) : ∀ (vs : List Value) (o : Nat) (w : World) (cur : Array Value), w.heap[b]? = some (.cells cur T f) →
    ∃ cur', (w.setCells b o vs).heap[b]? = some (.cells cur' T f) ∧ cur'.size = cur.size ∧ (∀ i, i < o ∨ o + vs.length ≤ i → cur'[i]? = cur[i]?) ∧ (∀ j, j < vs.length → o + j < cur.size → cur'[o + j]? = vs[j]?)
  | [], o, w, cur, h => ⟨cur, h, rfl, fun i _ => rfl, fun j hj => by simp at hj⟩
  | v :: r, o, w, cur, h => by
    obtain ⟨cur', h1, h2, h3, h4⟩ := setCells_heap b T f r (o + 1) (w.setCell ⟨b, o, none⟩ v) (cur.setIfInBounds o v) (heapSame h)
    refine ⟨cur', h1, by rw [h2]; simp, fun i hi => ?_, fun j hj hs => ?_⟩
    · rw [h3 i (by simp at hi; omega), Array.getElem?_setIfInBounds_ne (by simp at hi; omega)]
    · rcases j with _ | j
      · rw [Nat.add_zero, h3 o (by omega)]
        simp at hs
        simp [Array.getElem?_setIfInBounds, hs]
      · have := h4 j (by simpa using hj) (by simp; omega)
        rw [show o + (j + 1) = o + 1 + j by omega, this]
        simp
theorem take_of_cells {cur : Array Value} {L : List Value} (h : ∀ j, j < L.length → cur[j]? = L[j]?) (hs : L.length ≤ cur.size) : cur.toList.take L.length = L := by
  apply List.ext_getElem?
  intro i
  rw [List.getElem?_take]
  split
  · rename_i hi
    rw [Array.getElem?_toList, h i hi]
  · rename_i hi
    rw [List.getElem?_eq_none (by omega)]
theorem zeroCells_one (n : Nat) : ∀ v ∈ (Builtin.zeroCells zeroSeg.cells n).toList, v.oneCell' = true := by
  intro v hv
  have hz : zeroSeg.cells = #[.int .i64 0, .int .u64 0, .slice none 0 0, .int .i64 0] := by kernel_rfl
  rw [hz] at hv
  simp [Builtin.zeroCells] at hv
  obtain ⟨a, _, rfl⟩ := hv
  have : a % 4 = 0 ∨ a % 4 = 1 ∨ a % 4 = 2 ∨ a % 4 = 3 := by omega
  rcases this with h | h | h | h <;> rw [h] <;> rfl
theorem zeroCells_len (n : Nat) : (Builtin.zeroCells zeroSeg.cells n).toList.length = n * 4 := by
  have hz : zeroSeg.cells.size = 4 := zeroSeg_cells
  simp [Builtin.zeroCells, hz]
theorem zeroSeg_run (w : World) : (zeroValue 65).run Tryz.prog w = .ok zeroSeg w := by kernel_rfl
/-- clear, of segments. -/
theorem run_clearS (w : World) (ty : TypeId) (b o n c : Nat) (hn : 0 < n) (hc : ∀ j, j < n * 4 → (w.cell? ⟨b, o + j, none⟩).isSome = true) (hf : ∀ j, j < n * 4 → w.frozen? ⟨b, o + j, none⟩ = false) :
    (Builtin.clear_ #[58] ty #[.slice (some ⟨b, o, none⟩) n c]).run Tryz.prog w = .ok (.tuple #[]) (w.setCells b o (Builtin.zeroCells zeroSeg.cells n).toList) := by
  have hst := run_storeCells_cells (P := Tryz.prog) b o (Builtin.zeroCells zeroSeg.cells n).toList 0 w (by rw [zeroCells_len]; simpa using hc) (by rw [zeroCells_len]; simpa using hf) (zeroCells_one n)
  simp only [Nat.add_zero] at hst
  obtain ⟨m, rfl⟩ : ∃ m, n = m + 1 := ⟨n - 1, by omega⟩
  have hz := zeroSeg_run w
  unfold zeroSeg at hst ⊢
  simp [Builtin.clear_, run_underlying Tryz.underlying58, hst]

set_option maxRecDepth 100000 in
set_option maxHeartbeats 1000000 in
theorem delete_pos (x g n c k : Nat) (R : List SegS) (base : Nat) (w : World) (h : w.ownsRow base 65 4 (.slice (some ⟨g, 0, none⟩) n c) n (rowsS x R)) (hn : R.length = n) (hk0 : 0 < k) (hk : k < n) :
    Calls Tryz.prog 53 #[.slice (some ⟨g, 0, none⟩) n c, .int .i64 0, .int .i64 (k : Int)] w fun e w' => e = .returned (.slice (some ⟨g, 0, none⟩) (n - k) c) ∧ w'.ownsRow base 65 4 (.slice (some ⟨g, 0, none⟩) (n - k) c) (n - k) (rowsS x (R.drop k)) ∧ Beside [g] w w' := by
  obtain ⟨i0, hi0, hz0, hz1, hz2⟩ := info_parts infoG
  obtain ⟨cur, hb, hh, hnc, hm, hsz, ht⟩ : ∃ cur, base ≤ g ∧ w.heap[g]? = some (.cells cur 65 (0, 0)) ∧ n ≤ c ∧ c ≤ maxLen ∧ cur.size = c * 4 ∧ cur.toList.take (n * 4) = rowsS x R := by
    rcases h.2 with ⟨hv, _⟩ | ⟨g', cap, cur, hv, hb, hh, a1, a2, a3, a4⟩
    · cases hv
    · injection hv with h1 _ h3
      injection h1 with h1
      injection h1 with h1
      subst h1; subst h3
      exact ⟨cur, hb, hh, a1, a2, a3, a4⟩
  have hcur : ∀ i, i < n * 4 → cur[i]? = (rowsS x R)[i]? := fun i hi => by
    rw [← ht, List.getElem?_take, if_pos hi, Array.getElem?_toList]
  obtain ⟨news, hnews⟩ : ∃ news, news = rowsS x (R.drop k) := ⟨_, rfl⟩
  have hlen : news.length = (n - k) * 4 := by rw [hnews, rowsS_len, List.length_drop, hn]
  have hdrop : news = (rowsS x R).drop (k * 4) := by
    rw [hnews]
    conv => rhs; rw [← List.take_append_drop k R, rowsS_append, List.drop_append, List.drop_eq_nil_of_le (by rw [rowsS_len, List.length_take]; omega), List.nil_append, rowsS_len, List.length_take, Nat.min_eq_left (by omega), Nat.sub_self, List.drop_zero]
  have hd : ∀ W : World, W.heap[g]? = w.heap[g]? → ∀ i, W.cell? ⟨g, i, none⟩ = cur[i]? := fun W hW i => by rw [cell_of_row W g _ _ _ _ (hW.trans hh)]
  have hsrc : ∀ t u, news[t]? = some u → w.drew.cell? ((⟨g, k * 4, none⟩ : Addr).add t) = some u := fun t u hu => by
    rw [add_plain, hd w.drew rfl]
    rw [hdrop, List.getElem?_drop] at hu
    have : k * 4 + t < (rowsS x R).length := (List.getElem?_eq_some_iff.1 hu).1
    rw [rowsS_len] at this
    rw [hcur _ (by omega)]
    exact hu
  have hsp : ∀ j, j < news.length → (w.drew.cell? ⟨g, 0 + 0 * 4 + j, none⟩).isSome = true ∧ w.drew.frozen? ⟨g, 0 + 0 * 4 + j, none⟩ = false := fun j hj => by
    refine ⟨?_, frozen_row0 (w := w.drew) hh⟩
    rw [hd w.drew rfl, Array.getElem?_eq_getElem (by omega)]
    rfl
  have hone : ∀ u ∈ news, u.oneCell' = true := by rw [hnews]; exact rowsS_one x _
  obtain ⟨W1, hW1⟩ : ∃ W1, W1 = w.drew.setCells g (0 + 0 * 4) news := ⟨_, rfl⟩
  obtain ⟨cur1, h11, h12, h13, h14⟩ := setCells_heap g 65 (0, 0) news (0 + 0 * 4) w.drew cur hh
  rw [← hW1] at h11
  have hb1 : Beside [g] w W1 := by rw [hW1]; exact (Beside.refl [g] w).drew.trans (setCells_beside g news _ _) fun x hx => .inl hx
  have hcl : ∀ ty, (Builtin.clear_ #[58] ty #[.slice (some ⟨g, (n - k) * 4, none⟩) (n - (n - k)) (c - (n - k))]).run Tryz.prog W1 = .ok (.tuple #[]) (W1.setCells g ((n - k) * 4) (Builtin.zeroCells zeroSeg.cells (n - (n - k))).toList) := fun ty =>
    run_clearS W1 ty g ((n - k) * 4) _ _ (by omega) (fun j hj => by rw [cell_of_row W1 g _ _ _ _ h11, Array.getElem?_eq_getElem (by omega)]; rfl) fun j hj => frozen_row0 h11
  obtain ⟨cur2, h21, h22, h23, h24⟩ := setCells_heap g 65 (0, 0) (Builtin.zeroCells zeroSeg.cells (n - (n - k))).toList ((n - k) * 4) W1 cur1 h11
  have hown : (W1.setCells g ((n - k) * 4) (Builtin.zeroCells zeroSeg.cells (n - (n - k))).toList).ownsRow base 65 4 (.slice (some ⟨g, 0, none⟩) (n - k) c) (n - k) (rowsS x (R.drop k)) := by
    rw [← hnews]
    refine ⟨hlen, .inr ⟨g, c, cur2, rfl, hb, h21, by omega, hm, by omega, ?_⟩⟩
    rw [← hlen]
    refine take_of_cells (fun j hj => ?_) (by omega)
    rw [h23 j (.inl (by omega))]
    have := h14 j hj (by omega)
    simpa using this
  have hbe : Beside [g] w (W1.setCells g ((n - k) * 4) (Builtin.zeroCells zeroSeg.cells (n - (n - k))).toList) := hb1.trans (setCells_beside g _ _ _) fun x hx => .inl hx
  obtain ⟨W2, hW2⟩ : ∃ W2, W2 = W1.setCells g ((n - k) * 4) (Builtin.zeroCells zeroSeg.cells (n - (n - k))).toList := ⟨_, rfl⟩
  rw [← hW2] at hown hbe
  simp only [← hW2] at hcl
  have HOWN := Lib.hid (And.intro hown hbe)
  have HW := Lib.hid hW1
  have HSRC := Lib.hid hsrc
  have HSP := Lib.hid hsp
  have HONE := Lib.hid hone
  have HLEN := Lib.hid hlen
  have hkn : k ≤ n := by omega
  have hkc : k ≤ c := by omega
  have hck : ¬ c = k := by omega
  have hk00 : ¬ (0 : Nat) = k := by omega
  have hk01 : ¬ k = 0 := by omega
  have hnk : n - k ≤ n := by omega
  have hcnk : ¬ c = n - k := by omega
  clear h11 h12 h13 h14 h21 h22 h23 h24 hown hbe hb1 hW2 hW1 hsrc hsp hone hlen hdrop hd hcur h hh ht hsz hnews hn
  go_enter Tryz.func53, Tryz.ntmps53
  go_wp2_with fail
  go_region_law (refine step_append_room rfl (.tmp 22) (.tmp 25) 58 rfl 65 i0 4 Tryz.underlying58 hi0 hz1 g 0 0 c (by simp [Act.eval, Act.put]) ⟨g, k * 4, none⟩ (n - k) (c - k) news (by simp [Act.eval, Act.put, hck, add_plain]) HLEN.out HSRC.out HONE.out (by omega) HSP.out ?_; rw [← HW.out])
  have HCL := Lib.hid hcl
  clear hcl
  go_wp2
  rw [HCL.out]
  go_wp2
  go_ret
  exact ⟨rfl, HOWN.out.1, HOWN.out.2⟩
set_option maxRecDepth 100000 in
theorem delete_zero (A : Option Addr) (n c : Nat) (w : World) (hc : n ≤ c) :
    Calls Tryz.prog 53 #[.slice A n c, .int .i64 0, .int .i64 0] w fun e w' => e = .returned (.slice A n c) ∧ w' = w := by
  go_enter Tryz.func53, Tryz.ntmps53
  go_wp2
  all_goals go_ret
  all_goals exact ⟨rfl, rfl⟩

set_option maxRecDepth 100000 in
set_option maxHeartbeats 1000000 in
/-- Has a segment events after the floor? -/
theorem above_any (f floor x u : Nat) (A : Option Addr) (n z : Nat) (w : World) (g3 : ∀ W, Below w.heap.size w W → W.cell? ⟨f, 3, none⟩ = some (.int .u64 (floor : Int))) (hn : 0 < n) (hu : u + n < 18446744073709551616) :
    Calls Tryz.prog 45 #[.pointer (some ⟨f, 0, none⟩), segV (x : Int) u A n n z] w fun e w' => e = .returned (.bool (decide (floor < u + n - 1))) ∧ Below w.heap.size w w' := by
  have NXS := Lib.hid (fun W => next_any (x : Int) u A n n z W hu)
  have HG := Lib.hid g3
  have hw : IntKind.u64.wrap (((u + n : Nat) : Int) - 1) = ((u + n - 1 : Nat) : Int) := by rw [IntKind.wrap_u64]; omega
  have hd : decide ((floor : Int) < ((u + n - 1 : Nat) : Int)) = decide (floor < u + n - 1) := by simp only [decide_eq_decide]; omega
  have HD := Lib.hid hd
  clear g3 hd
  unfold segV at NXS ⊢
  have hb0 := (Below.refl w.heap.size w).alloc (Nat.le_refl _) (.cells #[.int .i64 (x : Int), .int .u64 (u : Int), .slice A n n, .int .i64 (z : Int)] 65)
  have g0 := heap_alloc_new w (.cells #[.int .i64 (x : Int), .int .u64 (u : Int), .slice A n n, .int .i64 (z : Int)] 65)
  generalize u + n = nx at *
  generalize nx - 1 = nx1 at *
  go_enter Tryz.func45, Tryz.ntmps45
  go_upto_region 1 with fail
  generalize w.alloc (.cells #[.int .i64 (x : Int), .int .u64 (u : Int), .slice A n n, .int .i64 (z : Int)] 65) = w0 at hb0 g0 ⊢
  obtain ⟨b, hb⟩ : ∃ b, b = w.heap.size := ⟨_, rfl⟩
  rw [← hb] at g0 ⊢
  have HB := Lib.hid hb
  clear hb
  have c3 := HG.out w0 hb0
  obtain ⟨q0, q1, q2, q3⟩ := b4cells g0
  have hbl := (Array.getElem?_eq_some_iff.1 g0).1
  have N1 : ∀ W, Below w0.heap.size w0 W → Calls Tryz.prog 39 #[.agg #[.int .i64 (x : Int), .int .u64 (u : Int), .slice A n n, .int .i64 (z : Int)]] W fun e w' => e = .returned (.int .u64 (nx : Int)) ∧ Hid (Below w0.heap.size w0 w') ∧ w'.cell? ⟨f, 3, none⟩ = some (.int .u64 (floor : Int)) ∧ w'.cell? ⟨b, 0, none⟩ = some (.int .i64 (x : Int)) ∧ w'.cell? ⟨b, 1, none⟩ = some (.int .u64 (u : Int)) ∧ w'.cell? ⟨b, 2, none⟩ = some (.slice A n n) ∧ w'.cell? ⟨b, 3, none⟩ = some (.int .i64 (z : Int)) := fun W hW => by
    refine (NXS.out W).mono ?_
    rintro e w' ⟨rfl, hbb⟩
    have hb' := hW.trans (hbb.mono hW.size)
    have h4 := b4cells ((hb'.block b hbl).trans g0)
    exact ⟨rfl, Lib.hid hb', HG.out w' (hb0.trans (hb'.mono hb0.size)), h4.1, h4.2.1, h4.2.2.1, h4.2.2.2⟩
  have HB0 := Lib.hid hb0
  clear hb0 g0
  go_region_held3 (fun w' => w'.cell? ⟨f, 3, none⟩ = some (.int .u64 (floor : Int)) ∧ w'.cell? ⟨b, 0, none⟩ = some (.int .i64 (x : Int)) ∧ w'.cell? ⟨b, 1, none⟩ = some (.int .u64 (u : Int)) ∧ w'.cell? ⟨b, 2, none⟩ = some (.slice A n n) ∧ w'.cell? ⟨b, 3, none⟩ = some (.int .i64 (z : Int))) (go_keep)
    (first
      | (go_at_call 39
         refine (N1 _ ?h1).mono ?_
         case h1 => first | exact Below.refl _ _ | exact (Below.refl _ _).drew
         rintro e w7 ⟨rfl, HN, c3, q0, q1, q2, q3⟩))
  go_wp2
  go_ret
  exact ⟨by rw [← HD.out]; simp, HB0.out.trans (HN.out.mono HB0.out.size)⟩
end Go.Proofs.YtkphklmgbdljiaaGreatDoor.Fd
