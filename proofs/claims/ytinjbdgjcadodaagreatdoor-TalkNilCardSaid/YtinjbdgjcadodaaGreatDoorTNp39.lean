/- The law TalkNil, whole. A struct of eight one-cell fields, by value: opened, and shut. No program. Structs of fourteen one-cell fields among the arguments. -/
import Derived.Lib.SmallJoins
import Derived.ShutString
import Derived.WalkLawsBesides
import Derived.Laws.Cover2
import Derived.SizedLaws
import Derived.ChangeSlices
import Derived.Test.YtinjbdgjcadodaaGreatDoorTNp38
namespace Go.Proofs.YtinjbdgjcadodaaGreatDoor.St
open Go Go.RowKit Go.Proofs.YtinjbdgjcadodaaGreatDoor.Words Go.Proofs.YtinjbdgjcadodaaGreatDoor.Enc Go.Proofs.YtinjbdgjcadodaaGreatDoor.Made Go.Proofs.YtinjbdgjcadodaaGreatDoor.Dsk Go.Proofs.YtinjbdgjcadodaaGreatDoor.Seg Go.Proofs.YtinjbdgjcadodaaGreatDoor.Evt
set_option linter.unusedVariables false
set_option linter.unusedSimpArgs false

set_option maxRecDepth 100000 in
set_option maxHeartbeats 4000000 in
theorem nil_far1 (kd sr tm sz sm pl : Nat) (fr tt wy to : Int) (mi : Bool) (A5 A6 A7 A12 : Option Addr) (n5 c5 n6 c6 n7 c7 n12 c12 : Nat) (w : World) (T : Chk.Tabs w) (ST : STabs w) (h5 : ¬ n5 ≤ 64) :
    Calls Tryz.prog 3 #[.agg #[.int .u8 (kd : Int), .int .i64 fr, .int .i64 tt, .bool mi, .int .u64 (sr : Int), .slice A5 n5 c5, .slice A6 n6 c6, .slice A7 n7 c7, .int .u64 (tm : Int), .int .u64 (sz : Int), .int .u32 (sm : Int), .int .u64 (pl : Int), .slice A12 n12 c12, .int .i64 wy], .int .i64 to] w fun e w' => e = .returned (.bool true) ∧ Below w.heap.size w w' := by
  have hsf := store_float Tryz.prog
  obtain ⟨u, hu⟩ : ∃ u, u = w.alloc (.cells #[.int .u8 (kd : Int), .int .i64 fr, .int .i64 tt, .bool mi, .int .u64 (sr : Int), .slice A5 n5 c5, .slice A6 n6 c6, .slice A7 n7 c7, .int .u64 (tm : Int), .int .u64 (sz : Int), .int .u32 (sm : Int), .int .u64 (pl : Int), .slice A12 n12 c12, .int .i64 wy] 31) := ⟨_, rfl⟩
  have hbu : Below w.heap.size w u := by rw [hu]; exact (Below.refl _ _).alloc (Nat.le_refl _) _
  have G := Lib.hid (show u.heap[w.heap.size]? = some (.cells #[.int .u8 (kd : Int), .int .i64 fr, .int .i64 tt, .bool mi, .int .u64 (sr : Int), .slice A5 n5 c5, .slice A6 n6 c6, .slice A7 n7 c7, .int .u64 (tm : Int), .int .u64 (sz : Int), .int .u32 (sm : Int), .int .u64 (pl : Int), .slice A12 n12 c12, .int .i64 wy] 31 (0, 0)) by rw [hu]; exact heap_alloc_new w _)
  have HBU := Lib.hid hbu
  have AW := Lib.hid (fun W (hW : Below u.heap.size u W) => awake17 W ((T.below hbu).below hW) ((ST.below hbu).below hW))
  have HU := Lib.hid hu
  clear hu hbu T ST
  have q5 : decide ((64 : Int) < (n5 : Int)) = true := decide_eq_true (by omega)
  clear h5
  go_enter Tryz.func3, Tryz.ntmps3
  go_wp2_with fail
  rw [← HU.out]
  refine (AW.out u (Below.refl _ _)).mono ?_
  rintro e w1 ⟨rfl, hb1⟩
  have G1 := (hb1.block _ (Array.getElem?_eq_some_iff.1 G.out).1).trans G.out
  obtain ⟨⟨x0, x1, x2, x3, x4, x5, x6⟩, x7, x8, x9, x10, x11, x12, x13⟩ := box14 G1
  have AW2 := Lib.hid (AW.out w1 hb1)
  have HBB := Lib.hid (HBU.out.trans (hb1.mono HBU.out.size))
  clear G1 hb1 AW HU G
  go_wp2_with fail
  refine AW2.out.mono ?_
  rintro e w2 ⟨rfl, hb2⟩
  have FIN := Lib.hid (HBB.out.trans (hb2.mono HBB.out.size))
  clear hb2
  go_wp2
  go_ret
  exact ⟨rfl, FIN.out⟩
set_option maxRecDepth 100000 in
set_option maxHeartbeats 4000000 in
theorem nil_far2 (kd sr tm sz sm pl : Nat) (fr tt wy to : Int) (mi : Bool) (A5 A6 A7 A12 : Option Addr) (n5 c5 n6 c6 n7 c7 n12 c12 : Nat) (w : World) (T : Chk.Tabs w) (ST : STabs w) (h5 : n5 ≤ 64) (h6 : ¬ n6 ≤ 20) :
    Calls Tryz.prog 3 #[.agg #[.int .u8 (kd : Int), .int .i64 fr, .int .i64 tt, .bool mi, .int .u64 (sr : Int), .slice A5 n5 c5, .slice A6 n6 c6, .slice A7 n7 c7, .int .u64 (tm : Int), .int .u64 (sz : Int), .int .u32 (sm : Int), .int .u64 (pl : Int), .slice A12 n12 c12, .int .i64 wy], .int .i64 to] w fun e w' => e = .returned (.bool true) ∧ Below w.heap.size w w' := by
  have hsf := store_float Tryz.prog
  obtain ⟨u, hu⟩ : ∃ u, u = w.alloc (.cells #[.int .u8 (kd : Int), .int .i64 fr, .int .i64 tt, .bool mi, .int .u64 (sr : Int), .slice A5 n5 c5, .slice A6 n6 c6, .slice A7 n7 c7, .int .u64 (tm : Int), .int .u64 (sz : Int), .int .u32 (sm : Int), .int .u64 (pl : Int), .slice A12 n12 c12, .int .i64 wy] 31) := ⟨_, rfl⟩
  have hbu : Below w.heap.size w u := by rw [hu]; exact (Below.refl _ _).alloc (Nat.le_refl _) _
  have G := Lib.hid (show u.heap[w.heap.size]? = some (.cells #[.int .u8 (kd : Int), .int .i64 fr, .int .i64 tt, .bool mi, .int .u64 (sr : Int), .slice A5 n5 c5, .slice A6 n6 c6, .slice A7 n7 c7, .int .u64 (tm : Int), .int .u64 (sz : Int), .int .u32 (sm : Int), .int .u64 (pl : Int), .slice A12 n12 c12, .int .i64 wy] 31 (0, 0)) by rw [hu]; exact heap_alloc_new w _)
  have HBU := Lib.hid hbu
  have AW := Lib.hid (fun W (hW : Below u.heap.size u W) => awake17 W ((T.below hbu).below hW) ((ST.below hbu).below hW))
  have HU := Lib.hid hu
  clear hu hbu T ST
  have q5 : decide ((64 : Int) < (n5 : Int)) = false := decide_eq_false (by omega)
  have q6 : decide ((20 : Int) < (n6 : Int)) = true := decide_eq_true (by omega)
  clear h5 h6
  go_enter Tryz.func3, Tryz.ntmps3
  go_wp2_with fail
  rw [← HU.out]
  refine (AW.out u (Below.refl _ _)).mono ?_
  rintro e w1 ⟨rfl, hb1⟩
  have G1 := (hb1.block _ (Array.getElem?_eq_some_iff.1 G.out).1).trans G.out
  obtain ⟨⟨x0, x1, x2, x3, x4, x5, x6⟩, x7, x8, x9, x10, x11, x12, x13⟩ := box14 G1
  have AW2 := Lib.hid (AW.out w1 hb1)
  have HBB := Lib.hid (HBU.out.trans (hb1.mono HBU.out.size))
  clear G1 hb1 AW HU G
  go_wp2_with fail
  refine AW2.out.mono ?_
  rintro e w2 ⟨rfl, hb2⟩
  have FIN := Lib.hid (HBB.out.trans (hb2.mono HBB.out.size))
  clear hb2
  go_wp2
  go_ret
  exact ⟨rfl, FIN.out⟩
set_option maxRecDepth 100000 in
set_option maxHeartbeats 4000000 in
theorem nil_far3 (kd sr tm sz sm pl : Nat) (fr tt wy to : Int) (mi : Bool) (A5 A6 A7 A12 : Option Addr) (n5 c5 n6 c6 n7 c7 n12 c12 : Nat) (w : World) (T : Chk.Tabs w) (ST : STabs w) (h5 : n5 ≤ 64) (h6 : n6 ≤ 20) (h7 : ¬ n7 ≤ 20) :
    Calls Tryz.prog 3 #[.agg #[.int .u8 (kd : Int), .int .i64 fr, .int .i64 tt, .bool mi, .int .u64 (sr : Int), .slice A5 n5 c5, .slice A6 n6 c6, .slice A7 n7 c7, .int .u64 (tm : Int), .int .u64 (sz : Int), .int .u32 (sm : Int), .int .u64 (pl : Int), .slice A12 n12 c12, .int .i64 wy], .int .i64 to] w fun e w' => e = .returned (.bool true) ∧ Below w.heap.size w w' := by
  have hsf := store_float Tryz.prog
  obtain ⟨u, hu⟩ : ∃ u, u = w.alloc (.cells #[.int .u8 (kd : Int), .int .i64 fr, .int .i64 tt, .bool mi, .int .u64 (sr : Int), .slice A5 n5 c5, .slice A6 n6 c6, .slice A7 n7 c7, .int .u64 (tm : Int), .int .u64 (sz : Int), .int .u32 (sm : Int), .int .u64 (pl : Int), .slice A12 n12 c12, .int .i64 wy] 31) := ⟨_, rfl⟩
  have hbu : Below w.heap.size w u := by rw [hu]; exact (Below.refl _ _).alloc (Nat.le_refl _) _
  have G := Lib.hid (show u.heap[w.heap.size]? = some (.cells #[.int .u8 (kd : Int), .int .i64 fr, .int .i64 tt, .bool mi, .int .u64 (sr : Int), .slice A5 n5 c5, .slice A6 n6 c6, .slice A7 n7 c7, .int .u64 (tm : Int), .int .u64 (sz : Int), .int .u32 (sm : Int), .int .u64 (pl : Int), .slice A12 n12 c12, .int .i64 wy] 31 (0, 0)) by rw [hu]; exact heap_alloc_new w _)
  have HBU := Lib.hid hbu
  have AW := Lib.hid (fun W (hW : Below u.heap.size u W) => awake17 W ((T.below hbu).below hW) ((ST.below hbu).below hW))
  have HU := Lib.hid hu
  clear hu hbu T ST
  have q5 : decide ((64 : Int) < (n5 : Int)) = false := decide_eq_false (by omega)
  have q6 : decide ((20 : Int) < (n6 : Int)) = false := decide_eq_false (by omega)
  have q7 : decide ((20 : Int) < (n7 : Int)) = true := decide_eq_true (by omega)
  clear h5 h6 h7
  go_enter Tryz.func3, Tryz.ntmps3
  go_wp2_with fail
  rw [← HU.out]
  refine (AW.out u (Below.refl _ _)).mono ?_
  rintro e w1 ⟨rfl, hb1⟩
  have G1 := (hb1.block _ (Array.getElem?_eq_some_iff.1 G.out).1).trans G.out
  obtain ⟨⟨x0, x1, x2, x3, x4, x5, x6⟩, x7, x8, x9, x10, x11, x12, x13⟩ := box14 G1
  have AW2 := Lib.hid (AW.out w1 hb1)
  have HBB := Lib.hid (HBU.out.trans (hb1.mono HBU.out.size))
  clear G1 hb1 AW HU G
  go_wp2_with fail
  refine AW2.out.mono ?_
  rintro e w2 ⟨rfl, hb2⟩
  have FIN := Lib.hid (HBB.out.trans (hb2.mono HBB.out.size))
  clear hb2
  go_wp2
  go_ret
  exact ⟨rfl, FIN.out⟩
theorem nil_law17 (kd sr tm sz sm pl : Nat) (fr tt wy to : Int) (mi : Bool) (A5 A6 A7 A12 : Option Addr) (n5 c5 n6 c6 n7 c7 n12 c12 : Nat) (w : World) (T : Chk.Tabs w) (ST : STabs w) : Calls Tryz.prog 3 #[.agg #[.int .u8 (kd : Int), .int .i64 fr, .int .i64 tt, .bool mi, .int .u64 (sr : Int), .slice A5 n5 c5, .slice A6 n6 c6, .slice A7 n7 c7, .int .u64 (tm : Int), .int .u64 (sz : Int), .int .u32 (sm : Int), .int .u64 (pl : Int), .slice A12 n12 c12, .int .i64 wy], .int .i64 to] w fun e w' => e = .returned (.bool true) ∧ Below w.heap.size w w' := by
  by_cases h5 : n5 ≤ 64
  · by_cases h6 : n6 ≤ 20
    · by_cases h7 : n7 ≤ 20
      · exact nil_main kd sr tm sz sm pl fr tt wy to mi A5 A6 A7 A12 n5 c5 n6 c6 n7 c7 n12 c12 w T ST h5 h6 h7
      · exact nil_far3 kd sr tm sz sm pl fr tt wy to mi A5 A6 A7 A12 n5 c5 n6 c6 n7 c7 n12 c12 w T ST h5 h6 h7
    · exact nil_far2 kd sr tm sz sm pl fr tt wy to mi A5 A6 A7 A12 n5 c5 n6 c6 n7 c7 n12 c12 w T ST h5 h6
  · exact nil_far1 kd sr tm sz sm pl fr tt wy to mi A5 A6 A7 A12 n5 c5 n6 c6 n7 c7 n12 c12 w T ST h5
end Go.Proofs.YtinjbdgjcadodaaGreatDoor.St
namespace Go.Proofs.YtinjbdgjcadodaaGreatDoor.Aggs
open Go Go.ChangeShapes Go.WideShapes Go.ChangeAt Go.Joins Go.Deep Go.RowKit
set_option linter.unusedVariables false
section
variable {H : Type} {enc : TypeId × Value → H} {P : Program} {w : World} {base : Nat} {spare : Nat → Bool} {held : Bool}

theorem trod_float {t : TypeId} {k : FloatKind} {fuel : Nat} {cs : List Value} {x : DataW H × List MemPlace} (ht : P.underlying t = some (.float k)) (h : DataW.trod enc P w base spare held fuel t cs = some x) : ∃ b, cs = [.float k b] ∧ x = (.lit (.float k b), []) ∧ (Lit.float k b).wf = true := by
  cases fuel with
  | zero => simp [DataW.trod] at h
  | succ n =>
    unfold DataW.trod at h
    rw [ht] at h
    split at h <;> simp_all
theorem trod_bool {t : TypeId} {fuel : Nat} {cs : List Value} {x : DataW H × List MemPlace} (ht : P.underlying t = some .bool) (h : DataW.trod enc P w base spare held fuel t cs = some x) : ∃ b, cs = [.bool b] ∧ x = (.lit (.bool b), []) := by
  cases fuel with
  | zero => simp [DataW.trod] at h
  | succ n =>
    unfold DataW.trod at h
    rw [ht] at h
    split at h <;> simp_all

theorem array8 {α : Type} {cs : Array α} (h : cs.size = 8) : ∃ c0 c1 c2 c3 c4 c5 c6 c7, cs = #[c0, c1, c2, c3, c4, c5, c6, c7] := by
  obtain ⟨l⟩ := cs
  match l, h with
  | [c0, c1, c2, c3, c4, c5, c6, c7], _ => exact ⟨c0, c1, c2, c3, c4, c5, c6, c7, rfl⟩
theorem list8 {α : Type} {l : List α} (h : l.length = 8) : ∃ c0 c1 c2 c3 c4 c5 c6 c7, l = [c0, c1, c2, c3, c4, c5, c6, c7] := by
  match l, h with
  | [c0, c1, c2, c3, c4, c5, c6, c7], _ => exact ⟨c0, c1, c2, c3, c4, c5, c6, c7, rfl⟩
theorem open_agg8 {r : Reach} {b0 : Nat} {t : TypeId} {f0 f1 f2 f3 f4 f5 f6 f7 : Field} {v : Value} {d : DataW H} {p : List MemPlace} (hs : P.underlying t = some (.struct #[f0, f1, f2, f3, f4, f5, f6, f7])) (hone : oneCellFields P #[f0, f1, f2, f3, f4, f5, f6, f7] = true) (hC : P.cellsOf t = 8)
    (hv : Value.okWide P w r b0 t v) (h : DataW.Trod enc P w base spare held t v d p) :
    ∃ (v0 v1 v2 v3 v4 v5 v6 v7 : Value) (y0 y1 y2 y3 y4 y5 y6 y7 : DataW H × List MemPlace) (n : Nat), v = .agg #[v0, v1, v2, v3, v4, v5, v6, v7] ∧ d = .agg [y0.1, y1.1, y2.1, y3.1, y4.1, y5.1, y6.1, y7.1] ∧ p = y0.2 ++ (y1.2 ++ (y2.2 ++ (y3.2 ++ (y4.2 ++ (y5.2 ++ (y6.2 ++ (y7.2))))))) ∧
      DataW.trod enc P w base spare held n f0.type [v0] = some y0 ∧ DataW.trod enc P w base spare held n f1.type [v1] = some y1 ∧ DataW.trod enc P w base spare held n f2.type [v2] = some y2 ∧ DataW.trod enc P w base spare held n f3.type [v3] = some y3 ∧ DataW.trod enc P w base spare held n f4.type [v4] = some y4 ∧ DataW.trod enc P w base spare held n f5.type [v5] = some y5 ∧ DataW.trod enc P w base spare held n f6.type [v6] = some y6 ∧ DataW.trod enc P w base spare held n f7.type [v7] = some y7 := by
  obtain ⟨cs, rfl, hsz⟩ := okWide_struct hs hv
  obtain ⟨c0, c1, c2, c3, c4, c5, c6, c7, rfl⟩ := array8 (hsz.trans hC)
  obtain ⟨fuel, hf⟩ := h
  obtain ⟨xs, n, _, hx, hl, hlen, hg⟩ := DataW.trod_struct hs hf
  obtain ⟨y0, y1, y2, y3, y4, y5, y6, y7, rfl⟩ := list8 (hlen.trans rfl)
  obtain ⟨o0, k0⟩ := hone_of hone 0 f0 rfl
  obtain ⟨o1, k1⟩ := hone_of hone 1 f1 rfl
  obtain ⟨o2, k2⟩ := hone_of hone 2 f2 rfl
  obtain ⟨o3, k3⟩ := hone_of hone 3 f3 rfl
  obtain ⟨o4, k4⟩ := hone_of hone 4 f4 rfl
  obtain ⟨o5, k5⟩ := hone_of hone 5 f5 rfl
  obtain ⟨o6, k6⟩ := hone_of hone 6 f6 rfl
  obtain ⟨o7, k7⟩ := hone_of hone 7 f7 rfl
  simp only [Prod.mk.injEq] at hx
  refine ⟨c0, c1, c2, c3, c4, c5, c6, c7, y0, y1, y2, y3, y4, y5, y6, y7, n, rfl, hx.1, by simpa using hx.2, ?_, ?_, ?_, ?_, ?_, ?_, ?_, ?_⟩
  · simpa [Value.cells, o0, k0] using hg 0 f0 rfl
  · simpa [Value.cells, o1, k1] using hg 1 f1 rfl
  · simpa [Value.cells, o2, k2] using hg 2 f2 rfl
  · simpa [Value.cells, o3, k3] using hg 3 f3 rfl
  · simpa [Value.cells, o4, k4] using hg 4 f4 rfl
  · simpa [Value.cells, o5, k5] using hg 5 f5 rfl
  · simpa [Value.cells, o6, k6] using hg 6 f6 rfl
  · simpa [Value.cells, o7, k7] using hg 7 f7 rfl
theorem shut_agg8 {t : TypeId} {f0 f1 f2 f3 f4 f5 f6 f7 : Field} {v0 v1 v2 v3 v4 v5 v6 v7 : Value} {y0 y1 y2 y3 y4 y5 y6 y7 : DataW H × List MemPlace} (hs : P.underlying t = some (.struct #[f0, f1, f2, f3, f4, f5, f6, f7])) (hone : oneCellFields P #[f0, f1, f2, f3, f4, f5, f6, f7] = true) (hC : P.cellsOf t = 8)
    (t0 : ∃ n, DataW.trod enc P w base spare held n f0.type [v0] = some y0) (t1 : ∃ n, DataW.trod enc P w base spare held n f1.type [v1] = some y1) (t2 : ∃ n, DataW.trod enc P w base spare held n f2.type [v2] = some y2) (t3 : ∃ n, DataW.trod enc P w base spare held n f3.type [v3] = some y3) (t4 : ∃ n, DataW.trod enc P w base spare held n f4.type [v4] = some y4) (t5 : ∃ n, DataW.trod enc P w base spare held n f5.type [v5] = some y5) (t6 : ∃ n, DataW.trod enc P w base spare held n f6.type [v6] = some y6) (t7 : ∃ n, DataW.trod enc P w base spare held n f7.type [v7] = some y7) :
    DataW.Trod enc P w base spare held t (.agg #[v0, v1, v2, v3, v4, v5, v6, v7]) (.agg [y0.1, y1.1, y2.1, y3.1, y4.1, y5.1, y6.1, y7.1]) (y0.2 ++ (y1.2 ++ (y2.2 ++ (y3.2 ++ (y4.2 ++ (y5.2 ++ (y6.2 ++ (y7.2)))))))) := by
  obtain ⟨n0, t0⟩ := t0
  obtain ⟨n1, t1⟩ := t1
  obtain ⟨n2, t2⟩ := t2
  obtain ⟨n3, t3⟩ := t3
  obtain ⟨n4, t4⟩ := t4
  obtain ⟨n5, t5⟩ := t5
  obtain ⟨n6, t6⟩ := t6
  obtain ⟨n7, t7⟩ := t7
  obtain ⟨o0, k0⟩ := hone_of hone 0 f0 rfl
  obtain ⟨o1, k1⟩ := hone_of hone 1 f1 rfl
  obtain ⟨o2, k2⟩ := hone_of hone 2 f2 rfl
  obtain ⟨o3, k3⟩ := hone_of hone 3 f3 rfl
  obtain ⟨o4, k4⟩ := hone_of hone 4 f4 rfl
  obtain ⟨o5, k5⟩ := hone_of hone 5 f5 rfl
  obtain ⟨o6, k6⟩ := hone_of hone 6 f6 rfl
  obtain ⟨o7, k7⟩ := hone_of hone 7 f7 rfl
  have u0 := DataW.trod_le (show n0 ≤ n0 + n1 + n2 + n3 + n4 + n5 + n6 + n7 by omega) t0
  have u1 := DataW.trod_le (show n1 ≤ n0 + n1 + n2 + n3 + n4 + n5 + n6 + n7 by omega) t1
  have u2 := DataW.trod_le (show n2 ≤ n0 + n1 + n2 + n3 + n4 + n5 + n6 + n7 by omega) t2
  have u3 := DataW.trod_le (show n3 ≤ n0 + n1 + n2 + n3 + n4 + n5 + n6 + n7 by omega) t3
  have u4 := DataW.trod_le (show n4 ≤ n0 + n1 + n2 + n3 + n4 + n5 + n6 + n7 by omega) t4
  have u5 := DataW.trod_le (show n5 ≤ n0 + n1 + n2 + n3 + n4 + n5 + n6 + n7 by omega) t5
  have u6 := DataW.trod_le (show n6 ≤ n0 + n1 + n2 + n3 + n4 + n5 + n6 + n7 by omega) t6
  have u7 := DataW.trod_le (show n7 ≤ n0 + n1 + n2 + n3 + n4 + n5 + n6 + n7 by omega) t7
  have ts := trod_struct_mk (enc := enc) (w := w) (base := base) (spare := spare) (held := held) (n := n0 + n1 + n2 + n3 + n4 + n5 + n6 + n7) (cs := [v0, v1, v2, v3, v4, v5, v6, v7]) (xs := [y0, y1, y2, y3, y4, y5, y6, y7]) hs (by simp [hC]) (by simp [o0, k0, o1, k1, o2, k2, o3, k3, o4, k4, o5, k5, o6, k6, o7, k7, u0, u1, u2, u3, u4, u5, u6, u7])
  exact ⟨_, by simpa [Value.cells] using ts⟩
theorem array5 {α : Type} {cs : Array α} (h : cs.size = 5) : ∃ c0 c1 c2 c3 c4, cs = #[c0, c1, c2, c3, c4] := by
  obtain ⟨l⟩ := cs
  match l, h with
  | [c0, c1, c2, c3, c4], _ => exact ⟨c0, c1, c2, c3, c4, rfl⟩
theorem list5 {α : Type} {l : List α} (h : l.length = 5) : ∃ c0 c1 c2 c3 c4, l = [c0, c1, c2, c3, c4] := by
  match l, h with
  | [c0, c1, c2, c3, c4], _ => exact ⟨c0, c1, c2, c3, c4, rfl⟩
theorem open_agg5 {r : Reach} {b0 : Nat} {t : TypeId} {f0 f1 f2 f3 f4 : Field} {v : Value} {d : DataW H} {p : List MemPlace} (hs : P.underlying t = some (.struct #[f0, f1, f2, f3, f4])) (hone : oneCellFields P #[f0, f1, f2, f3, f4] = true) (hC : P.cellsOf t = 5)
    (hv : Value.okWide P w r b0 t v) (h : DataW.Trod enc P w base spare held t v d p) :
    ∃ (v0 v1 v2 v3 v4 : Value) (y0 y1 y2 y3 y4 : DataW H × List MemPlace) (n : Nat), v = .agg #[v0, v1, v2, v3, v4] ∧ d = .agg [y0.1, y1.1, y2.1, y3.1, y4.1] ∧ p = y0.2 ++ (y1.2 ++ (y2.2 ++ (y3.2 ++ (y4.2)))) ∧
      DataW.trod enc P w base spare held n f0.type [v0] = some y0 ∧ DataW.trod enc P w base spare held n f1.type [v1] = some y1 ∧ DataW.trod enc P w base spare held n f2.type [v2] = some y2 ∧ DataW.trod enc P w base spare held n f3.type [v3] = some y3 ∧ DataW.trod enc P w base spare held n f4.type [v4] = some y4 := by
  obtain ⟨cs, rfl, hsz⟩ := okWide_struct hs hv
  obtain ⟨c0, c1, c2, c3, c4, rfl⟩ := array5 (hsz.trans hC)
  obtain ⟨fuel, hf⟩ := h
  obtain ⟨xs, n, _, hx, hl, hlen, hg⟩ := DataW.trod_struct hs hf
  obtain ⟨y0, y1, y2, y3, y4, rfl⟩ := list5 (hlen.trans rfl)
  obtain ⟨o0, k0⟩ := hone_of hone 0 f0 rfl
  obtain ⟨o1, k1⟩ := hone_of hone 1 f1 rfl
  obtain ⟨o2, k2⟩ := hone_of hone 2 f2 rfl
  obtain ⟨o3, k3⟩ := hone_of hone 3 f3 rfl
  obtain ⟨o4, k4⟩ := hone_of hone 4 f4 rfl
  simp only [Prod.mk.injEq] at hx
  refine ⟨c0, c1, c2, c3, c4, y0, y1, y2, y3, y4, n, rfl, hx.1, by simpa using hx.2, ?_, ?_, ?_, ?_, ?_⟩
  · simpa [Value.cells, o0, k0] using hg 0 f0 rfl
  · simpa [Value.cells, o1, k1] using hg 1 f1 rfl
  · simpa [Value.cells, o2, k2] using hg 2 f2 rfl
  · simpa [Value.cells, o3, k3] using hg 3 f3 rfl
  · simpa [Value.cells, o4, k4] using hg 4 f4 rfl
theorem shut_agg5 {t : TypeId} {f0 f1 f2 f3 f4 : Field} {v0 v1 v2 v3 v4 : Value} {y0 y1 y2 y3 y4 : DataW H × List MemPlace} (hs : P.underlying t = some (.struct #[f0, f1, f2, f3, f4])) (hone : oneCellFields P #[f0, f1, f2, f3, f4] = true) (hC : P.cellsOf t = 5)
    (t0 : ∃ n, DataW.trod enc P w base spare held n f0.type [v0] = some y0) (t1 : ∃ n, DataW.trod enc P w base spare held n f1.type [v1] = some y1) (t2 : ∃ n, DataW.trod enc P w base spare held n f2.type [v2] = some y2) (t3 : ∃ n, DataW.trod enc P w base spare held n f3.type [v3] = some y3) (t4 : ∃ n, DataW.trod enc P w base spare held n f4.type [v4] = some y4) :
    DataW.Trod enc P w base spare held t (.agg #[v0, v1, v2, v3, v4]) (.agg [y0.1, y1.1, y2.1, y3.1, y4.1]) (y0.2 ++ (y1.2 ++ (y2.2 ++ (y3.2 ++ (y4.2))))) := by
  obtain ⟨n0, t0⟩ := t0
  obtain ⟨n1, t1⟩ := t1
  obtain ⟨n2, t2⟩ := t2
  obtain ⟨n3, t3⟩ := t3
  obtain ⟨n4, t4⟩ := t4
  obtain ⟨o0, k0⟩ := hone_of hone 0 f0 rfl
  obtain ⟨o1, k1⟩ := hone_of hone 1 f1 rfl
  obtain ⟨o2, k2⟩ := hone_of hone 2 f2 rfl
  obtain ⟨o3, k3⟩ := hone_of hone 3 f3 rfl
  obtain ⟨o4, k4⟩ := hone_of hone 4 f4 rfl
  have u0 := DataW.trod_le (show n0 ≤ n0 + n1 + n2 + n3 + n4 by omega) t0
  have u1 := DataW.trod_le (show n1 ≤ n0 + n1 + n2 + n3 + n4 by omega) t1
  have u2 := DataW.trod_le (show n2 ≤ n0 + n1 + n2 + n3 + n4 by omega) t2
  have u3 := DataW.trod_le (show n3 ≤ n0 + n1 + n2 + n3 + n4 by omega) t3
  have u4 := DataW.trod_le (show n4 ≤ n0 + n1 + n2 + n3 + n4 by omega) t4
  have ts := trod_struct_mk (enc := enc) (w := w) (base := base) (spare := spare) (held := held) (n := n0 + n1 + n2 + n3 + n4) (cs := [v0, v1, v2, v3, v4]) (xs := [y0, y1, y2, y3, y4]) hs (by simp [hC]) (by simp [o0, k0, o1, k1, o2, k2, o3, k3, o4, k4, u0, u1, u2, u3, u4])
  exact ⟨_, by simpa [Value.cells] using ts⟩

/-! The form's own reach. -/
theorem sized_field {ts : List TypeId} {ds : List (DataW H)} (h : (DataW.weightsEach P ts ds).all (· ≤ reachBytes) = true) {j : Nat} {t : TypeId} {fs : Array Field} {parts : List (DataW H)} (ht : ts[j]? = some t) (hd : ds[j]? = some (.agg parts)) (hu : P.underlying t = some (.struct fs)) :
    (DataW.weightsEach P (fs.toList.map (·.type)) parts).all (· ≤ reachBytes) = true := by
  rw [List.all_eq_true]
  intro n hn
  exact List.all_eq_true.1 h _ (DataW.weights_mem_each ht hd n (by simpa [DataW.weights, hu] using hn))
theorem sized_bytes {ts : List TypeId} {ds : List (DataW H)} (h : (DataW.weightsEach P ts ds).all (· ≤ reachBytes) = true) {j : Nat} {t e : TypeId} {zs : List Int} {len cap : Nat} {y : DataW H} {z Z : List MemPlace} {k : IntKind} (ht : ts[j]? = some t) (hd : ds[j]? = some y)
    (hy : (y, z) = (.slice (lits k (zs.take len)) (lits k (zs.drop len)), Z)) (hz : zs.length = cap) (hu : P.underlying t = some (.slice e)) (hb : P.bytesOf e = 1) : cap ≤ 140737488351232 := by
  obtain ⟨rfl, -⟩ := Prod.mk.inj hy
  have := sized_slice h ht hd hu
  rw [hb] at this
  simp only [lits, List.length_map, List.length_take, List.length_drop, reachBytes] at this
  omega
theorem sized_text {ts : List TypeId} {ds : List (DataW H)} (h : (DataW.weightsEach P ts ds).all (· ≤ reachBytes) = true) {j : Nat} {t : TypeId} {s : ByteArray} (ht : ts[j]? = some t) (hd : ds[j]? = some (.lit (.string s.data.toList))) : s.size ≤ 140737488351232 := by
  have := sized_string h ht hd
  simp only [reachBytes] at this
  have e : s.data.toList.length = s.size := rfl
  omega
end
end Go.Proofs.YtinjbdgjcadodaaGreatDoor.Aggs
namespace Go.Proofs.YtinjbdgjcadodaaGreatDoor.Aggs
open Go Go.ChangeShapes Go.WideShapes Go.ChangeAt Go.Joins Go.Deep Go.RowKit
set_option linter.unusedVariables false
section
variable {H : Type} {enc : TypeId × Value → H} {P : Program} {w : World} {base : Nat} {spare : Nat → Bool} {held : Bool}
theorem array14 {α : Type} {cs : Array α} (h : cs.size = 14) : ∃ c0 c1 c2 c3 c4 c5 c6 c7 c8 c9 c10 c11 c12 c13, cs = #[c0, c1, c2, c3, c4, c5, c6, c7, c8, c9, c10, c11, c12, c13] := by
  obtain ⟨l⟩ := cs
  match l, h with
  | [c0, c1, c2, c3, c4, c5, c6, c7, c8, c9, c10, c11, c12, c13], _ => exact ⟨c0, c1, c2, c3, c4, c5, c6, c7, c8, c9, c10, c11, c12, c13, rfl⟩
theorem list14 {α : Type} {l : List α} (h : l.length = 14) : ∃ c0 c1 c2 c3 c4 c5 c6 c7 c8 c9 c10 c11 c12 c13, l = [c0, c1, c2, c3, c4, c5, c6, c7, c8, c9, c10, c11, c12, c13] := by
  match l, h with
  | [c0, c1, c2, c3, c4, c5, c6, c7, c8, c9, c10, c11, c12, c13], _ => exact ⟨c0, c1, c2, c3, c4, c5, c6, c7, c8, c9, c10, c11, c12, c13, rfl⟩
theorem open_agg14 {r : Reach} {b0 : Nat} {t : TypeId} {f0 f1 f2 f3 f4 f5 f6 f7 f8 f9 f10 f11 f12 f13 : Field} {v : Value} {d : DataW H} {p : List MemPlace} (hs : P.underlying t = some (.struct #[f0, f1, f2, f3, f4, f5, f6, f7, f8, f9, f10, f11, f12, f13])) (hone : oneCellFields P #[f0, f1, f2, f3, f4, f5, f6, f7, f8, f9, f10, f11, f12, f13] = true) (hC : P.cellsOf t = 14)
    (hv : Value.okWide P w r b0 t v) (h : DataW.Trod enc P w base spare held t v d p) :
    ∃ (v0 v1 v2 v3 v4 v5 v6 v7 v8 v9 v10 v11 v12 v13 : Value) (y0 y1 y2 y3 y4 y5 y6 y7 y8 y9 y10 y11 y12 y13 : DataW H × List MemPlace) (n : Nat), v = .agg #[v0, v1, v2, v3, v4, v5, v6, v7, v8, v9, v10, v11, v12, v13] ∧ d = .agg [y0.1, y1.1, y2.1, y3.1, y4.1, y5.1, y6.1, y7.1, y8.1, y9.1, y10.1, y11.1, y12.1, y13.1] ∧ p = y0.2 ++ (y1.2 ++ (y2.2 ++ (y3.2 ++ (y4.2 ++ (y5.2 ++ (y6.2 ++ (y7.2 ++ (y8.2 ++ (y9.2 ++ (y10.2 ++ (y11.2 ++ (y12.2 ++ (y13.2))))))))))))) ∧
      DataW.trod enc P w base spare held n f0.type [v0] = some y0 ∧ DataW.trod enc P w base spare held n f1.type [v1] = some y1 ∧ DataW.trod enc P w base spare held n f2.type [v2] = some y2 ∧ DataW.trod enc P w base spare held n f3.type [v3] = some y3 ∧ DataW.trod enc P w base spare held n f4.type [v4] = some y4 ∧ DataW.trod enc P w base spare held n f5.type [v5] = some y5 ∧ DataW.trod enc P w base spare held n f6.type [v6] = some y6 ∧ DataW.trod enc P w base spare held n f7.type [v7] = some y7 ∧ DataW.trod enc P w base spare held n f8.type [v8] = some y8 ∧ DataW.trod enc P w base spare held n f9.type [v9] = some y9 ∧ DataW.trod enc P w base spare held n f10.type [v10] = some y10 ∧ DataW.trod enc P w base spare held n f11.type [v11] = some y11 ∧ DataW.trod enc P w base spare held n f12.type [v12] = some y12 ∧ DataW.trod enc P w base spare held n f13.type [v13] = some y13 := by
  obtain ⟨cs, rfl, hsz⟩ := okWide_struct hs hv
  obtain ⟨c0, c1, c2, c3, c4, c5, c6, c7, c8, c9, c10, c11, c12, c13, rfl⟩ := array14 (hsz.trans hC)
  obtain ⟨fuel, hf⟩ := h
  obtain ⟨xs, n, _, hx, hl, hlen, hg⟩ := DataW.trod_struct hs hf
  obtain ⟨y0, y1, y2, y3, y4, y5, y6, y7, y8, y9, y10, y11, y12, y13, rfl⟩ := list14 (hlen.trans rfl)
  obtain ⟨o0, k0⟩ := hone_of hone 0 f0 rfl
  obtain ⟨o1, k1⟩ := hone_of hone 1 f1 rfl
  obtain ⟨o2, k2⟩ := hone_of hone 2 f2 rfl
  obtain ⟨o3, k3⟩ := hone_of hone 3 f3 rfl
  obtain ⟨o4, k4⟩ := hone_of hone 4 f4 rfl
  obtain ⟨o5, k5⟩ := hone_of hone 5 f5 rfl
  obtain ⟨o6, k6⟩ := hone_of hone 6 f6 rfl
  obtain ⟨o7, k7⟩ := hone_of hone 7 f7 rfl
  obtain ⟨o8, k8⟩ := hone_of hone 8 f8 rfl
  obtain ⟨o9, k9⟩ := hone_of hone 9 f9 rfl
  obtain ⟨o10, k10⟩ := hone_of hone 10 f10 rfl
  obtain ⟨o11, k11⟩ := hone_of hone 11 f11 rfl
  obtain ⟨o12, k12⟩ := hone_of hone 12 f12 rfl
  obtain ⟨o13, k13⟩ := hone_of hone 13 f13 rfl
  simp only [Prod.mk.injEq] at hx
  refine ⟨c0, c1, c2, c3, c4, c5, c6, c7, c8, c9, c10, c11, c12, c13, y0, y1, y2, y3, y4, y5, y6, y7, y8, y9, y10, y11, y12, y13, n, rfl, hx.1, by simpa using hx.2, ?_, ?_, ?_, ?_, ?_, ?_, ?_, ?_, ?_, ?_, ?_, ?_, ?_, ?_⟩
  · simpa [Value.cells, o0, k0] using hg 0 f0 rfl
  · simpa [Value.cells, o1, k1] using hg 1 f1 rfl
  · simpa [Value.cells, o2, k2] using hg 2 f2 rfl
  · simpa [Value.cells, o3, k3] using hg 3 f3 rfl
  · simpa [Value.cells, o4, k4] using hg 4 f4 rfl
  · simpa [Value.cells, o5, k5] using hg 5 f5 rfl
  · simpa [Value.cells, o6, k6] using hg 6 f6 rfl
  · simpa [Value.cells, o7, k7] using hg 7 f7 rfl
  · simpa [Value.cells, o8, k8] using hg 8 f8 rfl
  · simpa [Value.cells, o9, k9] using hg 9 f9 rfl
  · simpa [Value.cells, o10, k10] using hg 10 f10 rfl
  · simpa [Value.cells, o11, k11] using hg 11 f11 rfl
  · simpa [Value.cells, o12, k12] using hg 12 f12 rfl
  · simpa [Value.cells, o13, k13] using hg 13 f13 rfl
theorem shut_agg14 {t : TypeId} {f0 f1 f2 f3 f4 f5 f6 f7 f8 f9 f10 f11 f12 f13 : Field} {v0 v1 v2 v3 v4 v5 v6 v7 v8 v9 v10 v11 v12 v13 : Value} {y0 y1 y2 y3 y4 y5 y6 y7 y8 y9 y10 y11 y12 y13 : DataW H × List MemPlace} (hs : P.underlying t = some (.struct #[f0, f1, f2, f3, f4, f5, f6, f7, f8, f9, f10, f11, f12, f13])) (hone : oneCellFields P #[f0, f1, f2, f3, f4, f5, f6, f7, f8, f9, f10, f11, f12, f13] = true) (hC : P.cellsOf t = 14)
    (t0 : ∃ n, DataW.trod enc P w base spare held n f0.type [v0] = some y0) (t1 : ∃ n, DataW.trod enc P w base spare held n f1.type [v1] = some y1) (t2 : ∃ n, DataW.trod enc P w base spare held n f2.type [v2] = some y2) (t3 : ∃ n, DataW.trod enc P w base spare held n f3.type [v3] = some y3) (t4 : ∃ n, DataW.trod enc P w base spare held n f4.type [v4] = some y4) (t5 : ∃ n, DataW.trod enc P w base spare held n f5.type [v5] = some y5) (t6 : ∃ n, DataW.trod enc P w base spare held n f6.type [v6] = some y6) (t7 : ∃ n, DataW.trod enc P w base spare held n f7.type [v7] = some y7) (t8 : ∃ n, DataW.trod enc P w base spare held n f8.type [v8] = some y8) (t9 : ∃ n, DataW.trod enc P w base spare held n f9.type [v9] = some y9) (t10 : ∃ n, DataW.trod enc P w base spare held n f10.type [v10] = some y10) (t11 : ∃ n, DataW.trod enc P w base spare held n f11.type [v11] = some y11) (t12 : ∃ n, DataW.trod enc P w base spare held n f12.type [v12] = some y12) (t13 : ∃ n, DataW.trod enc P w base spare held n f13.type [v13] = some y13) :
    DataW.Trod enc P w base spare held t (.agg #[v0, v1, v2, v3, v4, v5, v6, v7, v8, v9, v10, v11, v12, v13]) (.agg [y0.1, y1.1, y2.1, y3.1, y4.1, y5.1, y6.1, y7.1, y8.1, y9.1, y10.1, y11.1, y12.1, y13.1]) (y0.2 ++ (y1.2 ++ (y2.2 ++ (y3.2 ++ (y4.2 ++ (y5.2 ++ (y6.2 ++ (y7.2 ++ (y8.2 ++ (y9.2 ++ (y10.2 ++ (y11.2 ++ (y12.2 ++ (y13.2)))))))))))))) := by
  obtain ⟨n0, t0⟩ := t0
  obtain ⟨n1, t1⟩ := t1
  obtain ⟨n2, t2⟩ := t2
  obtain ⟨n3, t3⟩ := t3
  obtain ⟨n4, t4⟩ := t4
  obtain ⟨n5, t5⟩ := t5
  obtain ⟨n6, t6⟩ := t6
  obtain ⟨n7, t7⟩ := t7
  obtain ⟨n8, t8⟩ := t8
  obtain ⟨n9, t9⟩ := t9
  obtain ⟨n10, t10⟩ := t10
  obtain ⟨n11, t11⟩ := t11
  obtain ⟨n12, t12⟩ := t12
  obtain ⟨n13, t13⟩ := t13
  obtain ⟨o0, k0⟩ := hone_of hone 0 f0 rfl
  obtain ⟨o1, k1⟩ := hone_of hone 1 f1 rfl
  obtain ⟨o2, k2⟩ := hone_of hone 2 f2 rfl
  obtain ⟨o3, k3⟩ := hone_of hone 3 f3 rfl
  obtain ⟨o4, k4⟩ := hone_of hone 4 f4 rfl
  obtain ⟨o5, k5⟩ := hone_of hone 5 f5 rfl
  obtain ⟨o6, k6⟩ := hone_of hone 6 f6 rfl
  obtain ⟨o7, k7⟩ := hone_of hone 7 f7 rfl
  obtain ⟨o8, k8⟩ := hone_of hone 8 f8 rfl
  obtain ⟨o9, k9⟩ := hone_of hone 9 f9 rfl
  obtain ⟨o10, k10⟩ := hone_of hone 10 f10 rfl
  obtain ⟨o11, k11⟩ := hone_of hone 11 f11 rfl
  obtain ⟨o12, k12⟩ := hone_of hone 12 f12 rfl
  obtain ⟨o13, k13⟩ := hone_of hone 13 f13 rfl
  have u0 := DataW.trod_le (show n0 ≤ n0 + n1 + n2 + n3 + n4 + n5 + n6 + n7 + n8 + n9 + n10 + n11 + n12 + n13 by omega) t0
  have u1 := DataW.trod_le (show n1 ≤ n0 + n1 + n2 + n3 + n4 + n5 + n6 + n7 + n8 + n9 + n10 + n11 + n12 + n13 by omega) t1
  have u2 := DataW.trod_le (show n2 ≤ n0 + n1 + n2 + n3 + n4 + n5 + n6 + n7 + n8 + n9 + n10 + n11 + n12 + n13 by omega) t2
  have u3 := DataW.trod_le (show n3 ≤ n0 + n1 + n2 + n3 + n4 + n5 + n6 + n7 + n8 + n9 + n10 + n11 + n12 + n13 by omega) t3
  have u4 := DataW.trod_le (show n4 ≤ n0 + n1 + n2 + n3 + n4 + n5 + n6 + n7 + n8 + n9 + n10 + n11 + n12 + n13 by omega) t4
  have u5 := DataW.trod_le (show n5 ≤ n0 + n1 + n2 + n3 + n4 + n5 + n6 + n7 + n8 + n9 + n10 + n11 + n12 + n13 by omega) t5
  have u6 := DataW.trod_le (show n6 ≤ n0 + n1 + n2 + n3 + n4 + n5 + n6 + n7 + n8 + n9 + n10 + n11 + n12 + n13 by omega) t6
  have u7 := DataW.trod_le (show n7 ≤ n0 + n1 + n2 + n3 + n4 + n5 + n6 + n7 + n8 + n9 + n10 + n11 + n12 + n13 by omega) t7
  have u8 := DataW.trod_le (show n8 ≤ n0 + n1 + n2 + n3 + n4 + n5 + n6 + n7 + n8 + n9 + n10 + n11 + n12 + n13 by omega) t8
  have u9 := DataW.trod_le (show n9 ≤ n0 + n1 + n2 + n3 + n4 + n5 + n6 + n7 + n8 + n9 + n10 + n11 + n12 + n13 by omega) t9
  have u10 := DataW.trod_le (show n10 ≤ n0 + n1 + n2 + n3 + n4 + n5 + n6 + n7 + n8 + n9 + n10 + n11 + n12 + n13 by omega) t10
  have u11 := DataW.trod_le (show n11 ≤ n0 + n1 + n2 + n3 + n4 + n5 + n6 + n7 + n8 + n9 + n10 + n11 + n12 + n13 by omega) t11
  have u12 := DataW.trod_le (show n12 ≤ n0 + n1 + n2 + n3 + n4 + n5 + n6 + n7 + n8 + n9 + n10 + n11 + n12 + n13 by omega) t12
  have u13 := DataW.trod_le (show n13 ≤ n0 + n1 + n2 + n3 + n4 + n5 + n6 + n7 + n8 + n9 + n10 + n11 + n12 + n13 by omega) t13
  have ts := trod_struct_mk (enc := enc) (w := w) (base := base) (spare := spare) (held := held) (n := n0 + n1 + n2 + n3 + n4 + n5 + n6 + n7 + n8 + n9 + n10 + n11 + n12 + n13) (cs := [v0, v1, v2, v3, v4, v5, v6, v7, v8, v9, v10, v11, v12, v13]) (xs := [y0, y1, y2, y3, y4, y5, y6, y7, y8, y9, y10, y11, y12, y13]) hs (by simp [hC]) (by simp [o0, k0, o1, k1, o2, k2, o3, k3, o4, k4, o5, k5, o6, k6, o7, k7, o8, k8, o9, k9, o10, k10, o11, k11, o12, k12, o13, k13, u0, u1, u2, u3, u4, u5, u6, u7, u8, u9, u10, u11, u12, u13])
  exact ⟨_, by simpa [Value.cells] using ts⟩
end
end Go.Proofs.YtinjbdgjcadodaaGreatDoor.Aggs
