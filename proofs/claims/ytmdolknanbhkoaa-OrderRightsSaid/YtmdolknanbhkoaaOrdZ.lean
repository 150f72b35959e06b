/- Order: the law OrderRights. -/
import Derived.Test.YtmdolknanbhkoaaOrdW
import Derived.Test.YtmdolknanbhkoaaOrdR
namespace Go.Proofs.Ytmdolknanbhkoaa.Ord
open Go Go.RowKit Go.Proofs.Ytmdolknanbhkoaa.Words Go.Proofs.Ytmdolknanbhkoaa.Enc Go.Proofs.Ytmdolknanbhkoaa.Evt Go.Proofs.Ytmdolknanbhkoaa.Seg
set_option linter.unusedVariables false
set_option linter.unusedSimpArgs false

set_option maxRecDepth 100000 in
set_option maxHeartbeats 4000000 in
theorem next_nil (w : World) :
    Calls Try.prog 12 #[.pointer none] w fun e w' => e = .returned (.tuple #[zeroEV, .bool false]) ∧ Below w.heap.size w w' := by
  have hsf := store_float Try.prog
  have g0 := heap_alloc_new w (.cells zeroE 34)
  have b0 := (Below.refl w.heap.size w).alloc (Nat.le_refl _) (.cells zeroE 34)
  unfold zeroE at g0 b0
  have G0 := Lib.hid g0
  have B0 := Lib.hid b0
  clear g0 b0
  unfold zeroEV
  go_enter Try.func12, Try.ntmps12
  go_wp2_with (first
    | (refine wpList_putRow rfl 34 (.tmp 2) (.tmp 15) rfl w.heap.size 34 zeroE zeroE rfl rfl ?g2 (by kernel_rfl) rfl (by simp [zeroE, Value.oneCell']) ?_))
  case g2 => exact G0.out
  intro W5 hW5 hbe5
  unfold zeroE at hW5
  obtain ⟨k0, k1, k2, k3, k4, k5, k6, k7⟩ := box8 hW5
  have B5 := Lib.hid (Below.beside B0.out hbe5 B0.out.size (by simp))
  clear hW5 hbe5
  go_wp2
  refine bodyPost_ret (v := .tuple #[.agg zeroE, .bool false]) ?_ rfl ⟨rfl, B5.out⟩
  simp [results, zeroE, Try.results12, go_sem, k0, k1, k2, k3, k4, k5, k6, k7]

set_option maxRecDepth 100000 in
theorem seek_nil (t : Nat) (x : Int) (w : World) :
    Calls Try.prog 19 #[.pointer none, spotV t x] w fun e w' => e = .returned (.int .i64 0) ∧ Below w.heap.size w w' := by
  unfold spotV
  go_enter Try.func19, Try.ntmps19
  go_wp2
  go_ret
  exact ⟨rfl, (Below.refl _ _).alloc (Nat.le_refl _) _⟩

def wantTo (S : List EvS) (k : Nat) : Bool := (List.range k).all fun j => !lessB (evAt S (j + 1)) (evAt S j)
theorem wantTo_succ (S : List EvS) (k : Nat) : wantTo S (k + 1) = (wantTo S k && !lessB (evAt S (k + 1)) (evAt S k)) := by
  unfold wantTo
  rw [List.range_succ, List.all_append]
  simp

set_option maxRecDepth 100000 in
set_option maxHeartbeats 8000000 in
theorem rights_law (A : Option Addr) (c : Nat) (S : List EvS) (t : Nat) (sx : Int) (w : World) (h : RawEv w A S) :
    Calls Try.prog 7 #[.slice A S.length c, spotV t sx] w fun e w' => e = .returned (.bool true) ∧ Below w.heap.size w w' := by
  unfold spotV
  have b0 : Below w.heap.size w (w.alloc (.cells #[.int .u64 (t : Int), .int .i64 sx] 42)) := (Below.refl _ _).alloc (Nat.le_refl _) _
  have g0 := heap_alloc_new w (.cells #[.int .u64 (t : Int), .int .i64 sx] 42)
  obtain ⟨u, hu⟩ : ∃ u, u = w.alloc (.cells #[.int .u64 (t : Int), .int .i64 sx] 42) := ⟨_, rfl⟩
  rw [← hu] at b0 g0
  have HU := Lib.hid hu
  have HB0 := Lib.hid (And.intro b0 g0)
  have HH := Lib.hid h
  clear hu b0 g0 h
  have AW := awake_yes u
  have hnot : ∀ (x : Bool) (w : World), (Op.unary .not (.bool x)).run Try.prog w = .ok (.bool (!x)) w := fun _ _ => rfl
  by_cases hbig : 30 < S.length
  · have zb : (30 : Int) < (S.length : Int) := by omega
    have AW2 := fun w => awake_yes w
    generalize S.length = n at *
    go_enter Try.func7, Try.ntmps7
    go_upto_region 1 with fail
    rw [← HU.out]
    go_wp2_with fail
    refine AW.mono ?_
    rintro e w1 ⟨rfl, hb1⟩
    go_wp2_with fail
    refine (AW2 w1).mono ?_
    rintro e w2 ⟨rfl, hb2⟩
    have HF := Lib.hid ((HB0.out.1.trans (hb1.mono HB0.out.1.size)).trans (hb2.mono (Nat.le_trans HB0.out.1.size hb1.size)))
    clear hb1 hb2
    go_wp2
    go_ret
    exact ⟨rfl, HF.out⟩
  · have zb : ¬ (30 : Int) < (S.length : Int) := by omega
    have hn30 : S.length ≤ 30 := by omega
    obtain ⟨n, hn'⟩ : ∃ n, n = S.length := ⟨_, rfl⟩
    rw [← hn'] at zb hn30 ⊢
    have HN := Lib.hid hn'
    clear hn' hbig
    go_enter Try.func7, Try.ntmps7
    go_upto_region 1 with fail
    rw [← HU.out]
    go_wp2_with fail
    refine AW.mono ?_
    rintro e w1 ⟨rfl, hb1⟩
    have HB1 := Lib.hid (HB0.out.1.trans (hb1.mono HB0.out.1.size))
    have G1 := Lib.hid ((hb1.block w.heap.size (Array.getElem?_eq_some_iff.1 HB0.out.2).1).trans HB0.out.2)
    clear hb1 AW
    go_wp2_with fail
    go_loopw [5, 6] (fun wv iv W => ∃ k : Nat, iv = .int .i64 ((k : Int) + 1) ∧ wv = .bool (wantTo S k) ∧ k ≤ n - 1 ∧ Hid (Below w.heap.size w W ∧ W.heap[w.heap.size]? = some (.cells #[.int .u64 (t : Int), .int .i64 sx] 42 (0, 0)))) (fun _ iv _ => n - (intOf iv).toNat)
    case atStart => exact ⟨0, rfl, rfl, Nat.zero_le _, Lib.hid ⟨HB1.out, G1.out⟩⟩
    case round =>
      obtain ⟨q, rfl, rfl, hq, HR⟩ := hrel
      by_cases hlt : q + 1 < n
      · obtain ⟨i, hi⟩ : ∃ i, i = q + 1 := ⟨_, rfl⟩
        have zi : ((q : Int) + 1) = (i : Int) := by omega
        have zin : (i : Int) < (n : Int) := by omega
        have zi0 : (0 : Int) ≤ (i : Int) := by omega
        have zs : (i : Int) - 1 = (q : Int) := by omega
        have zw : IntKind.i64.wrap (q : Int) = (q : Int) := IntWalk.i64_in _ (by omega)
        have zq0 : (0 : Int) ≤ (q : Int) := by omega
        have zqn : (q : Int) < (n : Int) := by omega
        obtain ⟨b, o, rfl, hc⟩ := (HH.out.below HR.out.1) (by rw [← HN.out]; omega)
        have hx := RawEv.cells_at hc (k := i) (by rw [← HN.out]; omega)
        have hy := RawEv.cells_at hc (k := q) (by rw [← HN.out]; omega)
        have WS := wantTo_succ S q
        rw [← hi] at WS
        generalize evAt S i = x at hx WS
        generalize evAt S q = y at hy WS
        obtain ⟨lb, hlb⟩ : ∃ lb, lb = lessB x y := ⟨_, rfl⟩
        rw [← hlb] at WS
        have HF := Lib.hid (And.intro hx hy)
        have HI := Lib.hid (And.intro hi WS)
        have HAT : ∀ (xw : Int) (sq tm kd : Nat) (key : ByteArray) (A : Option Addr) (n c num : Nat) (node : Int) (W : World), Below wr.heap.size wr W → Calls Try.prog 18 #[.agg #[.int .i64 xw, .int .u64 (sq : Int), .int .u64 (tm : Int), .int .u8 (kd : Int), .string key, .slice A n c, .float .f64 num, .int .i64 node]] W fun e w' => e = .returned (.agg #[.int .u64 (tm : Int), .int .i64 xw]) ∧ Hid (Below wr.heap.size wr w') ∧ (w'.cell? ⟨b, o + i * 8, none⟩ = some (.int .i64 x.e.writer) ∧ w'.cell? ⟨b, o + i * 8 + 1, none⟩ = some (.int .u64 (x.e.seq : Int)) ∧ w'.cell? ⟨b, o + i * 8 + 2, none⟩ = some (.int .u64 (x.e.time : Int)) ∧ w'.cell? ⟨b, o + i * 8 + 3, none⟩ = some (.int .u8 (x.e.kind : Int)) ∧ w'.cell? ⟨b, o + i * 8 + 4, none⟩ = some (.string x.e.key) ∧ w'.cell? ⟨b, o + i * 8 + 5, none⟩ = some (.slice x.A x.n x.c) ∧ w'.cell? ⟨b, o + i * 8 + 6, none⟩ = some (.float .f64 x.e.num) ∧ w'.cell? ⟨b, o + i * 8 + 7, none⟩ = some (.int .i64 x.e.node)) ∧ w'.cell? ⟨b, o + q * 8, none⟩ = some (.int .i64 y.e.writer) ∧ w'.cell? ⟨b, o + q * 8 + 1, none⟩ = some (.int .u64 (y.e.seq : Int)) ∧ w'.cell? ⟨b, o + q * 8 + 2, none⟩ = some (.int .u64 (y.e.time : Int)) ∧ w'.cell? ⟨b, o + q * 8 + 3, none⟩ = some (.int .u8 (y.e.kind : Int)) ∧ w'.cell? ⟨b, o + q * 8 + 4, none⟩ = some (.string y.e.key) ∧ w'.cell? ⟨b, o + q * 8 + 5, none⟩ = some (.slice y.A y.n y.c) ∧ w'.cell? ⟨b, o + q * 8 + 6, none⟩ = some (.float .f64 y.e.num) ∧ w'.cell? ⟨b, o + q * 8 + 7, none⟩ = some (.int .i64 y.e.node) := fun xw sq tm kd key A n c num node W hW => by
          refine (refAt_any ⟨xw, sq, tm, kd, key, [], num, node⟩ A n c W).mono ?_
          rintro e w' ⟨rfl, hb⟩
          have hb2 := hW.trans (hb.mono hW.size)
          have old : ∀ {q : Addr} {v : Value}, wr.cell? q = some v → w'.cell? q = some v := fun {q v} hq => by rw [hb2.cell (World.block_lt_of_cell? _ _ hq)]; exact hq
          obtain ⟨⟨e0, e1, e2, e3, e4, e5, e6, e7⟩, d0, d1, d2, d3, d4, d5, d6, d7⟩ := HF.out
          exact ⟨rfl, Lib.hid hb2, ⟨old e0, old e1, old e2, old e3, old e4, old e5, old e6, old e7⟩, old d0, old d1, old d2, old d3, old d4, old d5, old d6, old d7⟩
        have HAH : ∀ (W : World), Below wr.heap.size wr W → Calls Try.prog 17 #[.agg #[.int .u64 (x.e.time : Int), .int .i64 x.e.writer], .agg #[.int .u64 (y.e.time : Int), .int .i64 y.e.writer]] W fun e w' => e = .returned (.bool lb) ∧ Hid (Below wr.heap.size wr w') ∧ (w'.cell? ⟨b, o + i * 8, none⟩ = some (.int .i64 x.e.writer) ∧ w'.cell? ⟨b, o + i * 8 + 1, none⟩ = some (.int .u64 (x.e.seq : Int)) ∧ w'.cell? ⟨b, o + i * 8 + 2, none⟩ = some (.int .u64 (x.e.time : Int)) ∧ w'.cell? ⟨b, o + i * 8 + 3, none⟩ = some (.int .u8 (x.e.kind : Int)) ∧ w'.cell? ⟨b, o + i * 8 + 4, none⟩ = some (.string x.e.key) ∧ w'.cell? ⟨b, o + i * 8 + 5, none⟩ = some (.slice x.A x.n x.c) ∧ w'.cell? ⟨b, o + i * 8 + 6, none⟩ = some (.float .f64 x.e.num) ∧ w'.cell? ⟨b, o + i * 8 + 7, none⟩ = some (.int .i64 x.e.node)) ∧ w'.cell? ⟨b, o + q * 8, none⟩ = some (.int .i64 y.e.writer) ∧ w'.cell? ⟨b, o + q * 8 + 1, none⟩ = some (.int .u64 (y.e.seq : Int)) ∧ w'.cell? ⟨b, o + q * 8 + 2, none⟩ = some (.int .u64 (y.e.time : Int)) ∧ w'.cell? ⟨b, o + q * 8 + 3, none⟩ = some (.int .u8 (y.e.kind : Int)) ∧ w'.cell? ⟨b, o + q * 8 + 4, none⟩ = some (.string y.e.key) ∧ w'.cell? ⟨b, o + q * 8 + 5, none⟩ = some (.slice y.A y.n y.c) ∧ w'.cell? ⟨b, o + q * 8 + 6, none⟩ = some (.float .f64 y.e.num) ∧ w'.cell? ⟨b, o + q * 8 + 7, none⟩ = some (.int .i64 y.e.node) := fun W hW => by
          rw [hlb]
          refine (ahead_any x.e.time x.e.writer y.e.time y.e.writer W).mono ?_
          rintro e w' ⟨rfl, hb⟩
          have hb2 := hW.trans (hb.mono hW.size)
          have old : ∀ {q : Addr} {v : Value}, wr.cell? q = some v → w'.cell? q = some v := fun {q v} hq => by rw [hb2.cell (World.block_lt_of_cell? _ _ hq)]; exact hq
          obtain ⟨⟨e0, e1, e2, e3, e4, e5, e6, e7⟩, d0, d1, d2, d3, d4, d5, d6, d7⟩ := HF.out
          exact ⟨rfl, Lib.hid hb2, ⟨old e0, old e1, old e2, old e3, old e4, old e5, old e6, old e7⟩, old d0, old d1, old d2, old d3, old d4, old d5, old d6, old d7⟩
        have HLB := Lib.hid hlb
        obtain ⟨e0, e1, e2, e3, e4, e5, e6, e7⟩ := hx
        obtain ⟨d0, d1, d2, d3, d4, d5, d6, d7⟩ := hy
        generalize wantTo S q = wq at *
        clear hi WS hc hlb hlt
        go_wp2_with fail
        go_region_held3 (fun w' => (w'.cell? ⟨b, o + i * 8, none⟩ = some (.int .i64 x.e.writer) ∧ w'.cell? ⟨b, o + i * 8 + 1, none⟩ = some (.int .u64 (x.e.seq : Int)) ∧ w'.cell? ⟨b, o + i * 8 + 2, none⟩ = some (.int .u64 (x.e.time : Int)) ∧ w'.cell? ⟨b, o + i * 8 + 3, none⟩ = some (.int .u8 (x.e.kind : Int)) ∧ w'.cell? ⟨b, o + i * 8 + 4, none⟩ = some (.string x.e.key) ∧ w'.cell? ⟨b, o + i * 8 + 5, none⟩ = some (.slice x.A x.n x.c) ∧ w'.cell? ⟨b, o + i * 8 + 6, none⟩ = some (.float .f64 x.e.num) ∧ w'.cell? ⟨b, o + i * 8 + 7, none⟩ = some (.int .i64 x.e.node)) ∧ w'.cell? ⟨b, o + q * 8, none⟩ = some (.int .i64 y.e.writer) ∧ w'.cell? ⟨b, o + q * 8 + 1, none⟩ = some (.int .u64 (y.e.seq : Int)) ∧ w'.cell? ⟨b, o + q * 8 + 2, none⟩ = some (.int .u64 (y.e.time : Int)) ∧ w'.cell? ⟨b, o + q * 8 + 3, none⟩ = some (.int .u8 (y.e.kind : Int)) ∧ w'.cell? ⟨b, o + q * 8 + 4, none⟩ = some (.string y.e.key) ∧ w'.cell? ⟨b, o + q * 8 + 5, none⟩ = some (.slice y.A y.n y.c) ∧ w'.cell? ⟨b, o + q * 8 + 6, none⟩ = some (.float .f64 y.e.num) ∧ w'.cell? ⟨b, o + q * 8 + 7, none⟩ = some (.int .i64 y.e.node)) (go_keep)
          (first
            | (go_at_call 18
               refine (HAT _ _ _ _ _ _ _ _ _ _ _ ?h1).mono ?_
               case h1 => first | exact Below.refl _ _ | exact (Below.refl _ _).drew | exact Hid.out (by assumption)
               rintro e w' ⟨rfl, hb, k1, k2⟩)
            | (go_at_call 17
               refine (HAH _ ?h1).mono ?_
               case h1 => first | exact Hid.out (by assumption)
               rintro e w' ⟨rfl, hb, k1, k2⟩))
        have HB9 := Lib.hid (And.intro (HR.out.1.trans (hb.out.mono HR.out.1.size)) ((hb.out.block w.heap.size (Array.getElem?_eq_some_iff.1 HR.out.2).1).trans HR.out.2))
        clear k1 k2 hb HAT HAH HF
        cases lb with
        | true =>
          go_wp2
          go_roundw
          case rel => exact ⟨q + 1, by rw [HI.out.1], by rw [← HI.out.1, HI.out.2]; simp, by have := HI.out.1; omega, HB9⟩
          case measure => simp [intOf]; omega
        | false =>
          go_wp2
          go_roundw
          case rel => exact ⟨q + 1, by rw [HI.out.1], by rw [← HI.out.1, HI.out.2]; simp, by have := HI.out.1; omega, HB9⟩
          case measure => simp [intOf]; omega
      · have hqn : q = n - 1 := by omega
        have hrise : riseB S = wantTo S q := by rw [hqn, HN.out]; rfl
        have RI : ∀ W, Below w.heap.size w W → Calls Try.prog 16 #[.slice A n c] W fun e w' => e = .returned (.bool (wantTo S q)) ∧ Below W.heap.size W w' := fun W hW => by
          have := oright_any A c S W (HH.out.below hW) (by rw [← HN.out]; omega)
          rw [← HN.out, hrise] at this
          exact this
        generalize wantTo S q = wq at *
        have HRI := Lib.hid RI
        have zx : ¬ ((q : Int) + 1 < (n : Int)) := by omega
        clear RI hrise hqn
        go_wp2_with fail
        refine (next_nil wr).mono ?_
        rintro e w1 ⟨rfl, hb1⟩
        have B1 := HR.out.1.trans (hb1.mono HR.out.1.size)
        have q1 := (hb1.block w.heap.size (Array.getElem?_eq_some_iff.1 HR.out.2).1).trans HR.out.2
        have g3 : (w1.alloc (.cells zeroE 34)).heap[w1.heap.size]? = _ := heap_alloc_new w1 (.cells zeroE 34)
        have q3 : (w1.alloc (.cells zeroE 34)).heap[w.heap.size]? = _ := (Below.heap_alloc _ _ _ (Array.getElem?_eq_some_iff.1 q1).1).trans q1
        have b3 := B1.alloc B1.size (.cells zeroE 34)
        have hne : w.heap.size < w1.heap.size := (Array.getElem?_eq_some_iff.1 q1).1
        unfold zeroE at g3 q3 b3
        have G3 := Lib.hid (And.intro g3 (And.intro q3 (And.intro b3 hne)))
        clear g3 q3 b3 q1 B1 hb1 hne
        unfold zeroEV
        go_wp2_with (first
          | (refine wpList_putRow rfl 34 (.tmp 8) (.tmp 39) rfl w1.heap.size 34 zeroE zeroE rfl rfl ?g1 (by kernel_rfl) rfl (by simp [zeroE, Value.oneCell']) ?_))
        case g1 => exact G3.out.1
        intro W3 hW3 hbe3
        have B3 : Below w.heap.size w W3 := Below.beside G3.out.2.2.1 hbe3 G3.out.2.2.1.size (by have := G3.out.2.2.2; simp; omega)
        have q4 := (hbe3.block w.heap.size (Array.getElem?_eq_some_iff.1 G3.out.2.1).1 (by have := G3.out.2.2.2; simp; omega)).trans G3.out.2.1
        have HB3 := Lib.hid (And.intro B3 q4)
        clear hW3 hbe3 B3 q4 G3
        go_wp2_with fail
        refine (HRI.out W3 HB3.out.1).mono ?_
        rintro e w4 ⟨rfl, hb4⟩
        have B4 := HB3.out.1.trans (hb4.mono HB3.out.1.size)
        have q4 := (hb4.block w.heap.size (Array.getElem?_eq_some_iff.1 HB3.out.2).1).trans HB3.out.2
        have c0 : w4.cell? ⟨w.heap.size, 0, none⟩ = some (.int .u64 (t : Int)) := by rw [cell_of_row w4 _ _ _ _ _ q4]; rfl
        have c1 : w4.cell? ⟨w.heap.size, 1, none⟩ = some (.int .i64 sx) := by rw [cell_of_row w4 _ _ _ _ _ q4]; rfl
        have HB4 := Lib.hid B4
        clear B4 q4 hb4 HB3 HRI
        have zbb : (wq == wq) = true := by simp
        go_wp2_with fail
        refine (seek_nil t sx w4).mono ?_
        rintro e w5 ⟨rfl, hb5⟩
        have HB5 := Lib.hid (HB4.out.trans (hb5.mono HB4.out.size))
        clear hb5
        go_wp2
        go_ret
        exact ⟨by simp, HB5.out⟩
end Go.Proofs.Ytmdolknanbhkoaa.Ord
