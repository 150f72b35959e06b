/- The law TalkNil. -/
import Derived.Test.YtinjbdgjcadodaaGreatDoorTNp36
import Derived.Test.YtinjbdgjcadodaaGreatDoorTNp37
namespace Go.Proofs.YtinjbdgjcadodaaGreatDoor.St
open Go Go.RowKit Go.Proofs.YtinjbdgjcadodaaGreatDoor.Words Go.Proofs.YtinjbdgjcadodaaGreatDoor.Enc Go.Proofs.YtinjbdgjcadodaaGreatDoor.Made Go.Proofs.YtinjbdgjcadodaaGreatDoor.Dsk Go.Proofs.YtinjbdgjcadodaaGreatDoor.Seg Go.Proofs.YtinjbdgjcadodaaGreatDoor.Evt
open Go.Proofs.YtinjbdgjcadodaaGreatDoor.Mtx (Hav noHav MatAt mat_new Raised)
set_option linter.unusedVariables false
set_option linter.unusedSimpArgs false

theorem ret_law17 (tm : Array Value) (w W : World) (h4 : tm[4]? = some (.bool true)) (h : Below w.heap.size w W) : bodyPost Tryz.prog Tryz.f3 (fun e w' => e = .returned (.bool true) ∧ Below w.heap.size w w') Exit.ret ⟨tm, []⟩ W := by
  refine bodyPost_ret (v := .bool true) ?_ rfl ⟨rfl, h⟩
  simp [results, Tryz.results3, go_sem, h4]
theorem below_of {w w' : World} (h : Below w.drew.heap.size w.drew w') : Below w.heap.size w w' := ((Below.refl w.heap.size w).drew).trans h
/-- What stays of boxes newer than B: letters' boxes, talks. -/
structure RB (B : Nat) (a b : World) : Prop where
  lb : ∀ k X, B ≤ k → a.heap[k]? = some (.cells X 31 (0, 0)) → ∃ Y, b.heap[k]? = some (.cells Y 31 (0, 0)) ∧ Y.size = X.size
  tk : ∀ k ser, B ≤ k → TalkAt a k ser → TalkAt b k ser
theorem RB.refl (B : Nat) (a : World) : RB B a a := ⟨fun k X _ h => ⟨X, h, rfl⟩, fun _ _ _ h => h⟩
theorem RB.beside {B : Nat} {a b : World} {D : List Nat} (h : Beside D a b) (hD : ∀ k ∈ D, k < B) : RB B a b :=
  ⟨fun k X hk hx => ⟨X, (h.block k (Array.getElem?_eq_some_iff.1 hx).1 (fun hm => by have := hD k hm; omega)).trans hx, rfl⟩, fun k ser hk ht => ht.beside h fun hm => by have := hD k hm; omega⟩
theorem RB.below {B : Nat} {a b : World} (h : Below a.heap.size a b) : RB B a b := RB.beside (Beside.of_below h []) fun k hk => by cases hk
theorem RB.stored {B : Nat} {W : World} {x : Nat} {X vs : Array Value} (hx : W.heap[x]? = some (.cells X 31 (0, 0))) (hs : vs.size = X.size) : RB B W (W.setRow x vs) := by
  have hb := setRow_beside W x vs
  refine ⟨fun k Y hk hY => ?_, fun k ser hk ht => ht.beside hb ?_⟩
  · by_cases e : k = x
    · subst e
      rw [hx] at hY
      injection hY with hY
      injection hY with hY
      subst hY
      exact ⟨vs, heap_setRow hx, hs⟩
    · exact ⟨Y, (hb.block k (Array.getElem?_eq_some_iff.1 hY).1 (by simp; exact e)).trans hY, rfl⟩
  · intro hm
    simp at hm
    subst hm
    obtain ⟨c, h1, -⟩ := ht.row
    rw [hx] at h1
    injection h1 with h1
    injection h1 with _ h1
    exact absurd h1 (by decide)
/-- A box of a letter. -/
def PLb (B : Nat) : Facts.PredR (RB B) := ⟨fun v W => ∃ b Y, v = .pointer (some ⟨b, 0, none⟩) ∧ B ≤ b ∧ W.heap[b]? = some (.cells Y 31 (0, 0)) ∧ Y.size = 14, fun v w w' ⟨b, Y, h1, h2, h3, h4⟩ hb => by
  obtain ⟨Z, h5, h6⟩ := hb.lb b Y h2 h3
  exact ⟨b, Z, h1, h2, h5, h6.trans h4⟩⟩
def PTkN (B : Nat) : Facts.PredR (RB B) := ⟨fun v W => ∃ b, v = .pointer (some ⟨b, 0, none⟩) ∧ B ≤ b ∧ TalkAt W b 9223372036854775807, fun v w w' ⟨g, h1, h2, h3⟩ hb => ⟨g, h1, h2, hb.tk g _ h2 h3⟩⟩
def PTg {R : World → World → Prop} (E : Int) : Facts.PredR R := Facts.PredR.that fun v => ∃ X : Array Value, v = .tuple #[.agg X, .int .i64 E] ∧ X.size = 14 ∧ X.all (·.oneCell') = true
def PTb {R : World → World → Prop} : Facts.PredR R := Facts.PredR.that fun v => ∃ X : Array Value, v = .agg X ∧ X.size = 14 ∧ X.all (·.oneCell') = true
theorem Wrt.keep {w0 w : World} {p d g mb tb ser : Nat} {s : Sto} (h : Wrt w0 w p d g mb tb ser s) {b : Nat} {o : Obj} (hx : w0.heap[b]? = some o) : w.heap[b]? = some o := (h.below.block b (Array.getElem?_eq_some_iff.1 hx).1).trans hx
/-- Behind the store into a new box. -/
theorem Wrt.off {w0 wp w W : World} {p d g mb tb ser : Nat} {s : Sto} (h0 : Wrt w0 wp p d g mb tb 10 s) (h : Wrt w0 w p d g mb tb ser s) (hbp : Beside [mb, tb] wp w) {x : Nat} (hb : Beside [x] w W) (hx : wp.heap.size ≤ x) : Wrt w0 W p d g mb tb ser s := by
  have hpl := (Array.getElem?_eq_some_iff.1 h0.row).1
  have hpl2 := (Array.getElem?_eq_some_iff.1 h.row).1
  have hord := h0.ord
  have hs := h0.below.size
  have hbw : Beside [mb, tb] wp W := hbp.trans hb fun k hk => .inr (by simp at hk; omega)
  exact ⟨Below.beside h.below hb h.below.size (by simp; omega), h.base, h.sto.beside hb (by simp; omega), h.node, h.ck, fun V hV => h0.nexts V (hbw.trans hV fun k hk => .inl hk), fun e => mat_off (h.mat e) hb (by simp; omega) (fun i _ a ha => by cases ha), Nat.lt_of_lt_of_le h.mlt hb.size, h.tk.beside hb (by simp; omega), (hb.block p hpl2 (by simp; omega)).trans h.row, h.ord⟩
/-- Region 10: b: Begin has been. -/
structure J10 (wp w0 : World) (p d g mb tb : Nat) (s : Sto) (b : Bool) (W : World) : Prop where
  be : Beside [mb, tb] wp W
  row : W.heap[p]? = some (.cells (sideRow d g mb tb) 44 (0, 0))
  w : b = false → Wrt w0 W p d g mb tb 10 s
  t : b = true → ∃ ser, Wrt w0 W p d g mb tb ser s
theorem J10.start {wp w0 : World} {p d g mb tb : Nat} {s : Sto} (h : Wrt w0 wp p d g mb tb 10 s) : J10 wp w0 p d g mb tb s false wp.drew :=
  ⟨Beside.of_below (Below.refl _ _).drew _, (h.next (Below.refl _ _).drew).row, fun _ => h.next (Below.refl _ _).drew, fun h => by cases h⟩
theorem J10.alloc {wp w0 W : World} {p d g mb tb : Nat} {s : Sto} {b : Bool} (h : J10 wp w0 p d g mb tb s b W) (o : Obj) : J10 wp w0 p d g mb tb s b (W.alloc o) := by
  have hb : Below W.heap.size W (W.alloc o) := (Below.refl _ _).alloc (Nat.le_refl _) _
  exact ⟨h.be.below hb, (hb.block p (Array.getElem?_eq_some_iff.1 h.row).1).trans h.row, fun e => (h.w e).next hb, fun e => by obtain ⟨q, hq⟩ := h.t e; exact ⟨q, hq.next hb⟩⟩
theorem J10.stored {wp w0 W : World} {p d g mb tb : Nat} {s : Sto} {b : Bool} (h : J10 wp w0 p d g mb tb s b W) (h0 : Wrt w0 wp p d g mb tb 10 s) {x : Nat} {vs : Array Value} (hx : wp.heap.size ≤ x) : J10 wp w0 p d g mb tb s b (W.setRow x vs) := by
  have hb := setRow_beside W x vs
  have hpl := (Array.getElem?_eq_some_iff.1 h0.row).1
  exact ⟨h.be.trans hb fun k hk => .inr (by simp at hk; omega), (hb.block p (Array.getElem?_eq_some_iff.1 h.row).1 (by simp; omega)).trans h.row, fun e => h0.off (h.w e) h.be hb hx, fun e => by obtain ⟨q, hq⟩ := h.t e; exact ⟨q, h0.off hq h.be hb hx⟩⟩
/-- The last comparison of the law. -/
theorem same17 (w13 w14 : World) (A' : Option Addr) (c' : Nat) (H : List Nat) (n : Nat) (h1 : ∀ i, Vec.at_ H i = one17 i) (h2 : H.length = n) (K : Nat) (hK : K = Vec.trimN H n) (ho : w14.ownsRow w13.heap.size 22 1 (.slice A' K c') K (Vec.us (H.take K))) (hb : Below w13.heap.size w13 w14) :
    Calls Tryz.prog 16 #[.slice A' K c', .slice (some ⟨w14.heap.size + 1, 0, none⟩) 1 1] ((w14.alloc (.cells #[.int .i64 0, .slice A' K c', .int .u64 1] 55)).alloc (.cells #[.int .u64 1] 22)) fun e w' => e = .returned (.bool true) ∧ w' = (w14.alloc (.cells #[.int .i64 0, .slice A' K c', .int .u64 1] 55)).alloc (.cells #[.int .u64 1] 22) := by
  have hb1 : Below w14.heap.size w14 (w14.alloc (.cells #[.int .i64 0, .slice A' K c', .int .u64 1] 55)) := (Below.refl _ _).alloc (Nat.le_refl _) _
  have hb2 := hb1.alloc hb1.size (.cells #[.int .u64 1] 22)
  have hc := heap_alloc_new (w14.alloc (.cells #[.int .i64 0, .slice A' K c', .int .u64 1] 55)) (.cells #[.int .u64 1] 22)
  rw [show (w14.alloc (.cells #[.int .i64 0, .slice A' K c', .int .u64 1] 55)).heap.size = w14.heap.size + 1 by simp] at hc
  have hKl : K ≤ H.length := by rw [hK, h2]; exact Vec.trimN_le _ _
  have hKs : K ≤ 900000 := by
    rcases Nat.lt_or_ge 1 K with h | h
    · have h9 := Vec.trimN_last H n (by omega)
      rw [← hK, h1] at h9
      unfold one17 at h9
      rw [if_neg (by omega)] at h9
      exact absurd rfl h9
    · omega
  refine Vec.sameV_new A' (some ⟨w14.heap.size + 1, 0, none⟩) K c' 1 1 (H.take K) [1] _ ((Vec.SeesU.of_own ho).below hb2) ⟨rfl, fun _ => ⟨w14.heap.size + 1, 0, rfl, fun j x hj => ?_⟩⟩ hKs (by omega) fun i => ?_
  · match j, hj with
    | 0, hj => simp at hj; subst hj; rw [cell_of_row _ _ _ _ _ _ hc]; rfl
  · have ht : H.take K = Vec.trimL H := by rw [hK, ← h2]; rfl
    rw [ht, Vec.trimL_at, h1]
    unfold one17 Vec.at_
    match i with
    | 0 => rfl
    | i + 1 => simp
theorem fin17 {w w1 w9 w13 w14 : World} {m2 : Nat} (h1 : Below w.heap.size w w1) (h2 : Below w1.heap.size w1 w9) (h3 : Beside [m2] w9 w13) (h4 : w1.heap.size ≤ m2) (h5 : Below w13.heap.size w13 w14) (x y : Obj) : Below w.heap.size w ((w14.alloc x).alloc y) := by
  have s1 := h1.size
  have s2 := h2.size
  have s3 := h3.size
  have s5 := h5.size
  have k1 := Below.beside h2 h3 s2 (by simp; exact h4)
  have k2 : Below w14.heap.size w14 (w14.alloc x) := (Below.refl _ _).alloc (Nat.le_refl _) _
  have k3 := k2.alloc k2.size y
  exact h1.trans ((k1.trans (h5.mono (by omega) |>.trans (k3.mono (by omega)))).mono s1)
theorem haveT_at (i : Nat) : Vec.at_ (haveT one17) i = one17 i := by
  have : haveT one17 = Vec.trimL (haveL one17) := by unfold haveT Vec.trimL; rw [haveL_len]
  rw [this, Vec.trimL_at, haveL_at]
  unfold one17
  by_cases h : i = 0
  · subst h; rfl
  · simp [h]
set_option maxRecDepth 100000 in
set_option maxHeartbeats 8000000 in
theorem nil_main (kd sr tm sz sm pl : Nat) (fr tt wy to : Int) (mi : Bool) (A5 A6 A7 A12 : Option Addr) (n5 c5 n6 c6 n7 c7 n12 c12 : Nat) (w : World) (T : Chk.Tabs w) (ST : STabs w) (h5 : n5 ≤ 64) (h6 : n6 ≤ 20) (h7 : n7 ≤ 20) :
    Calls Tryz.prog 3 #[.agg #[.int .u8 (kd : Int), .int .i64 fr, .int .i64 tt, .bool mi, .int .u64 (sr : Int), .slice A5 n5 c5, .slice A6 n6 c6, .slice A7 n7 c7, .int .u64 (tm : Int), .int .u64 (sz : Int), .int .u32 (sm : Int), .int .u64 (pl : Int), .slice A12 n12 c12, .int .i64 wy], .int .i64 to] w fun e w' => e = .returned (.bool true) ∧ Below w.heap.size w w' := by
  have hsf := store_float Tryz.prog
  obtain ⟨u, hu⟩ : ∃ u, u = w.alloc (.cells #[.int .u8 (kd : Int), .int .i64 fr, .int .i64 tt, .bool mi, .int .u64 (sr : Int), .slice A5 n5 c5, .slice A6 n6 c6, .slice A7 n7 c7, .int .u64 (tm : Int), .int .u64 (sz : Int), .int .u32 (sm : Int), .int .u64 (pl : Int), .slice A12 n12 c12, .int .i64 wy] 31) := ⟨_, rfl⟩
  have hbu : Below w.heap.size w u := by rw [hu]; exact (Below.refl _ _).alloc (Nat.le_refl _) _
  have G := Lib.hid (show u.heap[w.heap.size]? = some (.cells #[.int .u8 (kd : Int), .int .i64 fr, .int .i64 tt, .bool mi, .int .u64 (sr : Int), .slice A5 n5 c5, .slice A6 n6 c6, .slice A7 n7 c7, .int .u64 (tm : Int), .int .u64 (sz : Int), .int .u32 (sm : Int), .int .u64 (pl : Int), .slice A12 n12 c12, .int .i64 wy] 31 (0, 0)) by rw [hu]; exact heap_alloc_new w _)
  have HBU := Lib.hid hbu
  have AW := Lib.hid (awake17 u (T.below hbu) (ST.below hbu))
  have HTT := Lib.hid (And.intro (T.below hbu) (ST.below hbu))
  have HU := Lib.hid hu
  clear hu hbu T ST
  go_enter Tryz.func3, Tryz.ntmps3
  go_wp2_with fail
  rw [← HU.out]
  refine AW.out.mono ?_
  rintro e w1 ⟨rfl, hb1⟩
  have G1 := (hb1.block _ (Array.getElem?_eq_some_iff.1 G.out).1).trans G.out
  obtain ⟨⟨x0, x1, x2, x3, x4, x5, x6⟩, x7, x8, x9, x10, x11, x12, x13⟩ := box14 G1
  have OP := Lib.hid (open17 w1 (HTT.out.1.below hb1) (HTT.out.2.below hb1))
  have HT1 := Lib.hid (And.intro (HTT.out.1.below hb1) (HTT.out.2.below hb1))
  have HBB := Lib.hid (HBU.out.trans (hb1.mono HBU.out.size))
  obtain ⟨X, hX⟩ : ∃ X : Array Value, X = #[.int .u8 (kd : Int), .int .i64 fr, .int .i64 tt, .bool mi, .int .u64 (sr : Int), .slice A5 n5 c5, .slice A6 n6 c6, .slice A7 n7 c7, .int .u64 (tm : Int), .int .u64 (sz : Int), .int .u32 (sm : Int), .int .u64 (pl : Int), .slice A12 n12 c12, .int .i64 wy] := ⟨_, rfl⟩
  have hX1 : X.all (·.oneCell') = true := by rw [hX]; simp [Value.oneCell']
  have hX2 : X.size = 14 := by rw [hX]; rfl
  have hXi : (Tryz.prog.info? 31).map (·.size) = some X.size := by rw [hX2]; kernel_rfl
  rw [← hX] at G1
  obtain ⟨b2, hb2⟩ : ∃ b2, b2 = w.heap.size := ⟨_, rfl⟩
  rw [← hb2] at G1 x0 x1 x2 x3 x4 x5 x6 x7 x8 x9 x10 x11 x12 x13 ⊢
  have HX1 := Lib.hid G1
  have HXF := Lib.hid (And.intro hX1 (And.intro hX2 hXi))
  obtain ⟨E, hE⟩ : ∃ E, E = begE to := ⟨_, rfl⟩
  have HE := Lib.hid hE.symm
  have q5 : decide ((64 : Int) < (n5 : Int)) = false := decide_eq_false (by omega)
  have q6 : decide ((20 : Int) < (n6 : Int)) = false := decide_eq_false (by omega)
  have q7 : decide ((20 : Int) < (n7 : Int)) = false := decide_eq_false (by omega)
  clear hX hX1 hX2 hXi hE G1 hb1 hb2 AW HTT HU G
  go_wp2_with fail
  refine OP.out.mono ?_
  rintro e w2 ⟨wa, p, d, g, mb, tb, s, S, f, rfl, hS⟩
  have WR : Calls Tryz.prog 7 #[.pointer (some ⟨g, 0, none⟩), .agg #[.int .i64 0, .int .u64 0, .int .u64 0, .int .u8 4, .string ⟨#[107]⟩, .slice none 0 0, .float .f64 0, .int .i64 0]] w2 _ := hS.writes HT1.out.1 HT1.out.2
  have WR := Lib.hid WR
  obtain ⟨k0, k1, k2, k3⟩ := side_cells hS.row
  unfold ptrV at k1
  clear hS OP x0 x1 x2 x3 x4 x5 x6 x7 x8 x9 x10 x11 x12 x13
  go_wp2_with fail
  refine WR.out.mono ?_
  rintro e w3 ⟨An, nn, cn, st, rfl, hW⟩
  have HW := Lib.hid hW
  have hX1 := HXF.out.1
  have hX2 := HXF.out.2.1
  have hXi := HXF.out.2.2
  generalize (asOwn exDrop 0 1 1).val An nn cn = v48
  clear hW WR k0 k1 k2 k3 q5 q6 q7
  go_upto_region 6 with fail
  refine Facts.wp_region_inv (fun _ _ W => Below w3.heap.size w3 W) (RB w3.heap.size) (n := 198) (by kernel_rfl) (by kernel_rfl) rfl (fun a => RB.refl _ a) [Facts.PredR.is (.pointer none), Facts.PredR.is (.pointer (some ⟨p, 0, none⟩)), Facts.PredR.is (.pointer (some ⟨p, 0, none⟩)), Facts.PredR.is (.pointer (some ⟨p, 1, none⟩)), Facts.PredR.is (.pointer (some ⟨g, 0, none⟩)), Facts.PredR.is (.pointer (some ⟨p, 0, none⟩)), Facts.PredR.is (.pointer (some ⟨p, 0, none⟩)), Facts.PredR.is (.pointer (some ⟨p, 2, none⟩)), Facts.PredR.is (.pointer (some ⟨mb, 0, none⟩)), Facts.PredR.is (.tuple #[.agg lzero, .int .i64 2]), Facts.PredR.is (.tuple #[.agg lzero, .int .i64 2]), Facts.PredR.is (.agg lzero), Facts.PredR.is (.int .i64 2), PLb (w3.heap.size), Facts.PredR.any, Facts.PredR.is (.int .i64 2)] ?_ ?_ ?_
  · exact (Below.refl _ _).drew
  · refine ⟨?_, ?_, ?_, ?_, ?_, ?_, ?_, ?_, ?_, ?_, ?_, ?_, ?_, ?_, ?_, ?_, trivial⟩
    · refine Facts.stepI_is (.pointer none) (fun a => RB.refl _ a) fun s a W hsz hsj hwt hI hold hnew => ?_
      have f5 : a.tmps.getD 5 undef = .pointer none := hold 5 (by kernel_rfl)
      refine ⟨Facts.wanted_free rfl, ?_, by simpa using hI, fun _ => rfl⟩
      simp [go_sem, Act.eval, f5]
    · refine Facts.stepI_is (.pointer (some ⟨p, 0, none⟩)) (fun a => RB.refl _ a) fun s a W hsz hsj hwt hI hold hnew => ?_
      have f6 : a.tmps.getD 6 undef = .pointer (some ⟨p, 0, none⟩) := hold 6 (by kernel_rfl)
      refine ⟨Facts.wanted_free rfl, ?_, by simpa using hI, fun _ => rfl⟩
      simp [go_sem, Act.eval, f6]
    · refine Facts.stepI_is (.pointer (some ⟨p, 0, none⟩)) (fun a => RB.refl _ a) fun s a W hsz hsj hwt hI hold hnew => ?_
      have f51 : a.tmps.getD 51 undef = .pointer (some ⟨p, 0, none⟩) := hnew 1 51 (by kernel_rfl)
      refine ⟨Facts.wanted_free rfl, ?_, by simpa using hI, fun _ => rfl⟩
      simp [go_sem, Act.eval, f51]
    · refine Facts.stepI_is (.pointer (some ⟨p, 1, none⟩)) (fun a => RB.refl _ a) fun s a W hsz hsj hwt hI hold hnew => ?_
      have f52 : a.tmps.getD 52 undef = .pointer (some ⟨p, 0, none⟩) := hnew 2 52 (by kernel_rfl)
      refine ⟨Facts.wanted_free rfl, ?_, by simpa using hI, fun _ => rfl⟩
      simp [go_sem, Act.eval, f52]
    · refine Facts.stepI_is (.pointer (some ⟨g, 0, none⟩)) (fun a => RB.refl _ a) fun s a W hsz hsj hwt hI hold hnew => ?_
      have f53 : a.tmps.getD 53 undef = .pointer (some ⟨p, 1, none⟩) := hnew 3 53 (by kernel_rfl)
      obtain ⟨k0, k1, k2, k3⟩ := side_cells (HW.out.next hI).row
      refine ⟨Facts.wanted_free rfl, ?_, by simpa using hI, fun _ => rfl⟩
      simp [go_sem, Act.eval, f53, k1, ptrV]
    · refine Facts.stepI_is (.pointer (some ⟨p, 0, none⟩)) (fun a => RB.refl _ a) fun s a W hsz hsj hwt hI hold hnew => ?_
      have f6 : a.tmps.getD 6 undef = .pointer (some ⟨p, 0, none⟩) := hold 6 (by kernel_rfl)
      refine ⟨Facts.wanted_free rfl, ?_, by simpa using hI, fun _ => rfl⟩
      simp [go_sem, Act.eval, f6]
    · refine Facts.stepI_is (.pointer (some ⟨p, 0, none⟩)) (fun a => RB.refl _ a) fun s a W hsz hsj hwt hI hold hnew => ?_
      have f55 : a.tmps.getD 55 undef = .pointer (some ⟨p, 0, none⟩) := hnew 5 55 (by kernel_rfl)
      refine ⟨Facts.wanted_free rfl, ?_, by simpa using hI, fun _ => rfl⟩
      simp [go_sem, Act.eval, f55]
    · refine Facts.stepI_is (.pointer (some ⟨p, 2, none⟩)) (fun a => RB.refl _ a) fun s a W hsz hsj hwt hI hold hnew => ?_
      have f56 : a.tmps.getD 56 undef = .pointer (some ⟨p, 0, none⟩) := hnew 6 56 (by kernel_rfl)
      refine ⟨Facts.wanted_free rfl, ?_, by simpa using hI, fun _ => rfl⟩
      simp [go_sem, Act.eval, f56]
    · refine Facts.stepI_is (.pointer (some ⟨mb, 0, none⟩)) (fun a => RB.refl _ a) fun s a W hsz hsj hwt hI hold hnew => ?_
      have f57 : a.tmps.getD 57 undef = .pointer (some ⟨p, 2, none⟩) := hnew 7 57 (by kernel_rfl)
      obtain ⟨k0, k1, k2, k3⟩ := side_cells (HW.out.next hI).row
      refine ⟨Facts.wanted_free rfl, ?_, by simpa using hI, fun _ => rfl⟩
      simp [go_sem, Act.eval, f57, k2, ptrV]
    · refine Facts.stepI_call fun s a W hsz hsj hwt hI hold hnew => ?_
      have f50 : a.tmps.getD 50 undef = .pointer none := hnew 0 50 (by kernel_rfl)
      have f54 : a.tmps.getD 54 undef = .pointer (some ⟨g, 0, none⟩) := hnew 4 54 (by kernel_rfl)
      have f58 : a.tmps.getD 58 undef = .pointer (some ⟨mb, 0, none⟩) := hnew 8 58 (by kernel_rfl)
      refine ⟨Facts.wanted_free rfl, 8, #[.pointer none, .pointer (some ⟨g, 0, none⟩), .pointer (some ⟨mb, 0, none⟩), .int .i64 1], by simp [go_sem, Act.eval, f50, f54, f58], ?_⟩
      refine (begin_nilT (.pointer (some ⟨g, 0, none⟩)) (.pointer (some ⟨mb, 0, none⟩)) 1 W).mono ?_
      rintro e w8 ⟨rfl, hb8⟩
      exact ⟨_, rfl, hI.trans (hb8.mono hI.size), RB.below hb8, rfl⟩
    · refine Facts.stepI_is (.tuple #[.agg lzero, .int .i64 2]) (fun a => RB.refl _ a) fun s a W hsz hsj hwt hI hold hnew => ?_
      have f59 : a.tmps.getD 59 undef = .tuple #[.agg lzero, .int .i64 2] := hnew 9 59 (by kernel_rfl)
      refine ⟨Facts.wanted_free rfl, ?_, by simpa using hI, fun _ => rfl⟩
      simp [go_sem, Act.eval, f59]
    · refine Facts.stepI_is (.agg lzero) (fun a => RB.refl _ a) fun s a W hsz hsj hwt hI hold hnew => ?_
      have f49 : a.tmps.getD 49 undef = .tuple #[.agg lzero, .int .i64 2] := hnew 10 49 (by kernel_rfl)
      refine ⟨Facts.wanted_free rfl, ?_, by simpa using hI, fun _ => rfl⟩
      simp [go_sem, Act.eval, f49]
    · refine Facts.stepI_is (.int .i64 2) (fun a => RB.refl _ a) fun s a W hsz hsj hwt hI hold hnew => ?_
      have f49 : a.tmps.getD 49 undef = .tuple #[.agg lzero, .int .i64 2] := hnew 10 49 (by kernel_rfl)
      refine ⟨Facts.wanted_free rfl, ?_, by simpa using hI, fun _ => rfl⟩
      simp [go_sem, Act.eval, f49]
    · refine Facts.stepI_new fun s a W hsz hsj hwt hI hold hnew => ?_
      exact ⟨Facts.wanted_free rfl, .pointer (some ⟨W.heap.size, 0, none⟩), W.alloc (.cells lzero 31), by simp [go_sem, Act.eval, lzero], hI.trans (((Below.refl _ _).alloc (Nat.le_refl _) _).mono hI.size), RB.below ((Below.refl _ _).alloc (Nat.le_refl _) _), W.heap.size, lzero, rfl, hI.size, heap_alloc_new W _, rfl⟩
    · refine Facts.stepI_store fun s a W hsz hsj hwt hI hold hnew => ?_
      have h7 : ∃ b Y, a.tmps.getD 7 undef = .pointer (some ⟨b, 0, none⟩) ∧ w3.heap.size ≤ b ∧ W.heap[b]? = some (.cells Y 31 (0, 0)) ∧ Y.size = 14 := hnew 13 7 (by kernel_rfl)
      obtain ⟨bx, Y9, f7, hbx, hxx, hys⟩ := h7
      have f60 : a.tmps.getD 60 undef = .agg lzero := hnew 11 60 (by kernel_rfl)
      exact ⟨Facts.wanted_free rfl, _, Facts.exec_putRow 31 (.tmp 7) (.tmp 60) rfl bx 31 Y9 lzero f7 f60 hxx (by kernel_rfl) (by rw [hys]; rfl) (by simp [lzero, Value.oneCell']), Below.beside hI (setRow_beside W bx _) hI.size (by simp; exact hbx), RB.stored hxx (by rw [hys]; rfl), trivial⟩
    · refine Facts.stepI_is (.int .i64 2) (fun a => RB.refl _ a) fun s a W hsz hsj hwt hI hold hnew => ?_
      have f61 : a.tmps.getD 61 undef = .int .i64 2 := hnew 12 61 (by kernel_rfl)
      refine ⟨Facts.wanted_free rfl, ?_, by simpa using hI, fun _ => rfl⟩
      simp [go_sem, Act.eval, f61]
  · intro a w6 hI hsize hdef hnew hold
    have f8 : a.tmps.getD 8 undef = .int .i64 2 := hnew 15 8 (by kernel_rfl)
    have f1 : a.tmps.getD 1 undef = Value.int .i64 to := hold 1 (Facts.not_dst (by kernel_rfl))
    have f2 : a.tmps.getD 2 undef = Value.pointer (some ⟨b2, 0, none⟩) := hold 2 (Facts.not_dst (by kernel_rfl))
    have f5 : a.tmps.getD 5 undef = Value.pointer none := hold 5 (Facts.not_dst (by kernel_rfl))
    have f6 : a.tmps.getD 6 undef = Value.pointer (some ⟨p, 0, none⟩) := hold 6 (Facts.not_dst (by kernel_rfl))
    obtain ⟨tm, df⟩ := a
    simp only [] at hdef hsize f1 f2 f5 f6 f8
    obtain ⟨xq, hxq, hlit⟩ := Facts.lits tm hsize Facts.idx198 Facts.idx198_eq
    rw [hxq] at f1 f2 f5 f6 f8
    simp only [Facts.idx198, List.map_cons, List.map_nil, f1, f2, f5, f6, f8] at hlit
    clear f1 f2 f5 f6 f8 hsize hnew hold hxq
    subst hlit
    subst hdef
    try simp only []
    have HW := Lib.hid (HW.out.next hI)
    clear hI
    go_upto_region 7 with fail
    refine Facts.wp_region_preds (n := 198) (by kernel_rfl) (by kernel_rfl) rfl [Facts.Pred.is (.pointer none), Facts.Pred.is (.pointer (some ⟨p, 0, none⟩)), Facts.Pred.is (.pointer (some ⟨p, 0, none⟩)), Facts.Pred.is (.pointer (some ⟨p, 1, none⟩)), Facts.Pred.is (.pointer (some ⟨g, 0, none⟩)), Facts.Pred.is (.pointer (some ⟨p, 0, none⟩)), Facts.Pred.is (.pointer (some ⟨p, 0, none⟩)), Facts.Pred.is (.pointer (some ⟨p, 2, none⟩)), Facts.Pred.is (.pointer (some ⟨mb, 0, none⟩)), Facts.Pred.is (.agg X), Facts.Pred.is (.tuple #[.slice none 0 0, .int .i64 2]), Facts.Pred.is (.tuple #[.slice none 0 0, .int .i64 2]), Facts.Pred.is (.slice none 0 0), Facts.Pred.is (.int .i64 2), Facts.Pred.is (.slice none 0 0), Facts.Pred.is (.int .i64 2)] ?_ ?_
    · refine ⟨?_, ?_, ?_, ?_, ?_, ?_, ?_, ?_, ?_, ?_, ?_, ?_, ?_, ?_, ?_, ?_, trivial⟩
      · refine Facts.step_is (.pointer none) fun a W hR hold hnew => ?_
        have f5 : a.tmps.getD 5 undef = .pointer none := hold 5 (by kernel_rfl)
        refine ⟨Facts.wanted_free rfl, ?_, fun _ => rfl⟩; simp [go_sem, Act.eval, f5]
      · refine Facts.step_is (.pointer (some ⟨p, 0, none⟩)) fun a W hR hold hnew => ?_
        have f6 : a.tmps.getD 6 undef = .pointer (some ⟨p, 0, none⟩) := hold 6 (by kernel_rfl)
        refine ⟨Facts.wanted_free rfl, ?_, fun _ => rfl⟩; simp [go_sem, Act.eval, f6]
      · refine Facts.step_is (.pointer (some ⟨p, 0, none⟩)) fun a W hR hold hnew => ?_
        have f64 : a.tmps.getD 64 undef = .pointer (some ⟨p, 0, none⟩) := hnew 1 64 (by kernel_rfl)
        refine ⟨Facts.wanted_free rfl, ?_, fun _ => rfl⟩; simp [go_sem, Act.eval, f64]
      · refine Facts.step_is (.pointer (some ⟨p, 1, none⟩)) fun a W hR hold hnew => ?_
        have f65 : a.tmps.getD 65 undef = .pointer (some ⟨p, 0, none⟩) := hnew 2 65 (by kernel_rfl)
        refine ⟨Facts.wanted_free rfl, ?_, fun _ => rfl⟩; simp [go_sem, Act.eval, f65]
      · refine Facts.step_is (.pointer (some ⟨g, 0, none⟩)) fun a W hR hold hnew => ?_
        have f66 : a.tmps.getD 66 undef = .pointer (some ⟨p, 1, none⟩) := hnew 3 66 (by kernel_rfl)
        obtain ⟨k0, k1, k2, k3⟩ := side_cells (HW.out.next (below_of hR)).row
        refine ⟨Facts.wanted_free rfl, ?_, fun _ => rfl⟩; simp [go_sem, Act.eval, f66, k1, ptrV]
      · refine Facts.step_is (.pointer (some ⟨p, 0, none⟩)) fun a W hR hold hnew => ?_
        have f6 : a.tmps.getD 6 undef = .pointer (some ⟨p, 0, none⟩) := hold 6 (by kernel_rfl)
        refine ⟨Facts.wanted_free rfl, ?_, fun _ => rfl⟩; simp [go_sem, Act.eval, f6]
      · refine Facts.step_is (.pointer (some ⟨p, 0, none⟩)) fun a W hR hold hnew => ?_
        have f68 : a.tmps.getD 68 undef = .pointer (some ⟨p, 0, none⟩) := hnew 5 68 (by kernel_rfl)
        refine ⟨Facts.wanted_free rfl, ?_, fun _ => rfl⟩; simp [go_sem, Act.eval, f68]
      · refine Facts.step_is (.pointer (some ⟨p, 2, none⟩)) fun a W hR hold hnew => ?_
        have f69 : a.tmps.getD 69 undef = .pointer (some ⟨p, 0, none⟩) := hnew 6 69 (by kernel_rfl)
        refine ⟨Facts.wanted_free rfl, ?_, fun _ => rfl⟩; simp [go_sem, Act.eval, f69]
      · refine Facts.step_is (.pointer (some ⟨mb, 0, none⟩)) fun a W hR hold hnew => ?_
        have f70 : a.tmps.getD 70 undef = .pointer (some ⟨p, 2, none⟩) := hnew 7 70 (by kernel_rfl)
        obtain ⟨k0, k1, k2, k3⟩ := side_cells (HW.out.next (below_of hR)).row
        refine ⟨Facts.wanted_free rfl, ?_, fun _ => rfl⟩; simp [go_sem, Act.eval, f70, k2, ptrV]
      · refine Facts.step_is (.agg X) fun a W hR hold hnew => ?_
        have f2 : a.tmps.getD 2 undef = .pointer (some ⟨b2, 0, none⟩) := hold 2 (by kernel_rfl)
        have hx := (HW.out.next (below_of hR)).keep HX1.out
        refine ⟨Facts.wanted_free rfl, ?_, fun _ => rfl⟩
        exact Facts.exec_getRow 31 (.tmp 2) rfl b2 31 X (0, 0) _ f2 hx Tryz.underlying31 rfl hXi
      · refine Facts.step_call fun a W hR hold hnew => ?_
        have f63 : a.tmps.getD 63 undef = .pointer none := hnew 0 63 (by kernel_rfl)
        have f67 : a.tmps.getD 67 undef = .pointer (some ⟨g, 0, none⟩) := hnew 4 67 (by kernel_rfl)
        have f71 : a.tmps.getD 71 undef = .pointer (some ⟨mb, 0, none⟩) := hnew 8 71 (by kernel_rfl)
        have f72 : a.tmps.getD 72 undef = .agg X := hnew 9 72 (by kernel_rfl)
        refine ⟨Facts.wanted_free rfl, 9, #[.pointer none, .pointer (some ⟨g, 0, none⟩), .pointer (some ⟨mb, 0, none⟩), .agg X], by simp [go_sem, Act.eval, f63, f67, f71, f72], ?_⟩
        refine (hear_nilT (.pointer (some ⟨g, 0, none⟩)) (.pointer (some ⟨mb, 0, none⟩)) X W hX1 hX2).mono ?_
        rintro e w8 ⟨rfl, hb8⟩
        exact ⟨_, rfl, hb8, rfl⟩
      · refine Facts.step_is (.tuple #[.slice none 0 0, .int .i64 2]) fun a W hR hold hnew => ?_
        have f73 : a.tmps.getD 73 undef = .tuple #[.slice none 0 0, .int .i64 2] := hnew 10 73 (by kernel_rfl)
        refine ⟨Facts.wanted_free rfl, ?_, fun _ => rfl⟩; simp [go_sem, Act.eval, f73]
      · refine Facts.step_is (.slice none 0 0) fun a W hR hold hnew => ?_
        have f62 : a.tmps.getD 62 undef = .tuple #[.slice none 0 0, .int .i64 2] := hnew 11 62 (by kernel_rfl)
        refine ⟨Facts.wanted_free rfl, ?_, fun _ => rfl⟩; simp [go_sem, Act.eval, f62]
      · refine Facts.step_is (.int .i64 2) fun a W hR hold hnew => ?_
        have f62 : a.tmps.getD 62 undef = .tuple #[.slice none 0 0, .int .i64 2] := hnew 11 62 (by kernel_rfl)
        refine ⟨Facts.wanted_free rfl, ?_, fun _ => rfl⟩; simp [go_sem, Act.eval, f62]
      · refine Facts.step_is (.slice none 0 0) fun a W hR hold hnew => ?_
        have f74 : a.tmps.getD 74 undef = .slice none 0 0 := hnew 12 74 (by kernel_rfl)
        refine ⟨Facts.wanted_free rfl, ?_, fun _ => rfl⟩; simp [go_sem, Act.eval, f74]
      · refine Facts.step_is (.int .i64 2) fun a W hR hold hnew => ?_
        have f75 : a.tmps.getD 75 undef = .int .i64 2 := hnew 13 75 (by kernel_rfl)
        refine ⟨Facts.wanted_free rfl, ?_, fun _ => rfl⟩; simp [go_sem, Act.eval, f75]
    · intro a w7 hR' hsize hdef hnew hold
      have f10 : a.tmps.getD 10 undef = .int .i64 2 := hnew 15 10 (by kernel_rfl)
      have f1 : a.tmps.getD 1 undef = Value.int .i64 to := hold 1 (Facts.not_dst (by kernel_rfl))
      have f2 : a.tmps.getD 2 undef = Value.pointer (some ⟨b2, 0, none⟩) := hold 2 (Facts.not_dst (by kernel_rfl))
      have f5 : a.tmps.getD 5 undef = Value.pointer none := hold 5 (Facts.not_dst (by kernel_rfl))
      have f6 : a.tmps.getD 6 undef = Value.pointer (some ⟨p, 0, none⟩) := hold 6 (Facts.not_dst (by kernel_rfl))
      have f8 : a.tmps.getD 8 undef = Value.int .i64 2 := hold 8 (Facts.not_dst (by kernel_rfl))
      obtain ⟨tm, df⟩ := a
      simp only [] at hdef hsize f1 f2 f5 f6 f8 f10
      obtain ⟨xq, hxq, hlit⟩ := Facts.lits tm hsize Facts.idx198 Facts.idx198_eq
      rw [hxq] at f1 f2 f5 f6 f8 f10
      simp only [Facts.idx198, List.map_cons, List.map_nil, f1, f2, f5, f6, f8, f10] at hlit
      clear f1 f2 f5 f6 f8 f10 hsize hnew hold hxq
      subst hlit
      subst hdef
      try simp only []
      have HW := Lib.hid (HW.out.next (below_of hR'))
      clear hR'
      go_upto_region 8 with fail
      refine Facts.wp_region_inv (fun _ _ W => Below w7.heap.size w7 W) (RB w7.heap.size) (n := 198) (by kernel_rfl) (by kernel_rfl) rfl (fun a => RB.refl _ a) [Facts.PredR.is (.pointer (some ⟨p, 0, none⟩)), Facts.PredR.is (.pointer (some ⟨p, 0, none⟩)), Facts.PredR.is (.pointer (some ⟨p, 3, none⟩)), Facts.PredR.is (.pointer (some ⟨tb, 0, none⟩)), Facts.PredR.is (.pointer (some ⟨p, 0, none⟩)), Facts.PredR.is (.pointer (some ⟨p, 0, none⟩)), Facts.PredR.is (.pointer (some ⟨p, 2, none⟩)), Facts.PredR.is (.pointer (some ⟨mb, 0, none⟩)), Facts.PredR.is (.tuple #[.agg lzero, .int .i64 2]), Facts.PredR.is (.tuple #[.agg lzero, .int .i64 2]), Facts.PredR.is (.agg lzero), Facts.PredR.is (.int .i64 2), PLb (w7.heap.size), Facts.PredR.any, Facts.PredR.is (.int .i64 2)] ?_ ?_ ?_
      · exact (Below.refl _ _).drew
      · refine ⟨?_, ?_, ?_, ?_, ?_, ?_, ?_, ?_, ?_, ?_, ?_, ?_, ?_, ?_, ?_, trivial⟩
        · refine Facts.stepI_is (.pointer (some ⟨p, 0, none⟩)) (fun a => RB.refl _ a) fun s a W hsz hsj hwt hI hold hnew => ?_
          have f6 : a.tmps.getD 6 undef = .pointer (some ⟨p, 0, none⟩) := hold 6 (by kernel_rfl)
          refine ⟨Facts.wanted_free rfl, ?_, by simpa using hI, fun _ => rfl⟩
          simp [go_sem, Act.eval, f6]
        · refine Facts.stepI_is (.pointer (some ⟨p, 0, none⟩)) (fun a => RB.refl _ a) fun s a W hsz hsj hwt hI hold hnew => ?_
          have f77 : a.tmps.getD 77 undef = .pointer (some ⟨p, 0, none⟩) := hnew 0 77 (by kernel_rfl)
          refine ⟨Facts.wanted_free rfl, ?_, by simpa using hI, fun _ => rfl⟩
          simp [go_sem, Act.eval, f77]
        · refine Facts.stepI_is (.pointer (some ⟨p, 3, none⟩)) (fun a => RB.refl _ a) fun s a W hsz hsj hwt hI hold hnew => ?_
          have f78 : a.tmps.getD 78 undef = .pointer (some ⟨p, 0, none⟩) := hnew 1 78 (by kernel_rfl)
          refine ⟨Facts.wanted_free rfl, ?_, by simpa using hI, fun _ => rfl⟩
          simp [go_sem, Act.eval, f78]
        · refine Facts.stepI_is (.pointer (some ⟨tb, 0, none⟩)) (fun a => RB.refl _ a) fun s a W hsz hsj hwt hI hold hnew => ?_
          have f79 : a.tmps.getD 79 undef = .pointer (some ⟨p, 3, none⟩) := hnew 2 79 (by kernel_rfl)
          obtain ⟨k0, k1, k2, k3⟩ := side_cells (HW.out.next hI).row
          refine ⟨Facts.wanted_free rfl, ?_, by simpa using hI, fun _ => rfl⟩
          simp [go_sem, Act.eval, f79, k3, ptrV]
        · refine Facts.stepI_is (.pointer (some ⟨p, 0, none⟩)) (fun a => RB.refl _ a) fun s a W hsz hsj hwt hI hold hnew => ?_
          have f6 : a.tmps.getD 6 undef = .pointer (some ⟨p, 0, none⟩) := hold 6 (by kernel_rfl)
          refine ⟨Facts.wanted_free rfl, ?_, by simpa using hI, fun _ => rfl⟩
          simp [go_sem, Act.eval, f6]
        · refine Facts.stepI_is (.pointer (some ⟨p, 0, none⟩)) (fun a => RB.refl _ a) fun s a W hsz hsj hwt hI hold hnew => ?_
          have f81 : a.tmps.getD 81 undef = .pointer (some ⟨p, 0, none⟩) := hnew 4 81 (by kernel_rfl)
          refine ⟨Facts.wanted_free rfl, ?_, by simpa using hI, fun _ => rfl⟩
          simp [go_sem, Act.eval, f81]
        · refine Facts.stepI_is (.pointer (some ⟨p, 2, none⟩)) (fun a => RB.refl _ a) fun s a W hsz hsj hwt hI hold hnew => ?_
          have f82 : a.tmps.getD 82 undef = .pointer (some ⟨p, 0, none⟩) := hnew 5 82 (by kernel_rfl)
          refine ⟨Facts.wanted_free rfl, ?_, by simpa using hI, fun _ => rfl⟩
          simp [go_sem, Act.eval, f82]
        · refine Facts.stepI_is (.pointer (some ⟨mb, 0, none⟩)) (fun a => RB.refl _ a) fun s a W hsz hsj hwt hI hold hnew => ?_
          have f83 : a.tmps.getD 83 undef = .pointer (some ⟨p, 2, none⟩) := hnew 6 83 (by kernel_rfl)
          obtain ⟨k0, k1, k2, k3⟩ := side_cells (HW.out.next hI).row
          refine ⟨Facts.wanted_free rfl, ?_, by simpa using hI, fun _ => rfl⟩
          simp [go_sem, Act.eval, f83, k2, ptrV]
        · refine Facts.stepI_call fun s a W hsz hsj hwt hI hold hnew => ?_
          have f80 : a.tmps.getD 80 undef = .pointer (some ⟨tb, 0, none⟩) := hnew 3 80 (by kernel_rfl)
          have f84 : a.tmps.getD 84 undef = .pointer (some ⟨mb, 0, none⟩) := hnew 7 84 (by kernel_rfl)
          refine ⟨Facts.wanted_free rfl, 8, #[.pointer (some ⟨tb, 0, none⟩), .pointer none, .pointer (some ⟨mb, 0, none⟩), .int .i64 1], by simp [go_sem, Act.eval, f80, f84], ?_⟩
          refine (begin_nilS tb (.pointer (some ⟨mb, 0, none⟩)) 1 W).mono ?_
          rintro e w8 ⟨rfl, hb8⟩
          exact ⟨_, rfl, hI.trans (hb8.mono hI.size), RB.below hb8, rfl⟩
        · refine Facts.stepI_is (.tuple #[.agg lzero, .int .i64 2]) (fun a => RB.refl _ a) fun s a W hsz hsj hwt hI hold hnew => ?_
          have f85 : a.tmps.getD 85 undef = .tuple #[.agg lzero, .int .i64 2] := hnew 8 85 (by kernel_rfl)
          refine ⟨Facts.wanted_free rfl, ?_, by simpa using hI, fun _ => rfl⟩
          simp [go_sem, Act.eval, f85]
        · refine Facts.stepI_is (.agg lzero) (fun a => RB.refl _ a) fun s a W hsz hsj hwt hI hold hnew => ?_
          have f76 : a.tmps.getD 76 undef = .tuple #[.agg lzero, .int .i64 2] := hnew 9 76 (by kernel_rfl)
          refine ⟨Facts.wanted_free rfl, ?_, by simpa using hI, fun _ => rfl⟩
          simp [go_sem, Act.eval, f76]
        · refine Facts.stepI_is (.int .i64 2) (fun a => RB.refl _ a) fun s a W hsz hsj hwt hI hold hnew => ?_
          have f76 : a.tmps.getD 76 undef = .tuple #[.agg lzero, .int .i64 2] := hnew 9 76 (by kernel_rfl)
          refine ⟨Facts.wanted_free rfl, ?_, by simpa using hI, fun _ => rfl⟩
          simp [go_sem, Act.eval, f76]
        · refine Facts.stepI_new fun s a W hsz hsj hwt hI hold hnew => ?_
          exact ⟨Facts.wanted_free rfl, .pointer (some ⟨W.heap.size, 0, none⟩), W.alloc (.cells lzero 31), by simp [go_sem, Act.eval, lzero], hI.trans (((Below.refl _ _).alloc (Nat.le_refl _) _).mono hI.size), RB.below ((Below.refl _ _).alloc (Nat.le_refl _) _), W.heap.size, lzero, rfl, hI.size, heap_alloc_new W _, rfl⟩
        · refine Facts.stepI_store fun s a W hsz hsj hwt hI hold hnew => ?_
          have h11 : ∃ b Y, a.tmps.getD 11 undef = .pointer (some ⟨b, 0, none⟩) ∧ w7.heap.size ≤ b ∧ W.heap[b]? = some (.cells Y 31 (0, 0)) ∧ Y.size = 14 := hnew 12 11 (by kernel_rfl)
          obtain ⟨bx, Y9, f11, hbx, hxx, hys⟩ := h11
          have f86 : a.tmps.getD 86 undef = .agg lzero := hnew 10 86 (by kernel_rfl)
          exact ⟨Facts.wanted_free rfl, _, Facts.exec_putRow 31 (.tmp 11) (.tmp 86) rfl bx 31 Y9 lzero f11 f86 hxx (by kernel_rfl) (by rw [hys]; rfl) (by simp [lzero, Value.oneCell']), Below.beside hI (setRow_beside W bx _) hI.size (by simp; exact hbx), RB.stored hxx (by rw [hys]; rfl), trivial⟩
        · refine Facts.stepI_is (.int .i64 2) (fun a => RB.refl _ a) fun s a W hsz hsj hwt hI hold hnew => ?_
          have f87 : a.tmps.getD 87 undef = .int .i64 2 := hnew 11 87 (by kernel_rfl)
          refine ⟨Facts.wanted_free rfl, ?_, by simpa using hI, fun _ => rfl⟩
          simp [go_sem, Act.eval, f87]
      · intro a w8 hI hsize hdef hnew hold
        have f12 : a.tmps.getD 12 undef = .int .i64 2 := hnew 14 12 (by kernel_rfl)
        have f1 : a.tmps.getD 1 undef = Value.int .i64 to := hold 1 (Facts.not_dst (by kernel_rfl))
        have f2 : a.tmps.getD 2 undef = Value.pointer (some ⟨b2, 0, none⟩) := hold 2 (Facts.not_dst (by kernel_rfl))
        have f5 : a.tmps.getD 5 undef = Value.pointer none := hold 5 (Facts.not_dst (by kernel_rfl))
        have f6 : a.tmps.getD 6 undef = Value.pointer (some ⟨p, 0, none⟩) := hold 6 (Facts.not_dst (by kernel_rfl))
        have f8 : a.tmps.getD 8 undef = Value.int .i64 2 := hold 8 (Facts.not_dst (by kernel_rfl))
        have f10 : a.tmps.getD 10 undef = Value.int .i64 2 := hold 10 (Facts.not_dst (by kernel_rfl))
        obtain ⟨tm, df⟩ := a
        simp only [] at hdef hsize f1 f2 f5 f6 f8 f10 f12
        obtain ⟨xq, hxq, hlit⟩ := Facts.lits tm hsize Facts.idx198 Facts.idx198_eq
        rw [hxq] at f1 f2 f5 f6 f8 f10 f12
        simp only [Facts.idx198, List.map_cons, List.map_nil, f1, f2, f5, f6, f8, f10, f12] at hlit
        clear f1 f2 f5 f6 f8 f10 f12 hsize hnew hold hxq
        subst hlit
        subst hdef
        try simp only []
        have HW := Lib.hid (HW.out.next hI)
        clear hI
        go_upto_region 9 with fail
        refine Facts.wp_region_preds (n := 198) (by kernel_rfl) (by kernel_rfl) rfl [Facts.Pred.is (.pointer (some ⟨p, 0, none⟩)), Facts.Pred.is (.pointer (some ⟨p, 0, none⟩)), Facts.Pred.is (.pointer (some ⟨p, 3, none⟩)), Facts.Pred.is (.pointer (some ⟨tb, 0, none⟩)), Facts.Pred.is (.pointer (some ⟨p, 0, none⟩)), Facts.Pred.is (.pointer (some ⟨p, 0, none⟩)), Facts.Pred.is (.pointer (some ⟨p, 2, none⟩)), Facts.Pred.is (.pointer (some ⟨mb, 0, none⟩)), Facts.Pred.is (.agg X), Facts.Pred.is (.tuple #[.slice none 0 0, .int .i64 2]), Facts.Pred.is (.tuple #[.slice none 0 0, .int .i64 2]), Facts.Pred.is (.slice none 0 0), Facts.Pred.is (.int .i64 2), Facts.Pred.is (.slice none 0 0), Facts.Pred.is (.int .i64 2)] ?_ ?_
        · refine ⟨?_, ?_, ?_, ?_, ?_, ?_, ?_, ?_, ?_, ?_, ?_, ?_, ?_, ?_, ?_, trivial⟩
          · refine Facts.step_is (.pointer (some ⟨p, 0, none⟩)) fun a W hR hold hnew => ?_
            have f6 : a.tmps.getD 6 undef = .pointer (some ⟨p, 0, none⟩) := hold 6 (by kernel_rfl)
            refine ⟨Facts.wanted_free rfl, ?_, fun _ => rfl⟩; simp [go_sem, Act.eval, f6]
          · refine Facts.step_is (.pointer (some ⟨p, 0, none⟩)) fun a W hR hold hnew => ?_
            have f89 : a.tmps.getD 89 undef = .pointer (some ⟨p, 0, none⟩) := hnew 0 89 (by kernel_rfl)
            refine ⟨Facts.wanted_free rfl, ?_, fun _ => rfl⟩; simp [go_sem, Act.eval, f89]
          · refine Facts.step_is (.pointer (some ⟨p, 3, none⟩)) fun a W hR hold hnew => ?_
            have f90 : a.tmps.getD 90 undef = .pointer (some ⟨p, 0, none⟩) := hnew 1 90 (by kernel_rfl)
            refine ⟨Facts.wanted_free rfl, ?_, fun _ => rfl⟩; simp [go_sem, Act.eval, f90]
          · refine Facts.step_is (.pointer (some ⟨tb, 0, none⟩)) fun a W hR hold hnew => ?_
            have f91 : a.tmps.getD 91 undef = .pointer (some ⟨p, 3, none⟩) := hnew 2 91 (by kernel_rfl)
            obtain ⟨k0, k1, k2, k3⟩ := side_cells (HW.out.next (below_of hR)).row
            refine ⟨Facts.wanted_free rfl, ?_, fun _ => rfl⟩; simp [go_sem, Act.eval, f91, k3, ptrV]
          · refine Facts.step_is (.pointer (some ⟨p, 0, none⟩)) fun a W hR hold hnew => ?_
            have f6 : a.tmps.getD 6 undef = .pointer (some ⟨p, 0, none⟩) := hold 6 (by kernel_rfl)
            refine ⟨Facts.wanted_free rfl, ?_, fun _ => rfl⟩; simp [go_sem, Act.eval, f6]
          · refine Facts.step_is (.pointer (some ⟨p, 0, none⟩)) fun a W hR hold hnew => ?_
            have f93 : a.tmps.getD 93 undef = .pointer (some ⟨p, 0, none⟩) := hnew 4 93 (by kernel_rfl)
            refine ⟨Facts.wanted_free rfl, ?_, fun _ => rfl⟩; simp [go_sem, Act.eval, f93]
          · refine Facts.step_is (.pointer (some ⟨p, 2, none⟩)) fun a W hR hold hnew => ?_
            have f94 : a.tmps.getD 94 undef = .pointer (some ⟨p, 0, none⟩) := hnew 5 94 (by kernel_rfl)
            refine ⟨Facts.wanted_free rfl, ?_, fun _ => rfl⟩; simp [go_sem, Act.eval, f94]
          · refine Facts.step_is (.pointer (some ⟨mb, 0, none⟩)) fun a W hR hold hnew => ?_
            have f95 : a.tmps.getD 95 undef = .pointer (some ⟨p, 2, none⟩) := hnew 6 95 (by kernel_rfl)
            obtain ⟨k0, k1, k2, k3⟩ := side_cells (HW.out.next (below_of hR)).row
            refine ⟨Facts.wanted_free rfl, ?_, fun _ => rfl⟩; simp [go_sem, Act.eval, f95, k2, ptrV]
          · refine Facts.step_is (.agg X) fun a W hR hold hnew => ?_
            have f2 : a.tmps.getD 2 undef = .pointer (some ⟨b2, 0, none⟩) := hold 2 (by kernel_rfl)
            have hx := (HW.out.next (below_of hR)).keep HX1.out
            refine ⟨Facts.wanted_free rfl, ?_, fun _ => rfl⟩
            exact Facts.exec_getRow 31 (.tmp 2) rfl b2 31 X (0, 0) _ f2 hx Tryz.underlying31 rfl hXi
          · refine Facts.step_call fun a W hR hold hnew => ?_
            have f92 : a.tmps.getD 92 undef = .pointer (some ⟨tb, 0, none⟩) := hnew 3 92 (by kernel_rfl)
            have f96 : a.tmps.getD 96 undef = .pointer (some ⟨mb, 0, none⟩) := hnew 7 96 (by kernel_rfl)
            have f97 : a.tmps.getD 97 undef = .agg X := hnew 8 97 (by kernel_rfl)
            refine ⟨Facts.wanted_free rfl, 9, #[.pointer (some ⟨tb, 0, none⟩), .pointer none, .pointer (some ⟨mb, 0, none⟩), .agg X], by simp [go_sem, Act.eval, f92, f96, f97], ?_⟩
            refine (hear_nilS tb (.pointer (some ⟨mb, 0, none⟩)) X W hX1 hX2).mono ?_
            rintro e w8 ⟨rfl, hb8⟩
            exact ⟨_, rfl, hb8, rfl⟩
          · refine Facts.step_is (.tuple #[.slice none 0 0, .int .i64 2]) fun a W hR hold hnew => ?_
            have f98 : a.tmps.getD 98 undef = .tuple #[.slice none 0 0, .int .i64 2] := hnew 9 98 (by kernel_rfl)
            refine ⟨Facts.wanted_free rfl, ?_, fun _ => rfl⟩; simp [go_sem, Act.eval, f98]
          · refine Facts.step_is (.slice none 0 0) fun a W hR hold hnew => ?_
            have f88 : a.tmps.getD 88 undef = .tuple #[.slice none 0 0, .int .i64 2] := hnew 10 88 (by kernel_rfl)
            refine ⟨Facts.wanted_free rfl, ?_, fun _ => rfl⟩; simp [go_sem, Act.eval, f88]
          · refine Facts.step_is (.int .i64 2) fun a W hR hold hnew => ?_
            have f88 : a.tmps.getD 88 undef = .tuple #[.slice none 0 0, .int .i64 2] := hnew 10 88 (by kernel_rfl)
            refine ⟨Facts.wanted_free rfl, ?_, fun _ => rfl⟩; simp [go_sem, Act.eval, f88]
          · refine Facts.step_is (.slice none 0 0) fun a W hR hold hnew => ?_
            have f99 : a.tmps.getD 99 undef = .slice none 0 0 := hnew 11 99 (by kernel_rfl)
            refine ⟨Facts.wanted_free rfl, ?_, fun _ => rfl⟩; simp [go_sem, Act.eval, f99]
          · refine Facts.step_is (.int .i64 2) fun a W hR hold hnew => ?_
            have f100 : a.tmps.getD 100 undef = .int .i64 2 := hnew 12 100 (by kernel_rfl)
            refine ⟨Facts.wanted_free rfl, ?_, fun _ => rfl⟩; simp [go_sem, Act.eval, f100]
        · intro a w9 hR' hsize hdef hnew hold
          have f14 : a.tmps.getD 14 undef = .int .i64 2 := hnew 14 14 (by kernel_rfl)
          have f1 : a.tmps.getD 1 undef = Value.int .i64 to := hold 1 (Facts.not_dst (by kernel_rfl))
          have f2 : a.tmps.getD 2 undef = Value.pointer (some ⟨b2, 0, none⟩) := hold 2 (Facts.not_dst (by kernel_rfl))
          have f5 : a.tmps.getD 5 undef = Value.pointer none := hold 5 (Facts.not_dst (by kernel_rfl))
          have f6 : a.tmps.getD 6 undef = Value.pointer (some ⟨p, 0, none⟩) := hold 6 (Facts.not_dst (by kernel_rfl))
          have f8 : a.tmps.getD 8 undef = Value.int .i64 2 := hold 8 (Facts.not_dst (by kernel_rfl))
          have f10 : a.tmps.getD 10 undef = Value.int .i64 2 := hold 10 (Facts.not_dst (by kernel_rfl))
          have f12 : a.tmps.getD 12 undef = Value.int .i64 2 := hold 12 (Facts.not_dst (by kernel_rfl))
          obtain ⟨tm, df⟩ := a
          simp only [] at hdef hsize f1 f2 f5 f6 f8 f10 f12 f14
          obtain ⟨xq, hxq, hlit⟩ := Facts.lits tm hsize Facts.idx198 Facts.idx198_eq
          rw [hxq] at f1 f2 f5 f6 f8 f10 f12 f14
          simp only [Facts.idx198, List.map_cons, List.map_nil, f1, f2, f5, f6, f8, f10, f12, f14] at hlit
          clear f1 f2 f5 f6 f8 f10 f12 f14 hsize hnew hold hxq
          subst hlit
          subst hdef
          try simp only []
          have HW := Lib.hid (HW.out.next (below_of hR'))
          clear hR'
          go_upto_region 10 with fail
          have HP := Lib.hid (show mb < w9.heap.size ∧ tb < w9.heap.size from ⟨HW.out.mlt, HW.out.tk.lt⟩)
          have HL := Lib.hid (show p < w9.heap.size from (Array.getElem?_eq_some_iff.1 HW.out.row).1)
          refine Facts.wp_region_inv (fun s _ W => J10 w9 w1 p d g mb tb st (s 13) W) (RB w9.heap.size) (n := 198) (by kernel_rfl) (by kernel_rfl) rfl (fun a => RB.refl _ a) [Facts.PredR.is (.pointer (some ⟨p, 0, none⟩)), Facts.PredR.is (.pointer (some ⟨p, 0, none⟩)), Facts.PredR.is (.pointer (some ⟨p, 3, none⟩)), Facts.PredR.is (.pointer (some ⟨tb, 0, none⟩)), Facts.PredR.is (.pointer (some ⟨p, 0, none⟩)), Facts.PredR.is (.pointer (some ⟨p, 0, none⟩)), Facts.PredR.is (.pointer (some ⟨p, 1, none⟩)), Facts.PredR.is (.pointer (some ⟨g, 0, none⟩)), Facts.PredR.is (.pointer (some ⟨p, 0, none⟩)), Facts.PredR.is (.pointer (some ⟨p, 0, none⟩)), Facts.PredR.is (.pointer (some ⟨p, 2, none⟩)), Facts.PredR.is (.pointer (some ⟨mb, 0, none⟩)), Facts.PredR.is (.int .i64 to), PTg E, PTg E, PTb, Facts.PredR.is (.int .i64 E), PLb (w9.heap.size), Facts.PredR.any, Facts.PredR.is (.int .i64 E)] ?_ ?_ ?_
          · exact J10.start HW.out
          · refine ⟨?_, ?_, ?_, ?_, ?_, ?_, ?_, ?_, ?_, ?_, ?_, ?_, ?_, ?_, ?_, ?_, ?_, ?_, ?_, ?_, trivial⟩
            · refine Facts.stepI_is (.pointer (some ⟨p, 0, none⟩)) (fun a => RB.refl _ a) fun s a W hsz hsj hwt hI hold hnew => ?_
              have f6 : a.tmps.getD 6 undef = .pointer (some ⟨p, 0, none⟩) := hold 6 (by kernel_rfl)
              refine ⟨Facts.wanted_free rfl, ?_, by simpa using hI, fun _ => rfl⟩
              simp [go_sem, Act.eval, f6]
            · refine Facts.stepI_is (.pointer (some ⟨p, 0, none⟩)) (fun a => RB.refl _ a) fun s a W hsz hsj hwt hI hold hnew => ?_
              have f102 : a.tmps.getD 102 undef = .pointer (some ⟨p, 0, none⟩) := hnew 0 102 (by kernel_rfl)
              refine ⟨Facts.wanted_free rfl, ?_, by simpa using hI, fun _ => rfl⟩
              simp [go_sem, Act.eval, f102]
            · refine Facts.stepI_is (.pointer (some ⟨p, 3, none⟩)) (fun a => RB.refl _ a) fun s a W hsz hsj hwt hI hold hnew => ?_
              have f103 : a.tmps.getD 103 undef = .pointer (some ⟨p, 0, none⟩) := hnew 1 103 (by kernel_rfl)
              refine ⟨Facts.wanted_free rfl, ?_, by simpa using hI, fun _ => rfl⟩
              simp [go_sem, Act.eval, f103]
            · refine Facts.stepI_is (.pointer (some ⟨tb, 0, none⟩)) (fun a => RB.refl _ a) fun s a W hsz hsj hwt hI hold hnew => ?_
              have f104 : a.tmps.getD 104 undef = .pointer (some ⟨p, 3, none⟩) := hnew 2 104 (by kernel_rfl)
              obtain ⟨k0, k1, k2, k3⟩ := side_cells hI.row
              refine ⟨Facts.wanted_free rfl, ?_, by simpa using hI, fun _ => rfl⟩
              simp [go_sem, Act.eval, f104, k3, ptrV]
            · refine Facts.stepI_is (.pointer (some ⟨p, 0, none⟩)) (fun a => RB.refl _ a) fun s a W hsz hsj hwt hI hold hnew => ?_
              have f6 : a.tmps.getD 6 undef = .pointer (some ⟨p, 0, none⟩) := hold 6 (by kernel_rfl)
              refine ⟨Facts.wanted_free rfl, ?_, by simpa using hI, fun _ => rfl⟩
              simp [go_sem, Act.eval, f6]
            · refine Facts.stepI_is (.pointer (some ⟨p, 0, none⟩)) (fun a => RB.refl _ a) fun s a W hsz hsj hwt hI hold hnew => ?_
              have f106 : a.tmps.getD 106 undef = .pointer (some ⟨p, 0, none⟩) := hnew 4 106 (by kernel_rfl)
              refine ⟨Facts.wanted_free rfl, ?_, by simpa using hI, fun _ => rfl⟩
              simp [go_sem, Act.eval, f106]
            · refine Facts.stepI_is (.pointer (some ⟨p, 1, none⟩)) (fun a => RB.refl _ a) fun s a W hsz hsj hwt hI hold hnew => ?_
              have f107 : a.tmps.getD 107 undef = .pointer (some ⟨p, 0, none⟩) := hnew 5 107 (by kernel_rfl)
              refine ⟨Facts.wanted_free rfl, ?_, by simpa using hI, fun _ => rfl⟩
              simp [go_sem, Act.eval, f107]
            · refine Facts.stepI_is (.pointer (some ⟨g, 0, none⟩)) (fun a => RB.refl _ a) fun s a W hsz hsj hwt hI hold hnew => ?_
              have f108 : a.tmps.getD 108 undef = .pointer (some ⟨p, 1, none⟩) := hnew 6 108 (by kernel_rfl)
              obtain ⟨k0, k1, k2, k3⟩ := side_cells hI.row
              refine ⟨Facts.wanted_free rfl, ?_, by simpa using hI, fun _ => rfl⟩
              simp [go_sem, Act.eval, f108, k1, ptrV]
            · refine Facts.stepI_is (.pointer (some ⟨p, 0, none⟩)) (fun a => RB.refl _ a) fun s a W hsz hsj hwt hI hold hnew => ?_
              have f6 : a.tmps.getD 6 undef = .pointer (some ⟨p, 0, none⟩) := hold 6 (by kernel_rfl)
              refine ⟨Facts.wanted_free rfl, ?_, by simpa using hI, fun _ => rfl⟩
              simp [go_sem, Act.eval, f6]
            · refine Facts.stepI_is (.pointer (some ⟨p, 0, none⟩)) (fun a => RB.refl _ a) fun s a W hsz hsj hwt hI hold hnew => ?_
              have f110 : a.tmps.getD 110 undef = .pointer (some ⟨p, 0, none⟩) := hnew 8 110 (by kernel_rfl)
              refine ⟨Facts.wanted_free rfl, ?_, by simpa using hI, fun _ => rfl⟩
              simp [go_sem, Act.eval, f110]
            · refine Facts.stepI_is (.pointer (some ⟨p, 2, none⟩)) (fun a => RB.refl _ a) fun s a W hsz hsj hwt hI hold hnew => ?_
              have f111 : a.tmps.getD 111 undef = .pointer (some ⟨p, 0, none⟩) := hnew 9 111 (by kernel_rfl)
              refine ⟨Facts.wanted_free rfl, ?_, by simpa using hI, fun _ => rfl⟩
              simp [go_sem, Act.eval, f111]
            · refine Facts.stepI_is (.pointer (some ⟨mb, 0, none⟩)) (fun a => RB.refl _ a) fun s a W hsz hsj hwt hI hold hnew => ?_
              have f112 : a.tmps.getD 112 undef = .pointer (some ⟨p, 2, none⟩) := hnew 10 112 (by kernel_rfl)
              obtain ⟨k0, k1, k2, k3⟩ := side_cells hI.row
              refine ⟨Facts.wanted_free rfl, ?_, by simpa using hI, fun _ => rfl⟩
              simp [go_sem, Act.eval, f112, k2, ptrV]
            · refine Facts.stepI_is (.int .i64 to) (fun a => RB.refl _ a) fun s a W hsz hsj hwt hI hold hnew => ?_
              have f1 : a.tmps.getD 1 undef = .int .i64 to := hold 1 (by kernel_rfl)
              refine ⟨Facts.wanted_free rfl, ?_, by simpa using hI, fun _ => rfl⟩
              simp [go_sem, Act.eval, f1]
            · refine Facts.stepI_call fun s a W hsz hsj hwt hI hold hnew => ?_
              have f105 : a.tmps.getD 105 undef = .pointer (some ⟨tb, 0, none⟩) := hnew 3 105 (by kernel_rfl)
              have f109 : a.tmps.getD 109 undef = .pointer (some ⟨g, 0, none⟩) := hnew 7 109 (by kernel_rfl)
              have f113 : a.tmps.getD 113 undef = .pointer (some ⟨mb, 0, none⟩) := hnew 11 113 (by kernel_rfl)
              have f114 : a.tmps.getD 114 undef = .int .i64 to := hnew 12 114 (by kernel_rfl)
              simp only [hsj] at hI
              have BG := (hI.w rfl).begins to
              rw [HE.out] at BG
              refine ⟨Facts.wanted_free rfl, 8, #[.pointer (some ⟨tb, 0, none⟩), .pointer (some ⟨g, 0, none⟩), .pointer (some ⟨mb, 0, none⟩), .int .i64 to], by simp [go_sem, Act.eval, f105, f109, f113, f114], ?_⟩
              refine (BG).mono ?_
              rintro e w8 ⟨X9, rfl, hX9, ⟨sr, hw8⟩, hbe8⟩
              exact ⟨_, rfl, by simpa using (⟨hI.be.trans hbe8 (fun k hk => .inl hk), hw8.row, (fun h => by cases h), fun _ => ⟨sr, hw8⟩⟩ : J10 w9 w1 p d g mb tb st true w8), RB.beside hbe8 (by have := HP.out; simp; omega), X9, rfl, hX9⟩
            · refine Facts.stepI_new fun s a W hsz hsj hwt hI hold hnew => ?_
              have h115 : ∃ X : Array Value, a.tmps.getD 115 undef = .tuple #[.agg X, .int .i64 E] ∧ X.size = 14 ∧ X.all (·.oneCell') = true := hnew 13 115 (by kernel_rfl)
              obtain ⟨X9, f115, hX9⟩ := h115
              exact ⟨Facts.wanted_free rfl, .tuple #[.agg X9, .int .i64 E], W, by simp [go_sem, Act.eval, f115], by simpa using hI, (fun a => RB.refl _ a) W, ⟨X9, rfl, hX9⟩⟩
            · refine Facts.stepI_new fun s a W hsz hsj hwt hI hold hnew => ?_
              have h101 : ∃ X : Array Value, a.tmps.getD 101 undef = .tuple #[.agg X, .int .i64 E] ∧ X.size = 14 ∧ X.all (·.oneCell') = true := hnew 14 101 (by kernel_rfl)
              obtain ⟨X9, f101, hX9⟩ := h101
              exact ⟨Facts.wanted_free rfl, .agg X9, W, by simp [go_sem, Act.eval, f101], by simpa using hI, (fun a => RB.refl _ a) W, ⟨X9, rfl, hX9⟩⟩
            · refine Facts.stepI_is (.int .i64 E) (fun a => RB.refl _ a) fun s a W hsz hsj hwt hI hold hnew => ?_
              have h101 : ∃ X : Array Value, a.tmps.getD 101 undef = .tuple #[.agg X, .int .i64 E] ∧ X.size = 14 ∧ X.all (·.oneCell') = true := hnew 14 101 (by kernel_rfl)
              obtain ⟨X9, f101, hX9⟩ := h101
              refine ⟨Facts.wanted_free rfl, ?_, by simpa using hI, fun _ => rfl⟩
              simp [go_sem, Act.eval, f101]
            · refine Facts.stepI_new fun s a W hsz hsj hwt hI hold hnew => ?_
              exact ⟨Facts.wanted_free rfl, .pointer (some ⟨W.heap.size, 0, none⟩), W.alloc (.cells lzero 31), by simp [go_sem, Act.eval, lzero], by simpa using hI.alloc (.cells lzero 31), RB.below ((Below.refl _ _).alloc (Nat.le_refl _) _), W.heap.size, lzero, rfl, hI.be.size, heap_alloc_new W _, rfl⟩
            · refine Facts.stepI_store fun s a W hsz hsj hwt hI hold hnew => ?_
              have h15 : ∃ b Y, a.tmps.getD 15 undef = .pointer (some ⟨b, 0, none⟩) ∧ w9.heap.size ≤ b ∧ W.heap[b]? = some (.cells Y 31 (0, 0)) ∧ Y.size = 14 := hnew 17 15 (by kernel_rfl)
              obtain ⟨bx, Y9, f15, hbx, hxx, hys⟩ := h15
              have h116 : ∃ X : Array Value, a.tmps.getD 116 undef = .agg X ∧ X.size = 14 ∧ X.all (·.oneCell') = true := hnew 15 116 (by kernel_rfl)
              obtain ⟨X9, f116, hX9⟩ := h116
              exact ⟨Facts.wanted_free rfl, _, Facts.exec_putRow 31 (.tmp 15) (.tmp 116) rfl bx 31 Y9 X9 f15 f116 hxx (by rw [hX9.1]; kernel_rfl) (by rw [hys, hX9.1]) hX9.2, by simpa using hI.stored HW.out hbx, RB.stored hxx (by rw [hys, hX9.1]), trivial⟩
            · refine Facts.stepI_is (.int .i64 E) (fun a => RB.refl _ a) fun s a W hsz hsj hwt hI hold hnew => ?_
              have f117 : a.tmps.getD 117 undef = .int .i64 E := hnew 16 117 (by kernel_rfl)
              refine ⟨Facts.wanted_free rfl, ?_, by simpa using hI, fun _ => rfl⟩
              simp [go_sem, Act.eval, f117]
          · intro a w10 hI hsize hdef hnew hold
            have f16 : a.tmps.getD 16 undef = .int .i64 E := hnew 19 16 (by kernel_rfl)
            have f1 : a.tmps.getD 1 undef = Value.int .i64 to := hold 1 (Facts.not_dst (by kernel_rfl))
            have f2 : a.tmps.getD 2 undef = Value.pointer (some ⟨b2, 0, none⟩) := hold 2 (Facts.not_dst (by kernel_rfl))
            have f5 : a.tmps.getD 5 undef = Value.pointer none := hold 5 (Facts.not_dst (by kernel_rfl))
            have f6 : a.tmps.getD 6 undef = Value.pointer (some ⟨p, 0, none⟩) := hold 6 (Facts.not_dst (by kernel_rfl))
            have f8 : a.tmps.getD 8 undef = Value.int .i64 2 := hold 8 (Facts.not_dst (by kernel_rfl))
            have f10 : a.tmps.getD 10 undef = Value.int .i64 2 := hold 10 (Facts.not_dst (by kernel_rfl))
            have f12 : a.tmps.getD 12 undef = Value.int .i64 2 := hold 12 (Facts.not_dst (by kernel_rfl))
            have f14 : a.tmps.getD 14 undef = Value.int .i64 2 := hold 14 (Facts.not_dst (by kernel_rfl))
            obtain ⟨tm, df⟩ := a
            simp only [] at hdef hsize f1 f2 f5 f6 f8 f10 f12 f14 f16
            obtain ⟨xq, hxq, hlit⟩ := Facts.lits tm hsize Facts.idx198 Facts.idx198_eq
            rw [hxq] at f1 f2 f5 f6 f8 f10 f12 f14 f16
            simp only [Facts.idx198, List.map_cons, List.map_nil, f1, f2, f5, f6, f8, f10, f12, f14, f16] at hlit
            clear f1 f2 f5 f6 f8 f10 f12 f14 f16 hsize hnew hold hxq
            subst hlit
            subst hdef
            try simp only []
            obtain ⟨sr, hw9⟩ := hI.t (by decide)
            have HW := Lib.hid hw9
            clear hI hw9
            go_upto_region 11 with fail
            refine Facts.wp_region_inv (fun _ _ W => Below w10.heap.size w10 W) (RB w10.heap.size) (n := 198) (by kernel_rfl) (by kernel_rfl) rfl (fun a => RB.refl _ a) [PTkN (w10.heap.size), Facts.PredR.is (.pointer (some ⟨p, 0, none⟩)), Facts.PredR.is (.pointer (some ⟨p, 0, none⟩)), Facts.PredR.is (.pointer (some ⟨p, 1, none⟩)), Facts.PredR.is (.pointer (some ⟨g, 0, none⟩)), Facts.PredR.is (.pointer (some ⟨p, 0, none⟩)), Facts.PredR.is (.pointer (some ⟨p, 0, none⟩)), Facts.PredR.is (.pointer (some ⟨p, 2, none⟩)), Facts.PredR.is (.pointer (some ⟨mb, 0, none⟩)), Facts.PredR.is (.tuple #[.agg lzero, .int .i64 8]), Facts.PredR.is (.tuple #[.agg lzero, .int .i64 8]), Facts.PredR.is (.agg lzero), Facts.PredR.is (.int .i64 8), PLb (w10.heap.size), Facts.PredR.any, Facts.PredR.is (.int .i64 8)] ?_ ?_ ?_
            · exact (Below.refl _ _).drew
            · refine ⟨?_, ?_, ?_, ?_, ?_, ?_, ?_, ?_, ?_, ?_, ?_, ?_, ?_, ?_, ?_, ?_, trivial⟩
              · refine Facts.stepI_call fun s a W hsz hsj hwt hI hold hnew => ?_
                refine ⟨Facts.wanted_free rfl, 10, #[.int .u64 9223372036854775807, .int .i64 1, .int .i64 1], by simp [go_sem, Act.eval], ?_⟩
                refine (newT_t 9223372036854775807 1 1 W).mono ?_
                rintro e w8 ⟨rfl, ht8, hb8⟩
                exact ⟨_, rfl, hI.trans (hb8.mono hI.size), RB.below hb8, _, rfl, hI.size, ht8⟩
              · refine Facts.stepI_is (.pointer (some ⟨p, 0, none⟩)) (fun a => RB.refl _ a) fun s a W hsz hsj hwt hI hold hnew => ?_
                have f6 : a.tmps.getD 6 undef = .pointer (some ⟨p, 0, none⟩) := hold 6 (by kernel_rfl)
                refine ⟨Facts.wanted_free rfl, ?_, by simpa using hI, fun _ => rfl⟩
                simp [go_sem, Act.eval, f6]
              · refine Facts.stepI_is (.pointer (some ⟨p, 0, none⟩)) (fun a => RB.refl _ a) fun s a W hsz hsj hwt hI hold hnew => ?_
                have f120 : a.tmps.getD 120 undef = .pointer (some ⟨p, 0, none⟩) := hnew 1 120 (by kernel_rfl)
                refine ⟨Facts.wanted_free rfl, ?_, by simpa using hI, fun _ => rfl⟩
                simp [go_sem, Act.eval, f120]
              · refine Facts.stepI_is (.pointer (some ⟨p, 1, none⟩)) (fun a => RB.refl _ a) fun s a W hsz hsj hwt hI hold hnew => ?_
                have f121 : a.tmps.getD 121 undef = .pointer (some ⟨p, 0, none⟩) := hnew 2 121 (by kernel_rfl)
                refine ⟨Facts.wanted_free rfl, ?_, by simpa using hI, fun _ => rfl⟩
                simp [go_sem, Act.eval, f121]
              · refine Facts.stepI_is (.pointer (some ⟨g, 0, none⟩)) (fun a => RB.refl _ a) fun s a W hsz hsj hwt hI hold hnew => ?_
                have f122 : a.tmps.getD 122 undef = .pointer (some ⟨p, 1, none⟩) := hnew 3 122 (by kernel_rfl)
                obtain ⟨k0, k1, k2, k3⟩ := side_cells (HW.out.next hI).row
                refine ⟨Facts.wanted_free rfl, ?_, by simpa using hI, fun _ => rfl⟩
                simp [go_sem, Act.eval, f122, k1, ptrV]
              · refine Facts.stepI_is (.pointer (some ⟨p, 0, none⟩)) (fun a => RB.refl _ a) fun s a W hsz hsj hwt hI hold hnew => ?_
                have f6 : a.tmps.getD 6 undef = .pointer (some ⟨p, 0, none⟩) := hold 6 (by kernel_rfl)
                refine ⟨Facts.wanted_free rfl, ?_, by simpa using hI, fun _ => rfl⟩
                simp [go_sem, Act.eval, f6]
              · refine Facts.stepI_is (.pointer (some ⟨p, 0, none⟩)) (fun a => RB.refl _ a) fun s a W hsz hsj hwt hI hold hnew => ?_
                have f124 : a.tmps.getD 124 undef = .pointer (some ⟨p, 0, none⟩) := hnew 5 124 (by kernel_rfl)
                refine ⟨Facts.wanted_free rfl, ?_, by simpa using hI, fun _ => rfl⟩
                simp [go_sem, Act.eval, f124]
              · refine Facts.stepI_is (.pointer (some ⟨p, 2, none⟩)) (fun a => RB.refl _ a) fun s a W hsz hsj hwt hI hold hnew => ?_
                have f125 : a.tmps.getD 125 undef = .pointer (some ⟨p, 0, none⟩) := hnew 6 125 (by kernel_rfl)
                refine ⟨Facts.wanted_free rfl, ?_, by simpa using hI, fun _ => rfl⟩
                simp [go_sem, Act.eval, f125]
              · refine Facts.stepI_is (.pointer (some ⟨mb, 0, none⟩)) (fun a => RB.refl _ a) fun s a W hsz hsj hwt hI hold hnew => ?_
                have f126 : a.tmps.getD 126 undef = .pointer (some ⟨p, 2, none⟩) := hnew 7 126 (by kernel_rfl)
                obtain ⟨k0, k1, k2, k3⟩ := side_cells (HW.out.next hI).row
                refine ⟨Facts.wanted_free rfl, ?_, by simpa using hI, fun _ => rfl⟩
                simp [go_sem, Act.eval, f126, k2, ptrV]
              · refine Facts.stepI_call fun s a W hsz hsj hwt hI hold hnew => ?_
                have h119 : ∃ b, a.tmps.getD 119 undef = .pointer (some ⟨b, 0, none⟩) ∧ w10.heap.size ≤ b ∧ TalkAt W b 9223372036854775807 := hnew 0 119 (by kernel_rfl)
                obtain ⟨b119, f119, hb119, ht119⟩ := h119
                have f123 : a.tmps.getD 123 undef = .pointer (some ⟨g, 0, none⟩) := hnew 4 123 (by kernel_rfl)
                have f127 : a.tmps.getD 127 undef = .pointer (some ⟨mb, 0, none⟩) := hnew 8 127 (by kernel_rfl)
                have hw := HW.out.next hI
                refine ⟨Facts.wanted_free rfl, 8, #[.pointer (some ⟨b119, 0, none⟩), .pointer (some ⟨g, 0, none⟩), .pointer (some ⟨mb, 0, none⟩), .int .i64 1], by simp [go_sem, Act.eval, f119, f123, f127], ?_⟩
                refine (begin_end b119 g mb 0 st 1 W hw.sto hw.node 9223372036854775807 ht119 (by omega) (by omega) (by omega)).mono ?_
                rintro e w8 ⟨rfl, hb8⟩
                exact ⟨_, rfl, hI.trans (hb8.mono hI.size), RB.below hb8, rfl⟩
              · refine Facts.stepI_is (.tuple #[.agg lzero, .int .i64 8]) (fun a => RB.refl _ a) fun s a W hsz hsj hwt hI hold hnew => ?_
                have f128 : a.tmps.getD 128 undef = .tuple #[.agg lzero, .int .i64 8] := hnew 9 128 (by kernel_rfl)
                refine ⟨Facts.wanted_free rfl, ?_, by simpa using hI, fun _ => rfl⟩
                simp [go_sem, Act.eval, f128]
              · refine Facts.stepI_is (.agg lzero) (fun a => RB.refl _ a) fun s a W hsz hsj hwt hI hold hnew => ?_
                have f118 : a.tmps.getD 118 undef = .tuple #[.agg lzero, .int .i64 8] := hnew 10 118 (by kernel_rfl)
                refine ⟨Facts.wanted_free rfl, ?_, by simpa using hI, fun _ => rfl⟩
                simp [go_sem, Act.eval, f118]
              · refine Facts.stepI_is (.int .i64 8) (fun a => RB.refl _ a) fun s a W hsz hsj hwt hI hold hnew => ?_
                have f118 : a.tmps.getD 118 undef = .tuple #[.agg lzero, .int .i64 8] := hnew 10 118 (by kernel_rfl)
                refine ⟨Facts.wanted_free rfl, ?_, by simpa using hI, fun _ => rfl⟩
                simp [go_sem, Act.eval, f118]
              · refine Facts.stepI_new fun s a W hsz hsj hwt hI hold hnew => ?_
                exact ⟨Facts.wanted_free rfl, .pointer (some ⟨W.heap.size, 0, none⟩), W.alloc (.cells lzero 31), by simp [go_sem, Act.eval, lzero], hI.trans (((Below.refl _ _).alloc (Nat.le_refl _) _).mono hI.size), RB.below ((Below.refl _ _).alloc (Nat.le_refl _) _), W.heap.size, lzero, rfl, hI.size, heap_alloc_new W _, rfl⟩
              · refine Facts.stepI_store fun s a W hsz hsj hwt hI hold hnew => ?_
                have h17 : ∃ b Y, a.tmps.getD 17 undef = .pointer (some ⟨b, 0, none⟩) ∧ w10.heap.size ≤ b ∧ W.heap[b]? = some (.cells Y 31 (0, 0)) ∧ Y.size = 14 := hnew 13 17 (by kernel_rfl)
                obtain ⟨bx, Y9, f17, hbx, hxx, hys⟩ := h17
                have f129 : a.tmps.getD 129 undef = .agg lzero := hnew 11 129 (by kernel_rfl)
                exact ⟨Facts.wanted_free rfl, _, Facts.exec_putRow 31 (.tmp 17) (.tmp 129) rfl bx 31 Y9 lzero f17 f129 hxx (by kernel_rfl) (by rw [hys]; rfl) (by simp [lzero, Value.oneCell']), Below.beside hI (setRow_beside W bx _) hI.size (by simp; exact hbx), RB.stored hxx (by rw [hys]; rfl), trivial⟩
              · refine Facts.stepI_is (.int .i64 8) (fun a => RB.refl _ a) fun s a W hsz hsj hwt hI hold hnew => ?_
                have f130 : a.tmps.getD 130 undef = .int .i64 8 := hnew 12 130 (by kernel_rfl)
                refine ⟨Facts.wanted_free rfl, ?_, by simpa using hI, fun _ => rfl⟩
                simp [go_sem, Act.eval, f130]
            · intro a w11 hI hsize hdef hnew hold
              have f18 : a.tmps.getD 18 undef = .int .i64 8 := hnew 15 18 (by kernel_rfl)
              have f1 : a.tmps.getD 1 undef = Value.int .i64 to := hold 1 (Facts.not_dst (by kernel_rfl))
              have f2 : a.tmps.getD 2 undef = Value.pointer (some ⟨b2, 0, none⟩) := hold 2 (Facts.not_dst (by kernel_rfl))
              have f5 : a.tmps.getD 5 undef = Value.pointer none := hold 5 (Facts.not_dst (by kernel_rfl))
              have f6 : a.tmps.getD 6 undef = Value.pointer (some ⟨p, 0, none⟩) := hold 6 (Facts.not_dst (by kernel_rfl))
              have f8 : a.tmps.getD 8 undef = Value.int .i64 2 := hold 8 (Facts.not_dst (by kernel_rfl))
              have f10 : a.tmps.getD 10 undef = Value.int .i64 2 := hold 10 (Facts.not_dst (by kernel_rfl))
              have f12 : a.tmps.getD 12 undef = Value.int .i64 2 := hold 12 (Facts.not_dst (by kernel_rfl))
              have f14 : a.tmps.getD 14 undef = Value.int .i64 2 := hold 14 (Facts.not_dst (by kernel_rfl))
              have f16 : a.tmps.getD 16 undef = Value.int .i64 E := hold 16 (Facts.not_dst (by kernel_rfl))
              obtain ⟨tm, df⟩ := a
              simp only [] at hdef hsize f1 f2 f5 f6 f8 f10 f12 f14 f16 f18
              obtain ⟨xq, hxq, hlit⟩ := Facts.lits tm hsize Facts.idx198 Facts.idx198_eq
              rw [hxq] at f1 f2 f5 f6 f8 f10 f12 f14 f16 f18
              simp only [Facts.idx198, List.map_cons, List.map_nil, f1, f2, f5, f6, f8, f10, f12, f14, f16, f18] at hlit
              clear f1 f2 f5 f6 f8 f10 f12 f14 f16 f18 hsize hnew hold hxq
              subst hlit
              subst hdef
              try simp only []
              have HW := Lib.hid (HW.out.next hI)
              clear hI

              have HW0 := HW
              have HM := Lib.hid (mat_new w11)
              have HBM := Lib.hid (show Below w11.heap.size w11 (w11.alloc (.cells Mtx.zeroRow 105)) from (Below.refl _ _).alloc (Nat.le_refl _) _)
              go_wp2_with fail
              refine (Mtx.new_any w11).mono ?_
              rintro e w12 ⟨rfl, hw12⟩
              rw [← hw12] at HM HBM
              have HW := Lib.hid (HW.out.next HBM.out)
              obtain ⟨k0, k1, k2, k3⟩ := side_cells HW.out.row
              have NT := Lib.hid (note_t g w11.heap.size 0 st one17 _ w12 HW.out.sto (HW.out.nexts _ (Beside.refl _ _)) HM.out (by omega) HW.out.node (by rw [HW.out.ck]; omega))
              have HM2 := Lib.hid (show w1.heap.size ≤ w11.heap.size from HW0.out.below.size)
              clear hw12 HBM HM
              obtain ⟨m2, hm2⟩ : ∃ m2, m2 = w11.heap.size := ⟨_, rfl⟩
              rw [← hm2] at NT HM2 ⊢
              clear hm2
              unfold ptrV at k1
              go_wp2_with fail
              refine NT.out.mono ?_
              rintro e w13 ⟨rfl, w9, R', hb9, hR⟩
              have hR2 : (R' 0).t = 1 := by rw [hR.time, HW.out.ck]; rfl
              have RW := Lib.hid (Mtx.row_any m2 0 R' w13 hR.mat (by omega))
              have HSZ := Lib.hid (And.intro (HW.out.below.trans (hb9.mono HW.out.below.size)) (And.intro hR.beside (And.intro hR.mat.lt (HM2.out))))
              have HAT := Lib.hid (show (∀ i, Vec.at_ (R' 0).H i = one17 i) ∧ (R' 0).H.length = (R' 0).n from ⟨fun i => by rw [hR.have_ i]; show Nat.max (Vec.at_ ([] : List Nat) i) _ = _; rw [show Vec.at_ ([] : List Nat) i = 0 by simp [Vec.at_], haveT_at]; exact Nat.max_eq_right (Nat.zero_le _), (hR.mat.took 0 (by omega)).1.1⟩)
              unfold Mtx.RowTold at RW
              rw [hR2] at RW
              clear hb9 hR hR2 NT k0 k1 k2 k3
              go_wp2_with fail
              refine RW.out.mono ?_
              rintro e w14 ⟨A', c', rfl, ho, hb14⟩
              have hcase : (E = 0 ∧ 0 < to ∧ to < 64) ∨ (E = 1 ∧ ¬ 0 < to) ∨ (E = 1 ∧ 0 < to ∧ ¬ to < 64) := by have := HE.out; unfold begE at this; split at this <;> omega
              have HO := Lib.hid (And.intro ho hb14)
              obtain ⟨K, hK⟩ : ∃ K, K = Vec.trimN (R' 0).H (R' 0).n := ⟨_, rfl⟩
              rw [← hK] at HO ⊢
              have HK := Lib.hid hK
              have SV := Lib.hid (same17 w13 w14 A' c' (R' 0).H (R' 0).n HAT.out.1 HAT.out.2 K HK.out HO.out.1 HO.out.2)
              have FIN := Lib.hid (fin17 HBB.out HSZ.out.1 HSZ.out.2.1 HSZ.out.2.2.2 HO.out.2 (.cells #[.int .i64 0, .slice A' K c', .int .u64 1] 55) (.cells #[.int .u64 1] 22))
              clear ho hb14 hK RW
              rcases hcase with ⟨rfl, g1, g2⟩ | ⟨rfl, g1⟩ | ⟨rfl, g1, g2⟩
              · have r1 : decide ((0 : Int) < to) = true := decide_eq_true g1
                have r2 : decide (to < (64 : Int)) = true := decide_eq_true g2
                clear g1 g2
                go_wp2_with fail
                refine (coming_nil _).mono ?_
                rintro e w15 ⟨rfl, rfl⟩
                go_wp2_with fail
                refine (serial_nil _).mono ?_
                rintro e w16 ⟨rfl, rfl⟩
                go_wp2_with fail
                refine SV.out.mono ?_
                rintro e w17 ⟨rfl, rfl⟩
                clear SV HO HAT HSZ HX1 HXF HT1 HW
                go_wp2
                skip
                exact ret_law17 _ w _ rfl FIN.out
              · have r1 : decide ((0 : Int) < to) = false := decide_eq_false g1
                clear g1
                go_wp2_with fail
                refine (coming_nil _).mono ?_
                rintro e w15 ⟨rfl, rfl⟩
                go_wp2_with fail
                refine (serial_nil _).mono ?_
                rintro e w16 ⟨rfl, rfl⟩
                go_wp2_with fail
                refine SV.out.mono ?_
                rintro e w17 ⟨rfl, rfl⟩
                clear SV HO HAT HSZ HX1 HXF HT1 HW
                go_wp2
                skip
                exact ret_law17 _ w _ rfl FIN.out
              · have r1 : decide ((0 : Int) < to) = true := decide_eq_true g1
                have r2 : decide (to < (64 : Int)) = false := decide_eq_false g2
                clear g1 g2
                go_wp2_with fail
                refine (coming_nil _).mono ?_
                rintro e w15 ⟨rfl, rfl⟩
                go_wp2_with fail
                refine (serial_nil _).mono ?_
                rintro e w16 ⟨rfl, rfl⟩
                go_wp2_with fail
                refine SV.out.mono ?_
                rintro e w17 ⟨rfl, rfl⟩
                clear SV HO HAT HSZ HX1 HXF HT1 HW
                go_wp2
                skip
                exact ret_law17 _ w _ rfl FIN.out
end Go.Proofs.YtinjbdgjcadodaaGreatDoor.St
