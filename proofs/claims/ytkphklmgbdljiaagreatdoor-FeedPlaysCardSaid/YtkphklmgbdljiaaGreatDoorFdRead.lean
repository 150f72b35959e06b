/- feed: Range, Get, the last event. -/
import Derived.Test.YtkphklmgbdljiaaGreatDoorFdFromL
namespace Go.Proofs.YtkphklmgbdljiaaGreatDoor.Fd
open Go Go.RowKit Go.Proofs.YtkphklmgbdljiaaGreatDoor.Words Go.Proofs.YtkphklmgbdljiaaGreatDoor.Enc Go.Proofs.YtkphklmgbdljiaaGreatDoor.Evt Go.Proofs.YtkphklmgbdljiaaGreatDoor.Made Go.Proofs.YtkphklmgbdljiaaGreatDoor.Dsk Go.Proofs.YtkphklmgbdljiaaGreatDoor.Sht Go.Proofs.YtkphklmgbdljiaaGreatDoor.Seg
set_option linter.unusedVariables false
set_option linter.unusedSimpArgs false

theorem Feed.box [Inhabited XS] {w : World} {d f x : Nat} {sz : Int} {floor time : Nat} {P : List Part} {safe : Nat} {O : List Nat} {h : Hd} (F : Feed w d f x sz floor time P safe O h) :
    ∃ A c, w.cell? ⟨f, 0, none⟩ = some (.pointer (some ⟨d, 0, none⟩)) ∧ w.cell? ⟨f, 1, none⟩ = some (.int .i64 (x : Int)) ∧ w.cell? ⟨f, 2, none⟩ = some (.int .i64 sz) ∧ w.cell? ⟨f, 3, none⟩ = some (.int .u64 (floor : Int)) ∧ w.cell? ⟨f, 4, none⟩ = some (.int .u64 (time : Int)) ∧ w.cell? ⟨f, 5, none⟩ = some (.slice A P.length c) ∧ w.cell? ⟨f, 6, none⟩ = some (.int .i64 (safe : Int)) := by
  obtain ⟨R, A, c, S, hR, hO, F⟩ := F
  have := F.cells
  rw [← List.length_map (f := SegS.p), hR] at this
  exact ⟨A, c, this⟩

set_option maxRecDepth 100000 in
theorem range_low [Inhabited XS] (d f x : Nat) (sz : Int) (floor time : Nat) (P : List Part) (safe : Nat) (O : List Nat) (h : Hd) (seq : Nat) (most : Int) (w : World) (F : Feed w d f x sz floor time P safe O h) (h0 : ¬ seq < 1) (hs : seq ≤ floor) :
    Calls Tryz.prog 19 #[.pointer (some ⟨f, 0, none⟩), .int .u64 (seq : Int), .int .i64 most] w fun e w' => e = .returned (.tuple #[.slice none 0 0, .int .i64 13]) ∧ Below w.heap.size w w' := by
  obtain ⟨A, c, _, _, _, c3, _⟩ := F.box
  clear F
  go_enter Tryz.func19, Tryz.ntmps19
  go_wp2
  go_ret2
  exact ⟨rfl, Below.refl _ _⟩
set_option maxRecDepth 100000 in
theorem range_zero [Inhabited XS] (d f x : Nat) (sz : Int) (floor time : Nat) (P : List Part) (safe : Nat) (O : List Nat) (h : Hd) (most : Int) (w : World) (F : Feed w d f x sz floor time P safe O h) :
    Calls Tryz.prog 19 #[.pointer (some ⟨f, 0, none⟩), .int .u64 ((0 : Nat) : Int), .int .i64 most] w fun e w' => e = .returned (.tuple #[.slice none 0 0, .int .i64 2]) ∧ Below w.heap.size w w' := by
  clear F
  go_enter Tryz.func19, Tryz.ntmps19
  go_wp2
  go_ret2
  exact ⟨rfl, Below.refl _ _⟩
set_option maxRecDepth 100000 in
theorem range_high [Inhabited XS] (d f x : Nat) (sz : Int) (floor time : Nat) (P : List Part) (safe : Nat) (O : List Nat) (h : Hd) (u0 seq : Nat) (most : Int) (w : World) (F : Feed w d f x sz floor time P safe O h) (G : Good x floor u0 P) (hs : u0 + (evsP P).length ≤ seq) :
    Calls Tryz.prog 19 #[.pointer (some ⟨f, 0, none⟩), .int .u64 (seq : Int), .int .i64 most] w fun e w' => e = .returned (.tuple #[.slice none 0 0, .int .i64 2]) ∧ Below w.heap.size w w' := by
  obtain ⟨A, c, _, _, _, c3, _⟩ := F.box
  have HN := Lib.hid (nextF_any d f x sz floor time P safe O h u0 w F G)
  have h1 : ¬ seq ≤ floor := by have := G.hi; omega
  have h0 : ¬ seq < 1 := by have := G.pos; omega
  generalize u0 + (evsP P).length = nx at *
  clear F G
  go_enter Tryz.func19, Tryz.ntmps19
  go_wp2_with fail
  refine HN.out.mono ?_
  rintro e w1 ⟨rfl, hb⟩
  go_wp2
  go_ret2
  exact ⟨rfl, hb⟩
/-- Events that are there. -/
def RangeGives (O : List Nat) (L : List Ev) (w : World) (e : Ending) (w' : World) : Prop :=
  ∃ A n c, e = .returned (.tuple #[.slice A n c, .int .i64 0]) ∧ SeesEv O w' A n L ∧ n ≤ c ∧ Below w.heap.size w w'
set_option maxRecDepth 100000 in
theorem range_in [Inhabited XS] (d f x : Nat) (sz : Int) (floor time : Nat) (P : List Part) (safe : Nat) (O : List Nat) (h : Hd) (u0 seq most : Nat) (B : List Nat) (w0 w : World) (F0 : Feed w0 d f x sz floor time P safe O h) (hw : Below w0.heap.size w0 w) (hB : ∀ k ∈ B, w0.heap.size ≤ k ∧ k < w.heap.size) (G : Good x floor u0 P) (h1 : floor < seq) (h2 : seq < u0 + (evsP P).length) (hm : most ≤ 1000000) :
    Calls Tryz.prog 19 #[.pointer (some ⟨f, 0, none⟩), .int .u64 (seq : Int), .int .i64 (most : Int)] w (RangeGives (O ++ B) (cutL (evsP P) (seq - u0) most) w) := by
  have F := F0.below hw
  obtain ⟨A, c, _, _, _, c3, _⟩ := F.box
  have HN := Lib.hid (nextF_any d f x sz floor time P safe O h u0 w F G)
  have HF := Lib.hid (fun W (hW : Below w.heap.size w W) => from_any d f x sz floor time P safe O h u0 seq most B w0 W F0 (hw.trans (hW.mono hw.size)) (fun k hk => ⟨(hB k hk).1, Nat.lt_of_lt_of_le (hB k hk).2 hW.size⟩) G.chain G.few (by have := G.lo; omega) (by have := G.few; omega) hm)
  have h3 : ¬ seq ≤ floor := by omega
  have h0 : ¬ seq < 1 := by omega
  have h4 : ¬ u0 + (evsP P).length ≤ seq := by omega
  generalize u0 + (evsP P).length = nx at *
  clear F F0 G hw hB
  go_enter Tryz.func19, Tryz.ntmps19
  go_wp2_with fail
  refine HN.out.mono ?_
  rintro e w1 ⟨rfl, hb⟩
  go_wp2_with fail
  refine (HF.out w1 hb).mono ?_
  rintro e w2 ⟨A2, n2, c2, rfl, hs, hc, hb2⟩
  have b2 := hb.trans (hb2.mono hb.size)
  go_wp2
  go_ret2
  exact ⟨A2, n2, c2, rfl, hs, hc, b2⟩

/-- An event as Get returns it. -/
def GetGives (O : List Nat) (ev : Ev) (w : World) (e : Ending) (w' : World) : Prop :=
  ∃ r : EvS, e = .returned (.tuple #[r.e.val r.A r.n r.c, .int .i64 0]) ∧ r.e = ev ∧ TextOk O w' r ∧ Below w.heap.size w w'
set_option maxRecDepth 100000 in
theorem get_err (V : Value) (seq E : Int) (w : World) (hE : E ≠ 0)
    (hr : ∀ W, Below w.heap.size w W → Calls Tryz.prog 19 #[V, .int .u64 seq, .int .i64 1] W fun e w' => e = .returned (.tuple #[.slice none 0 0, .int .i64 E]) ∧ Below W.heap.size W w') :
    Calls Tryz.prog 18 #[V, .int .u64 seq] w fun e w' => e = .returned (.tuple #[zeroEv, .int .i64 E]) ∧ Below w.heap.size w w' := by
  have hsf := store_float Tryz.prog
  have hE1 : (E == 0) = false := by rw [beq_eq_false_iff_ne]; exact hE
  have HR := Lib.hid hr
  clear hr hE
  have g0 := heap_alloc_new w (.cells zeroRow 37)
  have b0 := (Below.refl w.heap.size w).alloc (Nat.le_refl _) (.cells zeroRow 37)
  unfold zeroRow at g0 b0
  go_enter Tryz.func18, Tryz.ntmps18
  go_wp2_with fail
  refine (HR.out _ b0).mono ?_
  rintro e w1 ⟨rfl, hb1⟩
  have g1 := (hb1.block w.heap.size (Array.getElem?_eq_some_iff.1 g0).1).trans g0
  have b1 := b0.trans (hb1.mono b0.size)
  have G1 := Lib.hid g1
  have B1 := Lib.hid b1
  clear g0 b0 hb1 g1 b1
  go_wp2_with (first
    | (refine wpList_putRow rfl 37 (.tmp 4) (.tmp 16) rfl w.heap.size 37 zeroRow zeroRow rfl rfl ?g1 (by kernel_rfl) rfl (by simp [zeroRow, Value.oneCell']) ?_))
  case g1 => exact G1.out
  intro W' hW' hbe
  unfold zeroRow at hW'
  obtain ⟨k0, k1, k2, k3, k4, k5, k6, k7⟩ := box8 hW'
  have HB := Lib.hid (Below.beside B1.out hbe B1.out.size (by simp))
  clear hW' hbe
  go_wp2
  refine bodyPost_ret (v := .tuple #[zeroEv, .int .i64 E]) ?_ rfl ⟨rfl, HB.out⟩
  simp [results, zeroEv, Tryz.results18, go_sem, k0, k1, k2, k3, k4, k5, k6, k7]
set_option maxRecDepth 100000 in
theorem get_ok (O : List Nat) (V : Value) (seq : Int) (ev : Ev) (w : World)
    (hr : ∀ W, Below w.heap.size w W → w.heap.size < W.heap.size → Calls Tryz.prog 19 #[V, .int .u64 seq, .int .i64 1] W (RangeGives (O ++ [w.heap.size]) [ev] W)) :
    Calls Tryz.prog 18 #[V, .int .u64 seq] w (GetGives O ev w) := by
  have hsf := store_float Tryz.prog
  have HR := Lib.hid hr
  clear hr
  have g0 := heap_alloc_new w (.cells zeroRow 37)
  have b0 := (Below.refl w.heap.size w).alloc (Nat.le_refl _) (.cells zeroRow 37)
  unfold zeroRow at g0 b0
  go_enter Tryz.func18, Tryz.ntmps18
  go_wp2_with fail
  refine (HR.out _ b0 (by simp)).mono ?_
  rintro e w1 ⟨A1, n1, c1, rfl, hs, hnc, hb1⟩
  have hn1 : n1 = 1 := by have := hs.len; simpa using this.symm
  subst hn1
  obtain ⟨b, o, r, rfl, hre, htx, p0, p1, p2, p3, p4, p5, p6, p7⟩ := hs.get (j := 0) (by omega)
  have hre' : r.e = ev := by simpa using hre.symm
  have g1 := (hb1.block w.heap.size (Array.getElem?_eq_some_iff.1 g0).1).trans g0
  have b1 := b0.trans (hb1.mono b0.size)
  have G1 := Lib.hid g1
  have B1 := Lib.hid b1
  have HTX := Lib.hid htx
  have HRE := Lib.hid hre'
  clear g0 b0 hb1 g1 b1 htx hre' hre hs
  simp only [Nat.mul_zero, Nat.add_zero] at p0 p1 p2 p3 p4 p5 p6 p7
  go_wp2_with (first
    | (refine wpList_putRow rfl 37 (.tmp 4) (.tmp 20) rfl w.heap.size 37 zeroRow (r.e.row r.A r.n r.c) rfl rfl ?g1 (by kernel_rfl) rfl (by simp [Ev.row, Value.oneCell']) ?_))
  case g1 => exact G1.out
  intro W' hW' hbe
  unfold Ev.row at hW'
  obtain ⟨k0, k1, k2, k3, k4, k5, k6, k7⟩ := box8 hW'
  have HB := Lib.hid (Below.beside B1.out hbe B1.out.size (by simp))
  have HT2 := Lib.hid (show TextOk O W' r from ⟨HTX.out.1.beside hbe (fun hn a ha hm => HTX.out.2.2.2 hn a ha (List.mem_append.2 (.inr hm))), HTX.out.2.1, HTX.out.2.2.1, fun hn a ha hm => HTX.out.2.2.2 hn a ha (List.mem_append.2 (.inl hm))⟩)
  clear hW' hbe p0 p1 p2 p3 p4 p5 p6 p7
  go_wp2
  refine bodyPost_ret (v := .tuple #[r.e.val r.A r.n r.c, .int .i64 0]) ?_ rfl ⟨r, rfl, HRE.out, HT2.out, HB.out⟩
  simp [results, Ev.val, Ev.row, Tryz.results18, go_sem, k0, k1, k2, k3, k4, k5, k6, k7]
end Go.Proofs.YtkphklmgbdljiaaGreatDoor.Fd
