/- The law of layer 17: its example. The document's SameV, of vectors that are alike. -/
import Derived.Test.YtinjbdgjcadodaaGreatDoorTNp18
import Derived.Test.YtinjbdgjcadodaaGreatDoorTNp35
import Derived.Test.YtinjbdgjcadodaaGreatDoorTNp36
namespace Go.Proofs.YtinjbdgjcadodaaGreatDoor.St
open Go Go.RowKit Go.Proofs.YtinjbdgjcadodaaGreatDoor.Words Go.Proofs.YtinjbdgjcadodaaGreatDoor.Enc Go.Proofs.YtinjbdgjcadodaaGreatDoor.Made Go.Proofs.YtinjbdgjcadodaaGreatDoor.Dsk Go.Proofs.YtinjbdgjcadodaaGreatDoor.Seg
set_option linter.unusedVariables false
set_option linter.unusedSimpArgs false

theorem side_cells {w : World} {p d g mb tb : Nat} (h : w.heap[p]? = some (.cells (sideRow d g mb tb) 44 (0, 0))) :
    w.cell? ⟨p, 0, none⟩ = some (ptrV d) ∧ w.cell? ⟨p, 1, none⟩ = some (ptrV g) ∧ w.cell? ⟨p, 2, none⟩ = some (ptrV mb) ∧ w.cell? ⟨p, 3, none⟩ = some (ptrV tb) := by
  refine ⟨?_, ?_, ?_, ?_⟩ <;> (rw [cell_of_row w p _ _ _ _ h]; rfl)
theorem Side.below {w0 wa w W : World} {p d g mb tb ser : Nat} {s : Sto} {S : List Nat} {f : Nat} (h : Side w0 wa w p d g mb tb ser s S f) (hb : Below w.heap.size w W) : Side w0 wa W p d g mb tb ser s S f :=
  ⟨h.fr, h.frame.trans (hb.mono h.frame.size), h.mbe, h.mtl, h.tpl, h.mat.below hb, h.tk.below hb, (hb.block p (Array.getElem?_eq_some_iff.1 h.row).1).trans h.row⟩
/-- The letter of the example. -/
def L17 (X : Array Value) : Prop := ∃ A n c A2 n2 c2, X = lrow 1 0 1 true 11 (.slice A n c) (.slice A2 n2 c2)
/-- Region 4 of the example: b: Begin has been. -/
structure J17 (w1 wa : World) (mb tb : Nat) (b : Bool) (W : World) : Prop where
  be : Beside [mb, tb] w1 W
  fr : Below wa.heap.size wa W
  low : b = false → Below w1.heap.size w1 W
  tk : b = true → TalkAt W tb 11
theorem J17.start (w1 wa : World) (mb tb : Nat) (h : Below wa.heap.size wa w1) : J17 w1 wa mb tb false w1.drew :=
  ⟨(Beside.of_below (Below.refl _ _).drew _), h.drew, fun _ => (Below.refl _ _).drew, fun h => by cases h⟩
theorem J17.alloc {w1 wa W : World} {mb tb : Nat} {b : Bool} (h : J17 w1 wa mb tb b W) (o : Obj) : J17 w1 wa mb tb b (W.alloc o) :=
  ⟨h.be.trans (Beside.of_below ((Below.refl _ _).alloc (Nat.le_refl _) _) _) fun k hk => .inl hk, h.fr.trans (((Below.refl _ _).alloc (Nat.le_refl _) _).mono h.fr.size), fun e => (h.low e).trans (((Below.refl _ _).alloc (Nat.le_refl _) _).mono (h.low e).size), fun e => (h.tk e).below ((Below.refl _ _).alloc (Nat.le_refl _) _)⟩
def PTk {R : World → World → Prop} : Facts.PredR R := Facts.PredR.that fun v => ∃ X : Array Value, v = .tuple #[.agg X, .int .i64 0] ∧ L17 X
def PTa {R : World → World → Prop} : Facts.PredR R := Facts.PredR.that fun v => ∃ X : Array Value, v = .agg X ∧ L17 X
theorem ptr_one {a b : Nat} (h : Value.pointer (some ⟨a, 0, none⟩) = .pointer (some ⟨b, 0, none⟩)) : a = b := by
  injection h with h
  injection h with h
  injection h with h
def PPt {R : World → World → Prop} : Facts.PredR R := Facts.PredR.that fun v => ∃ b, v = .pointer (some ⟨b, 0, none⟩)
theorem J17.stored {w1 wa W : World} {mb tb : Nat} {b : Bool} (h : J17 w1 wa mb tb b W) {x : Nat} {vs : Array Value} (hx : w1.heap.size ≤ x) (hmt : mb < w1.heap.size ∧ tb < w1.heap.size) (hwa : wa.heap.size ≤ w1.heap.size) : J17 w1 wa mb tb b (W.setRow x vs) := by
  have hb := setRow_beside W x vs
  exact ⟨h.be.trans hb fun k hk => .inr (by simp at hk; omega), Below.beside h.fr hb h.fr.size (by simp; omega), fun e => Below.beside (h.low e) hb (h.low e).size (by simp; omega), fun e => (h.tk e).beside hb (by simp; omega)⟩
/-- The letter's box of region 4: al: it is there; st: it holds the letter. -/
structure B17 (w1 : World) (al st : Bool) (a : Act) (W : World) : Prop where
  imp : st = true → al = true
  box : al = true → ∃ b X, a.tmps.getD 2 undef = .pointer (some ⟨b, 0, none⟩) ∧ w1.heap.size ≤ b ∧ W.heap[b]? = some (.cells X 31 (0, 0)) ∧ X.size = 14 ∧ (st = true → L17 X)
theorem B17.put {w1 W : World} {al st : Bool} {a : Act} (h : B17 w1 al st a W) {d : Option Nat} (hd : d ≠ some 2) (v : Value) : B17 w1 al st (a.put d v) W := by
  refine ⟨h.imp, fun e => ?_⟩
  obtain ⟨b, X, h1, h2⟩ := h.box e
  refine ⟨b, X, ?_, h2⟩
  cases d with
  | none => exact h1
  | some d => rw [Facts.getD_put_other (fun e => hd (by rw [e]))]; exact h1
theorem B17.keep {w1 W W' : World} {al st : Bool} {a : Act} (h : B17 w1 al st a W) {D : List Nat} (hb : Beside D W W') (hD : ∀ k ∈ D, k < w1.heap.size) : B17 w1 al st a W' := by
  refine ⟨h.imp, fun e => ?_⟩
  obtain ⟨b, X, h1, h2, h3, h4⟩ := h.box e
  exact ⟨b, X, h1, h2, (hb.block b (Array.getElem?_eq_some_iff.1 h3).1 (fun hm => by have := hD b hm; omega)).trans h3, h4⟩
theorem B17.made {w1 W : World} {st : Bool} {a : Act} (h : B17 w1 false st a W) (hs : w1.heap.size ≤ W.heap.size) (hsz : a.tmps.size = 59) : B17 w1 true st (a.put (some 2) (.pointer (some ⟨W.heap.size, 0, none⟩))) (W.alloc (.cells lzero 31)) := by
  refine ⟨fun _ => rfl, fun _ => ⟨W.heap.size, lzero, Facts.getD_put_same (by omega), hs, heap_alloc_new W _, rfl, fun e => ?_⟩⟩
  have := h.imp e
  cases this
theorem B17.stored {w1 W : World} {st : Bool} {a : Act} (h : B17 w1 true st a W) {b : Nat} {X9 X : Array Value} (hf : a.tmps.getD 2 undef = .pointer (some ⟨b, 0, none⟩)) (hx9 : W.heap[b]? = some (.cells X9 31 (0, 0))) (hX : L17 X) : B17 w1 true true a (W.setRow b X) := by
  refine ⟨fun _ => rfl, fun _ => ?_⟩
  obtain ⟨b9, Y, e9, h2, -⟩ := h.box rfl
  obtain rfl : b9 = b := ptr_one (e9.symm.trans hf)
  refine ⟨b9, X, e9, h2, heap_setRow hx9, ?_, fun _ => hX⟩
  obtain ⟨A, n, c, A2, n2, c2, rfl⟩ := hX
  rfl
set_option maxRecDepth 100000 in
set_option maxHeartbeats 2000000 in
theorem awake17 (w : World) (T : Chk.Tabs w) (ST : STabs w) : Calls Tryz.prog 5 #[] w fun e w' => e = .returned (.bool true) ∧ Below w.heap.size w w' := by
  have OP := Lib.hid (open17 w T ST)
  clear T ST
  go_enter Tryz.func5, Tryz.ntmps5
  go_wp2_with fail
  refine OP.out.mono ?_
  rintro e w1 ⟨wa, p, d, g, mb, tb, s, S, f, rfl, hS⟩
  have HS := Lib.hid hS
  have C1 := fun (W : World) (hW : Below w1.heap.size w1 W) => (by
    obtain ⟨x0, x1, x2, x3⟩ := side_cells ((hW.block p (Array.getElem?_eq_some_iff.1 HS.out.row).1).trans HS.out.row)
    exact ⟨x1, x2, x3⟩ : W.cell? ⟨p, 1, none⟩ = some (.pointer (some ⟨g, 0, none⟩)) ∧ W.cell? ⟨p, 2, none⟩ = some (.pointer (some ⟨mb, 0, none⟩)) ∧ W.cell? ⟨p, 3, none⟩ = some (.pointer (some ⟨tb, 0, none⟩)))
  obtain ⟨c1, c2, c3⟩ := C1 w1 (Below.refl _ _)
  have hpl : p < w1.heap.size := (Array.getElem?_eq_some_iff.1 hS.row).1
  have CE := Lib.hid (fun (W : World) (hW : Beside [mb, tb] w1 W) => (by
    have hs := HS.out
    obtain ⟨x0, x1, x2, x3⟩ := side_cells ((hW.block p (Array.getElem?_eq_some_iff.1 hs.row).1 (by have := hs.mtl; have := hs.tpl; simp; omega)).trans hs.row)
    exact ⟨x0, x1, x2, x3⟩ : W.cell? ⟨p, 0, none⟩ = some (.pointer (some ⟨d, 0, none⟩)) ∧ W.cell? ⟨p, 1, none⟩ = some (.pointer (some ⟨g, 0, none⟩)) ∧ W.cell? ⟨p, 2, none⟩ = some (.pointer (some ⟨mb, 0, none⟩)) ∧ W.cell? ⟨p, 3, none⟩ = some (.pointer (some ⟨tb, 0, none⟩))))
  have BG : Hid (∀ W, Below w1.heap.size w1 W → Calls Tryz.prog 8 #[.pointer (some ⟨tb, 0, none⟩), .pointer (some ⟨g, 0, none⟩), .pointer (some ⟨mb, 0, none⟩), .int .i64 1] W fun e w' => ∃ X, e = .returned (.tuple #[.agg X, .int .i64 0]) ∧ L17 X ∧ Beside [mb, tb] W w' ∧ Below wa.heap.size wa w' ∧ TalkAt w' tb 11) := Lib.hid fun W hW => by
    refine (Side.begins (HS.out.below hW) 1 (by omega) (by omega) (by omega)).mono ?_
    rintro e w' ⟨A, n, c, A2, n2, c2, rfl, h⟩
    exact ⟨_, rfl, ⟨A, n, c, A2, n2, c2, rfl⟩, h.2.1, h.2.2, h.1⟩
  have HP := Lib.hid (show mb < w1.heap.size ∧ tb < w1.heap.size from ⟨HS.out.mat.lt, HS.out.tk.lt⟩)
  clear hS OP C1
  go_upto_region 4 with fail
  refine Facts.wp_region_inv (fun s a W => J17 w1 wa mb tb (s 12) W ∧ B17 w1 (s 16) (s 17) a W) (fun _ _ => True) (n := 59) (by kernel_rfl) (by kernel_rfl) rfl (fun _ => trivial) [Facts.PredR.is (.pointer (some ⟨p, 0, none⟩)), Facts.PredR.is (.pointer (some ⟨p, 0, none⟩)), Facts.PredR.is (.pointer (some ⟨p, 3, none⟩)), Facts.PredR.is (.pointer (some ⟨tb, 0, none⟩)), Facts.PredR.is (.pointer (some ⟨p, 0, none⟩)), Facts.PredR.is (.pointer (some ⟨p, 0, none⟩)), Facts.PredR.is (.pointer (some ⟨p, 1, none⟩)), Facts.PredR.is (.pointer (some ⟨g, 0, none⟩)), Facts.PredR.is (.pointer (some ⟨p, 0, none⟩)), Facts.PredR.is (.pointer (some ⟨p, 0, none⟩)), Facts.PredR.is (.pointer (some ⟨p, 2, none⟩)), Facts.PredR.is (.pointer (some ⟨mb, 0, none⟩)), PTk, PTk, PTa, Facts.PredR.is (.int .i64 0), PPt, Facts.PredR.any, Facts.PredR.is (.int .i64 0)] ?_ ?_ ?_
  · exact ⟨J17.start w1 wa mb tb HS.out.frame, ⟨(fun h => by cases h), fun h => by cases h⟩⟩
  · refine ⟨?_, ?_, ?_, ?_, ?_, ?_, ?_, ?_, ?_, ?_, ?_, ?_, ?_, ?_, ?_, ?_, ?_, ?_, ?_, trivial⟩
    · refine Facts.stepI_is (.pointer (some ⟨p, 0, none⟩)) (fun _ => trivial) fun s a W hsz hsj hwt hI hold hnew => ?_
      have f1 : a.tmps.getD 1 undef = .pointer (some ⟨p, 0, none⟩) := hold 1 (by kernel_rfl)
      refine ⟨Facts.wanted_free rfl, ?_, ⟨by simpa using hI.1, by simpa using hI.2.put (d := some 15) (by decide) _⟩, fun _ => rfl⟩
      simp [go_sem, Act.eval, f1]
    · refine Facts.stepI_is (.pointer (some ⟨p, 0, none⟩)) (fun _ => trivial) fun s a W hsz hsj hwt hI hold hnew => ?_
      have f15 : a.tmps.getD 15 undef = .pointer (some ⟨p, 0, none⟩) := hnew 0 15 (by kernel_rfl)
      refine ⟨Facts.wanted_free rfl, ?_, ⟨by simpa using hI.1, by simpa using hI.2.put (d := some 16) (by decide) _⟩, fun _ => rfl⟩
      simp [go_sem, Act.eval, f15]
    · refine Facts.stepI_is (.pointer (some ⟨p, 3, none⟩)) (fun _ => trivial) fun s a W hsz hsj hwt hI hold hnew => ?_
      have f16 : a.tmps.getD 16 undef = .pointer (some ⟨p, 0, none⟩) := hnew 1 16 (by kernel_rfl)
      refine ⟨Facts.wanted_free rfl, ?_, ⟨by simpa using hI.1, by simpa using hI.2.put (d := some 17) (by decide) _⟩, fun _ => rfl⟩
      simp [go_sem, Act.eval, f16]
    · refine Facts.stepI_is (.pointer (some ⟨tb, 0, none⟩)) (fun _ => trivial) fun s a W hsz hsj hwt hI hold hnew => ?_
      have f17 : a.tmps.getD 17 undef = .pointer (some ⟨p, 3, none⟩) := hnew 2 17 (by kernel_rfl)
      obtain ⟨k0, k1, k2, k3⟩ := CE.out W hI.1.be
      refine ⟨Facts.wanted_free rfl, ?_, ⟨by simpa using hI.1, by simpa using hI.2.put (d := some 18) (by decide) _⟩, fun _ => rfl⟩
      simp [go_sem, Act.eval, f17, k3]
    · refine Facts.stepI_is (.pointer (some ⟨p, 0, none⟩)) (fun _ => trivial) fun s a W hsz hsj hwt hI hold hnew => ?_
      have f1 : a.tmps.getD 1 undef = .pointer (some ⟨p, 0, none⟩) := hold 1 (by kernel_rfl)
      refine ⟨Facts.wanted_free rfl, ?_, ⟨by simpa using hI.1, by simpa using hI.2.put (d := some 19) (by decide) _⟩, fun _ => rfl⟩
      simp [go_sem, Act.eval, f1]
    · refine Facts.stepI_is (.pointer (some ⟨p, 0, none⟩)) (fun _ => trivial) fun s a W hsz hsj hwt hI hold hnew => ?_
      have f19 : a.tmps.getD 19 undef = .pointer (some ⟨p, 0, none⟩) := hnew 4 19 (by kernel_rfl)
      refine ⟨Facts.wanted_free rfl, ?_, ⟨by simpa using hI.1, by simpa using hI.2.put (d := some 20) (by decide) _⟩, fun _ => rfl⟩
      simp [go_sem, Act.eval, f19]
    · refine Facts.stepI_is (.pointer (some ⟨p, 1, none⟩)) (fun _ => trivial) fun s a W hsz hsj hwt hI hold hnew => ?_
      have f20 : a.tmps.getD 20 undef = .pointer (some ⟨p, 0, none⟩) := hnew 5 20 (by kernel_rfl)
      refine ⟨Facts.wanted_free rfl, ?_, ⟨by simpa using hI.1, by simpa using hI.2.put (d := some 21) (by decide) _⟩, fun _ => rfl⟩
      simp [go_sem, Act.eval, f20]
    · refine Facts.stepI_is (.pointer (some ⟨g, 0, none⟩)) (fun _ => trivial) fun s a W hsz hsj hwt hI hold hnew => ?_
      have f21 : a.tmps.getD 21 undef = .pointer (some ⟨p, 1, none⟩) := hnew 6 21 (by kernel_rfl)
      obtain ⟨k0, k1, k2, k3⟩ := CE.out W hI.1.be
      refine ⟨Facts.wanted_free rfl, ?_, ⟨by simpa using hI.1, by simpa using hI.2.put (d := some 22) (by decide) _⟩, fun _ => rfl⟩
      simp [go_sem, Act.eval, f21, k1]
    · refine Facts.stepI_is (.pointer (some ⟨p, 0, none⟩)) (fun _ => trivial) fun s a W hsz hsj hwt hI hold hnew => ?_
      have f1 : a.tmps.getD 1 undef = .pointer (some ⟨p, 0, none⟩) := hold 1 (by kernel_rfl)
      refine ⟨Facts.wanted_free rfl, ?_, ⟨by simpa using hI.1, by simpa using hI.2.put (d := some 23) (by decide) _⟩, fun _ => rfl⟩
      simp [go_sem, Act.eval, f1]
    · refine Facts.stepI_is (.pointer (some ⟨p, 0, none⟩)) (fun _ => trivial) fun s a W hsz hsj hwt hI hold hnew => ?_
      have f23 : a.tmps.getD 23 undef = .pointer (some ⟨p, 0, none⟩) := hnew 8 23 (by kernel_rfl)
      refine ⟨Facts.wanted_free rfl, ?_, ⟨by simpa using hI.1, by simpa using hI.2.put (d := some 24) (by decide) _⟩, fun _ => rfl⟩
      simp [go_sem, Act.eval, f23]
    · refine Facts.stepI_is (.pointer (some ⟨p, 2, none⟩)) (fun _ => trivial) fun s a W hsz hsj hwt hI hold hnew => ?_
      have f24 : a.tmps.getD 24 undef = .pointer (some ⟨p, 0, none⟩) := hnew 9 24 (by kernel_rfl)
      refine ⟨Facts.wanted_free rfl, ?_, ⟨by simpa using hI.1, by simpa using hI.2.put (d := some 25) (by decide) _⟩, fun _ => rfl⟩
      simp [go_sem, Act.eval, f24]
    · refine Facts.stepI_is (.pointer (some ⟨mb, 0, none⟩)) (fun _ => trivial) fun s a W hsz hsj hwt hI hold hnew => ?_
      have f25 : a.tmps.getD 25 undef = .pointer (some ⟨p, 2, none⟩) := hnew 10 25 (by kernel_rfl)
      obtain ⟨k0, k1, k2, k3⟩ := CE.out W hI.1.be
      refine ⟨Facts.wanted_free rfl, ?_, ⟨by simpa using hI.1, by simpa using hI.2.put (d := some 26) (by decide) _⟩, fun _ => rfl⟩
      simp [go_sem, Act.eval, f25, k2]
    · refine Facts.stepI_call fun s a W hsz hsj hwt hI hold hnew => ?_
      have f18 : a.tmps.getD 18 undef = .pointer (some ⟨tb, 0, none⟩) := hnew 3 18 (by kernel_rfl)
      have f22 : a.tmps.getD 22 undef = .pointer (some ⟨g, 0, none⟩) := hnew 7 22 (by kernel_rfl)
      have f26 : a.tmps.getD 26 undef = .pointer (some ⟨mb, 0, none⟩) := hnew 11 26 (by kernel_rfl)
      simp only [hsj] at hI
      refine ⟨Facts.wanted_free rfl, 8, #[.pointer (some ⟨tb, 0, none⟩), .pointer (some ⟨g, 0, none⟩), .pointer (some ⟨mb, 0, none⟩), .int .i64 1], by simp [go_sem, Act.eval, f18, f22, f26], ?_⟩
      refine (BG.out W (hI.1.low rfl)).mono ?_
      rintro e w8 ⟨X, rfl, hX, h1, h2, h3⟩
      exact ⟨_, rfl, ⟨by simpa using (⟨hI.1.be.trans h1 (fun k hk => .inl hk), h2, (fun h => by cases h), fun _ => h3⟩ : J17 w1 wa mb tb true w8), by simpa using (hI.2.keep h1 (by have := HP.out; simp; omega)).put (d := some 27) (by decide) _⟩, trivial, X, rfl, hX⟩
    · refine Facts.stepI_new fun s a W hsz hsj hwt hI hold hnew => ?_
      have h27 : ∃ X : Array Value, a.tmps.getD 27 undef = .tuple #[.agg X, .int .i64 0] ∧ L17 X := hnew 12 27 (by kernel_rfl)
      obtain ⟨X, f27, hX⟩ := h27
      exact ⟨Facts.wanted_free rfl, .tuple #[.agg X, .int .i64 0], W, by simp [go_sem, Act.eval, f27], ⟨by simpa using hI.1, by simpa using hI.2.put (d := some 14) (by decide) _⟩, (fun _ => trivial) W, ⟨X, rfl, hX⟩⟩
    · refine Facts.stepI_new fun s a W hsz hsj hwt hI hold hnew => ?_
      have h14 : ∃ X : Array Value, a.tmps.getD 14 undef = .tuple #[.agg X, .int .i64 0] ∧ L17 X := hnew 13 14 (by kernel_rfl)
      obtain ⟨X, f14, hX⟩ := h14
      exact ⟨Facts.wanted_free rfl, .agg X, W, by simp [go_sem, Act.eval, f14], ⟨by simpa using hI.1, by simpa using hI.2.put (d := some 28) (by decide) _⟩, (fun _ => trivial) W, ⟨X, rfl, hX⟩⟩
    · refine Facts.stepI_is (.int .i64 0) (fun _ => trivial) fun s a W hsz hsj hwt hI hold hnew => ?_
      have h14 : ∃ X : Array Value, a.tmps.getD 14 undef = .tuple #[.agg X, .int .i64 0] ∧ L17 X := hnew 13 14 (by kernel_rfl)
      obtain ⟨X, f14, hX⟩ := h14
      refine ⟨Facts.wanted_free rfl, ?_, ⟨by simpa using hI.1, by simpa using hI.2.put (d := some 29) (by decide) _⟩, fun _ => rfl⟩
      simp [go_sem, Act.eval, f14]
    · refine Facts.stepI_new fun s a W hsz hsj hwt hI hold hnew => ?_
      simp only [hsj] at hI
      exact ⟨Facts.wanted_free rfl, .pointer (some ⟨W.heap.size, 0, none⟩), W.alloc (.cells lzero 31), by simp [go_sem, Act.eval, lzero], ⟨by simpa using hI.1.alloc (.cells lzero 31), by simpa using hI.2.made hI.1.be.size (by simpa using hsz)⟩, trivial, W.heap.size, rfl⟩
    · refine Facts.stepI_store fun s a W hsz hsj hwt hI hold hnew => ?_
      have h2 : ∃ b, a.tmps.getD 2 undef = .pointer (some ⟨b, 0, none⟩) := hnew 16 2 (by kernel_rfl)
      obtain ⟨b2, f2⟩ := h2
      have h28 : ∃ X : Array Value, a.tmps.getD 28 undef = .agg X ∧ L17 X := hnew 14 28 (by kernel_rfl)
      obtain ⟨X, f28, hX⟩ := h28
      have hs16 := hwt 16 (by kernel_rfl)
      obtain ⟨b9, X9, e9, hge, hx9, h14, -⟩ := hI.2.box hs16
      have e92 := ptr_one (e9.symm.trans f2)
      rw [e92] at hge hx9
      have hB := hI.2
      rw [hs16] at hB
      exact ⟨Facts.wanted_free rfl, _, Facts.exec_putRow 31 (.tmp 2) (.tmp 28) rfl b2 31 X9 X f2 f28 hx9 (by obtain ⟨A, n, c, A2, n2, c2, rfl⟩ := hX; kernel_rfl) (by obtain ⟨A, n, c, A2, n2, c2, rfl⟩ := hX; exact h14) (by obtain ⟨A, n, c, A2, n2, c2, rfl⟩ := hX; simp [lrow, Value.oneCell']), ⟨by simpa using hI.1.stored hge HP.out HS.out.frame.size, by simpa [hs16] using (hB.stored f2 hx9 hX).put (d := none) (by decide) _⟩, trivial, trivial⟩
    · refine Facts.stepI_is (.int .i64 0) (fun _ => trivial) fun s a W hsz hsj hwt hI hold hnew => ?_
      have f29 : a.tmps.getD 29 undef = .int .i64 0 := hnew 15 29 (by kernel_rfl)
      refine ⟨Facts.wanted_free rfl, ?_, ⟨by simpa using hI.1, by simpa using hI.2.put (d := some 3) (by decide) _⟩, fun _ => rfl⟩
      simp [go_sem, Act.eval, f29]
  · intro a w4 hI hsize hdef hnew hold
    have h2 : ∃ b, a.tmps.getD 2 undef = .pointer (some ⟨b, 0, none⟩) := hnew 16 2 (by kernel_rfl)
    obtain ⟨b2, f2⟩ := h2
    have f3 : a.tmps.getD 3 undef = .int .i64 0 := hnew 18 3 (by kernel_rfl)
    have f1 : a.tmps.getD 1 undef = Value.pointer (some ⟨p, 0, none⟩) := hold 1 (Facts.not_dst (by kernel_rfl))
    obtain ⟨tm, df⟩ := a
    simp only [] at hdef hsize f1 f2 f3
    obtain ⟨xq, hxq, hlit⟩ := Facts.lits tm hsize Facts.idx59 Facts.idx59_eq
    rw [hxq] at f1 f2 f3
    simp only [Facts.idx59, List.map_cons, List.map_nil, f1, f2, f3] at hlit
    clear f1 f2 f3 hsize hnew hold hxq
    subst hlit
    subst hdef
    try simp only []
    obtain ⟨b9, Y, e9, hb2, hW4, -, hL⟩ := hI.2.box (by decide)
    obtain rfl : b2 = b9 := ptr_one e9
    obtain ⟨A, n, c, A2, n2, c2, rfl⟩ := hL (by decide)
    have hwa := HS.out.frame.size
    have FIN := Lib.hid (HS.out.fr.below.trans (hI.1.fr.mono HS.out.fr.below.size))
    obtain ⟨d0, d1, d2, d3⟩ := CE.out w4 hI.1.be
    unfold lrow at hW4
    obtain ⟨⟨k0, k1, k2, k3, k4, k5, k6⟩, -⟩ := box14 hW4
    have SER := Lib.hid (serial_t tb 11 w4 (hI.1.tk (by decide)))
    clear hW4 hI hL hb2 e9
    go_wp2_with fail
    refine SER.out.mono ?_
    rintro e w5 ⟨rfl, rfl⟩
    go_wp2
    go_ret
    exact ⟨rfl, FIN.out⟩
end Go.Proofs.YtinjbdgjcadodaaGreatDoor.St
namespace Go.Proofs.YtinjbdgjcadodaaGreatDoor.Vec
open Go Go.RowKit Go.Proofs.YtinjbdgjcadodaaGreatDoor.Words
set_option linter.unusedVariables false
set_option linter.unusedSimpArgs false
set_option maxRecDepth 100000 in
/-- Two vectors with the same numbers are one. -/
theorem sameV_new (A B : Option Addr) (n c m d : Nat) (a b : List Nat) (w : World) (ha : SeesU w A n a) (hb : SeesU w B m b) (hn : n ≤ 900000) (hm : m ≤ 900000) (hab : ∀ i, at_ a i = at_ b i) :
    Calls Tryz.prog 16 #[.slice A n c, .slice B m d] w fun e w' => e = .returned (.bool true) ∧ w' = w := by
  have HAB := Lib.hid hab
  clear hab
  have GA := Lib.hid (fun i => refGet_any A n c a i w ha)
  have GB := Lib.hid (fun i => refGet_any B m d b i w hb)
  clear ha hb
  go_enter Tryz.func16, Tryz.ntmps16
  go_wp2_with fail
  go_loop [5] (fun v => ∃ j : Nat, v = .int .i64 (j : Int) ∧ j ≤ 900000) (fun v => n + m - (intOf v).toNat)
  case atStart => exact ⟨0, rfl, by omega⟩
  case round =>
    obtain ⟨j, rfl, hj⟩ := hrel
    have hab := HAB.out j
    have GA1 := Lib.hid (GA.out j)
    have GB1 := Lib.hid (GB.out j)
    rw [← hab] at GB1
    clear hab
    generalize at_ a j = x at GA1 GB1
    by_cases h1 : j < n
    · have d1 : decide ((j : Int) < (n : Int)) = true := decide_eq_true (by omega)
      have d2 : decide ((j : Int) < (n : Int) ∨ (j : Int) < (m : Int)) = true := decide_eq_true (by omega)
      go_wp2_with fail
      refine GA1.out.mono ?_
      rintro e w1 ⟨rfl, hw1⟩
      subst hw1
      go_wp2_with fail
      refine GB1.out.mono ?_
      rintro e w1 ⟨rfl, hw1⟩
      subst hw1
      go_wp2
      go_round
      case rel => exact ⟨j + 1, rfl, by omega⟩
      case measure => simp [intOf]; omega
    · by_cases h2 : j < m
      · go_wp2_with fail
        refine GA1.out.mono ?_
        rintro e w1 ⟨rfl, hw1⟩
        subst hw1
        go_wp2_with fail
        refine GB1.out.mono ?_
        rintro e w1 ⟨rfl, hw1⟩
        subst hw1
        go_wp2
        go_round
        case rel => exact ⟨j + 1, rfl, by omega⟩
        case measure => simp [intOf]; omega
      · go_wp2
        go_ret
        exact ⟨rfl, rfl⟩
end Go.Proofs.YtinjbdgjcadodaaGreatDoor.Vec
