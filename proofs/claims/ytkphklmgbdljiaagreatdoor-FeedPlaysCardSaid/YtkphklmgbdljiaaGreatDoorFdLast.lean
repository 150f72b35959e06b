/- feed: the last event; Sealed, Time, All. -/
import Derived.Test.YtkphklmgbdljiaaGreatDoorFdRead
namespace Go.Proofs.YtkphklmgbdljiaaGreatDoor.Fd
open Go Go.RowKit Go.Proofs.YtkphklmgbdljiaaGreatDoor.Words Go.Proofs.YtkphklmgbdljiaaGreatDoor.Enc Go.Proofs.YtkphklmgbdljiaaGreatDoor.Evt Go.Proofs.YtkphklmgbdljiaaGreatDoor.Made Go.Proofs.YtkphklmgbdljiaaGreatDoor.Dsk Go.Proofs.YtkphklmgbdljiaaGreatDoor.Sht Go.Proofs.YtkphklmgbdljiaaGreatDoor.Seg
set_option linter.unusedVariables false
set_option linter.unusedSimpArgs false

def LastNone (w : World) (e : Ending) (w' : World) : Prop := e = .returned (.tuple #[zeroEv, .bool false]) ∧ Below w.heap.size w w'
def LastSome (O : List Nat) (ev : Ev) (w : World) (e : Ending) (w' : World) : Prop :=
  ∃ r : EvS, e = .returned (.tuple #[r.e.val r.A r.n r.c, .bool true]) ∧ r.e = ev ∧ TextOk O w' r ∧ Below w.heap.size w w'

set_option maxRecDepth 100000 in
theorem last_none (V : Value) (nx : Nat) (E : Int) (w : World) (hE : E ≠ 0) (hnx : 1 ≤ nx ∧ nx < 18446744073709551616)
    (hn : ∀ W, Below w.heap.size w W → Calls Tryz.prog 17 #[V] W fun e w' => e = .returned (.int .u64 (nx : Int)) ∧ Below W.heap.size W w')
    (hg : ∀ W, Below w.heap.size w W → Calls Tryz.prog 18 #[V, .int .u64 ((nx - 1 : Nat) : Int)] W fun e w' => e = .returned (.tuple #[zeroEv, .int .i64 E]) ∧ Below W.heap.size W w') :
    Calls Tryz.prog 41 #[V] w (LastNone w) := by
  have hsf := store_float Tryz.prog
  have hE1 : (E == 0) = false := by rw [beq_eq_false_iff_ne]; exact hE
  have hw : IntKind.u64.wrap ((nx : Int) - 1) = ((nx - 1 : Nat) : Int) := by rw [IntKind.wrap_u64]; omega
  generalize nx - 1 = n1 at *
  have HN := Lib.hid hn
  have HG := Lib.hid hg
  have g0 := heap_alloc_new w (.cells zeroRow 37)
  have b0 := (Below.refl w.heap.size w).alloc (Nat.le_refl _) (.cells zeroRow 37)
  clear hn hg hnx hE
  unfold zeroRow at g0 b0
  go_enter Tryz.func41, Tryz.ntmps41
  go_wp2_with fail
  refine (HN.out _ b0).mono ?_
  rintro e w1 ⟨rfl, hb1⟩
  have g1 := (hb1.block w.heap.size (Array.getElem?_eq_some_iff.1 g0).1).trans g0
  have b1 := b0.trans (hb1.mono b0.size)
  clear g0 b0 hb1
  go_wp2_with fail
  refine (HG.out _ b1).mono ?_
  rintro e w2 ⟨rfl, hb2⟩
  have g2 := (hb2.block w.heap.size (Array.getElem?_eq_some_iff.1 g1).1).trans g1
  have b2 := b1.trans (hb2.mono b1.size)
  have hlt2 := (Array.getElem?_eq_some_iff.1 g2).1
  unfold zeroEv
  have g3 : (w2.alloc (.cells zeroRow 37)).heap[w2.heap.size]? = _ := heap_alloc_new w2 (.cells zeroRow 37)
  have q3 : (w2.alloc (.cells zeroRow 37)).heap[w.heap.size]? = _ := (Below.heap_alloc _ _ _ hlt2).trans g2
  have b3 := b2.alloc b2.size (.cells zeroRow 37)
  unfold zeroRow at g3 q3 b3
  have hne : ¬ w.heap.size = w2.heap.size := by omega
  have hne2 : ¬ w2.heap.size = w.heap.size := by omega
  have G3 := Lib.hid g3
  have Q3 := Lib.hid q3
  have B3 := Lib.hid b3
  clear g3 q3 b3 g1 b1 hb2 g2 b2
  go_wp2_with (first
    | (refine wpList_putRow rfl 37 (.tmp 4) (.tmp 12) rfl w2.heap.size 37 zeroRow zeroRow rfl rfl ?g1 (by kernel_rfl) rfl (by simp [zeroRow, Value.oneCell']) ?_))
  case g1 => unfold zeroRow; exact G3.out
  intro W3 hW3 hbe3
  have q4 := (hbe3.block w.heap.size (Array.getElem?_eq_some_iff.1 Q3.out).1 (by simp; omega)).trans Q3.out
  have b4 : Below w.heap.size w W3 := Below.beside B3.out hbe3 B3.out.size (by simp; omega)
  have G4 := Lib.hid hW3
  have Q4 := Lib.hid q4
  have B4 := Lib.hid b4
  clear hW3 hbe3 q4 b4 G3 Q3 B3
  go_wp2_with (first
    | (refine wpList_getRow rfl 37 (.tmp 4) rfl w2.heap.size 37 zeroRow (0, 0) _ rfl ?g1 Tryz.underlying37 rfl (by kernel_rfl) ?_)
    | (refine wpList_putRow rfl 37 (.tmp 2) (.tmp 14) rfl w.heap.size 37 zeroRow zeroRow rfl rfl ?g2 (by kernel_rfl) rfl (by simp [zeroRow, Value.oneCell']) ?_))
  case g1 => exact G4.out
  case g2 => exact Q4.out
  intro W5 hW5 hbe5
  unfold zeroRow at hW5
  obtain ⟨k0, k1, k2, k3, k4, k5, k6, k7⟩ := box8 hW5
  have B5 := Lib.hid (Below.beside B4.out hbe5 B4.out.size (by simp))
  clear hW5 hbe5 G4 Q4 B4
  go_wp2
  refine bodyPost_ret (v := .tuple #[zeroEv, .bool false]) ?_ rfl ⟨rfl, B5.out⟩
  simp [results, zeroEv, Tryz.results41, go_sem, k0, k1, k2, k3, k4, k5, k6, k7]

set_option maxRecDepth 100000 in
theorem last_some (O : List Nat) (V : Value) (nx : Nat) (ev : Ev) (w : World) (hnx : 1 ≤ nx ∧ nx < 18446744073709551616)
    (hn : ∀ W, Below w.heap.size w W → Calls Tryz.prog 17 #[V] W fun e w' => e = .returned (.int .u64 (nx : Int)) ∧ Below W.heap.size W w')
    (hg : ∀ W, Below w.heap.size w W → w.heap.size < W.heap.size → Calls Tryz.prog 18 #[V, .int .u64 ((nx - 1 : Nat) : Int)] W (GetGives (O ++ [w.heap.size]) ev W)) :
    Calls Tryz.prog 41 #[V] w (LastSome O ev w) := by
  have hsf := store_float Tryz.prog
  have hw : IntKind.u64.wrap ((nx : Int) - 1) = ((nx - 1 : Nat) : Int) := by rw [IntKind.wrap_u64]; omega
  generalize nx - 1 = n1 at *
  have HN := Lib.hid hn
  have HG := Lib.hid hg
  have g0 := heap_alloc_new w (.cells zeroRow 37)
  have b0 := (Below.refl w.heap.size w).alloc (Nat.le_refl _) (.cells zeroRow 37)
  clear hn hg hnx
  unfold zeroRow at g0 b0
  go_enter Tryz.func41, Tryz.ntmps41
  go_wp2_with fail
  refine (HN.out _ b0).mono ?_
  rintro e w1 ⟨rfl, hb1⟩
  have g1 := (hb1.block w.heap.size (Array.getElem?_eq_some_iff.1 g0).1).trans g0
  have b1 := b0.trans (hb1.mono b0.size)
  have hlt1 := (Array.getElem?_eq_some_iff.1 g1).1
  clear g0 b0 hb1
  go_wp2_with fail
  refine (HG.out _ b1 hlt1).mono ?_
  rintro e w2 ⟨r, rfl, hre, htx, hb2⟩
  have g2 := (hb2.block w.heap.size (Array.getElem?_eq_some_iff.1 g1).1).trans g1
  have b2 := b1.trans (hb2.mono b1.size)
  have hlt2 := (Array.getElem?_eq_some_iff.1 g2).1
  have g3 : (w2.alloc (.cells zeroRow 37)).heap[w2.heap.size]? = _ := heap_alloc_new w2 (.cells zeroRow 37)
  have q3 : (w2.alloc (.cells zeroRow 37)).heap[w.heap.size]? = _ := (Below.heap_alloc _ _ _ hlt2).trans g2
  have b3 := b2.alloc b2.size (.cells zeroRow 37)
  have t3 := htx.next (B' := (O ++ [w.heap.size]) ++ [w2.heap.size]) (Beside.of_below ((Below.refl w2.heap.size w2).alloc (Nat.le_refl _) (.cells zeroRow 37)) _) (fun k hk => by
    rcases List.mem_append.1 hk with hk | hk
    · exact .inl hk
    · simp at hk; subst hk; exact .inr (Nat.le_refl _))
  unfold zeroRow at g3 q3 b3 t3
  have hne : ¬ w.heap.size = w2.heap.size := by omega
  have hne2 : ¬ w2.heap.size = w.heap.size := by omega
  have G3 := Lib.hid g3
  have Q3 := Lib.hid q3
  have B3 := Lib.hid b3
  have T3 := Lib.hid t3
  have HRE := Lib.hid hre
  clear g3 q3 b3 g1 b1 hb2 g2 b2 t3 htx hre
  go_wp2_with (first
    | (refine wpList_putRow rfl 37 (.tmp 4) (.tmp 12) rfl w2.heap.size 37 zeroRow (r.e.row r.A r.n r.c) rfl rfl ?g1 (by kernel_rfl) rfl (by simp [Ev.row, Value.oneCell']) ?_))
  case g1 => unfold zeroRow; exact G3.out
  intro W3 hW3 hbe3
  have q4 := (hbe3.block w.heap.size (Array.getElem?_eq_some_iff.1 Q3.out).1 (by simp; omega)).trans Q3.out
  have b4 : Below w.heap.size w W3 := Below.beside B3.out hbe3 B3.out.size (by simp; omega)
  have T4 := Lib.hid (T3.out.1.beside hbe3 (fun hn a ha hm => T3.out.2.2.2 hn a ha (List.mem_append.2 (.inr hm))))
  have G4 := Lib.hid hW3
  have Q4 := Lib.hid q4
  have B4 := Lib.hid b4
  clear hW3 hbe3 q4 b4 G3 Q3 B3
  go_wp2_with (first
    | (refine wpList_getRow rfl 37 (.tmp 4) rfl w2.heap.size 37 (r.e.row r.A r.n r.c) (0, 0) _ rfl ?g1 Tryz.underlying37 rfl (by kernel_rfl) ?_)
    | (refine wpList_putRow rfl 37 (.tmp 2) (.tmp 14) rfl w.heap.size 37 zeroRow (r.e.row r.A r.n r.c) rfl rfl ?g2 (by kernel_rfl) rfl (by simp [Ev.row, Value.oneCell']) ?_))
  case g1 => exact G4.out
  case g2 => exact Q4.out
  intro W5 hW5 hbe5
  unfold Ev.row at hW5
  obtain ⟨k0, k1, k2, k3, k4, k5, k6, k7⟩ := box8 hW5
  have B5 := Lib.hid (Below.beside B4.out hbe5 B4.out.size (by simp))
  have T5 := Lib.hid (show TextOk O W5 r from ⟨T4.out.beside hbe5 (fun hn a ha hm => T3.out.2.2.2 hn a ha (List.mem_append.2 (.inl (List.mem_append.2 (.inr hm))))), T3.out.2.1, T3.out.2.2.1, fun hn a ha hm => T3.out.2.2.2 hn a ha (List.mem_append.2 (.inl (List.mem_append.2 (.inl hm))))⟩)
  clear hW5 hbe5 G4 Q4 B4
  go_wp2
  refine bodyPost_ret (v := .tuple #[r.e.val r.A r.n r.c, .bool true]) ?_ rfl ⟨r, rfl, HRE.out, T5.out, B5.out⟩
  simp [results, Ev.val, Ev.row, Tryz.results41, go_sem, k0, k1, k2, k3, k4, k5, k6, k7]

/-- The last event of a feed in which all are folded. -/
theorem lastF_none [Inhabited XS] (d f x : Nat) (sz : Int) (floor time : Nat) (P : List Part) (safe : Nat) (O : List Nat) (h : Hd) (u0 : Nat) (w : World) (F : Feed w d f x sz floor time P safe O h) (G : Good x floor u0 P) (he : u0 + (evsP P).length = floor + 1) :
    Calls Tryz.prog 41 #[.pointer (some ⟨f, 0, none⟩)] w (LastNone w) := by
  have hf := G.few
  refine last_none _ (floor + 1) (if floor = 0 then 2 else 13) w (by split <;> omega) (by omega) (fun W hW => ?_) (fun W hW => ?_)
  · have := nextF_any d f x sz floor time P safe O h u0 W (F.below hW) G
    rw [he] at this
    exact this
  · by_cases h0 : floor = 0
    · subst h0
      exact get_err _ _ 2 W (by omega) fun W2 hW2 => range_zero d f x sz 0 time P safe O h 1 W2 ((F.below hW).below hW2)
    · rw [if_neg h0]
      exact get_err _ _ 13 W (by omega) fun W2 hW2 => range_low d f x sz floor time P safe O h floor 1 W2 ((F.below hW).below hW2) (by omega) (Nat.le_refl _)
theorem lastF_some [Inhabited XS] (d f x : Nat) (sz : Int) (floor time : Nat) (P : List Part) (safe : Nat) (O : List Nat) (h : Hd) (u0 : Nat) (ev : Ev) (w : World) (F : Feed w d f x sz floor time P safe O h) (G : Good x floor u0 P) (he : floor + 1 < u0 + (evsP P).length) (hl : (evsP P)[(evsP P).length - 1]? = some ev) :
    Calls Tryz.prog 41 #[.pointer (some ⟨f, 0, none⟩)] w (LastSome O ev w) := by
  have hf := G.few
  have hlo := G.lo
  have hpos := G.pos
  refine last_some O _ (u0 + (evsP P).length) ev w (by omega) (fun W hW => nextF_any d f x sz floor time P safe O h u0 W (F.below hW) G) (fun W hW hlt => ?_)
  refine get_ok (O ++ [w.heap.size]) _ _ ev W fun W2 hW2 hlt2 => ?_
  have hr := range_in d f x sz floor time P safe O h u0 (u0 + (evsP P).length - 1) 1 [w.heap.size, W.heap.size] w W2 F (hW.trans (hW2.mono hW.size)) (fun k hk => by
    simp at hk
    rcases hk with rfl | rfl
    · exact ⟨Nat.le_refl _, by omega⟩
    · exact ⟨by omega, hlt2⟩) G (by omega) (by omega) (by omega)
  have e1 : cutL (evsP P) (u0 + (evsP P).length - 1 - u0) 1 = [ev] := by
    unfold cutL
    have hlen : 0 < (evsP P).length := by
      rcases Nat.eq_zero_or_pos (evsP P).length with h0 | h0
      · rw [List.eq_nil_of_length_eq_zero h0] at hl; simp at hl
      · exact h0
    rw [show u0 + (evsP P).length - 1 - u0 = (evsP P).length - 1 by omega]
    apply List.ext_getElem?
    intro i
    rw [List.getElem?_take, List.getElem?_drop]
    rcases i with _ | i
    · simpa using hl
    · simp
  rw [e1] at hr
  rw [List.append_assoc]
  exact hr

set_option maxRecDepth 100000 in
theorem sealed_none (V : Value) (w : World) (hl : Calls Tryz.prog 41 #[V] w (LastNone w)) :
    Calls Tryz.prog 23 #[V] w fun e w' => e = .returned (.bool false) ∧ Below w.heap.size w w' := by
  have hsf := store_float Tryz.prog
  have HL := Lib.hid hl
  clear hl
  go_enter Tryz.func23, Tryz.ntmps23
  go_wp2_with fail
  refine HL.out.mono ?_
  rintro e w1 ⟨rfl, hb1⟩
  unfold zeroEv
  have g1 : (w1.alloc (.cells zeroRow 37)).heap[w1.heap.size]? = _ := heap_alloc_new w1 (.cells zeroRow 37)
  have b1 := hb1.alloc hb1.size (.cells zeroRow 37)
  have hz := hb1.size
  unfold zeroRow at g1 b1
  have G1 := Lib.hid g1
  have B1 := Lib.hid b1
  clear g1 b1 hb1
  go_wp2_with (first
    | (refine wpList_putRow rfl 37 (.tmp 3) (.tmp 8) rfl w1.heap.size 37 zeroRow zeroRow rfl rfl ?g1 (by kernel_rfl) rfl (by simp [zeroRow, Value.oneCell']) ?_))
  case g1 => unfold zeroRow; exact G1.out
  intro W3 hW3 hbe3
  have B3 := Lib.hid (Below.beside B1.out hbe3 B1.out.size (by simp; omega))
  clear hbe3 hW3 B1 G1
  go_wp2
  go_ret
  exact ⟨rfl, B3.out⟩
set_option maxRecDepth 100000 in
theorem sealed_some (O : List Nat) (ev : Ev) (V : Value) (w : World) (hk : ev.kind ≤ 5) (hl : Calls Tryz.prog 41 #[V] w (LastSome O ev w)) :
    Calls Tryz.prog 23 #[V] w fun e w' => e = .returned (.bool false) ∧ Below w.heap.size w w' := by
  have hsf := store_float Tryz.prog
  have HL := Lib.hid hl
  clear hl
  go_enter Tryz.func23, Tryz.ntmps23
  go_wp2_with fail
  refine HL.out.mono ?_
  rintro e w1 ⟨r, rfl, hre, _, hb1⟩
  have hkk : ((r.e.kind : Int) == 6) = false := by rw [beq_eq_false_iff_ne, hre]; omega
  have g1 : (w1.alloc (.cells zeroRow 37)).heap[w1.heap.size]? = _ := heap_alloc_new w1 (.cells zeroRow 37)
  have b1 := hb1.alloc hb1.size (.cells zeroRow 37)
  have hz := hb1.size
  unfold zeroRow at g1 b1
  have G1 := Lib.hid g1
  have B1 := Lib.hid b1
  clear g1 b1 hb1 hre
  go_wp2_with (first
    | (refine wpList_putRow rfl 37 (.tmp 3) (.tmp 8) rfl w1.heap.size 37 zeroRow (r.e.row r.A r.n r.c) rfl rfl ?g1 (by kernel_rfl) rfl (by simp [Ev.row, Value.oneCell']) ?_))
  case g1 => unfold zeroRow; exact G1.out
  intro W3 hW3 hbe3
  have B3 := Lib.hid (Below.beside B1.out hbe3 B1.out.size (by simp; omega))
  unfold Ev.row at hW3
  obtain ⟨k0, k1, k2, k3, k4, k5, k6, k7⟩ := box8 hW3
  clear hbe3 hW3 B1 G1 k0 k1 k2 k4 k5 k6 k7
  go_wp2
  go_ret
  exact ⟨rfl, B3.out⟩
set_option maxRecDepth 100000 in
theorem time_none (f time : Nat) (w : World) (g : ∀ W, Below w.heap.size w W → W.cell? ⟨f, 4, none⟩ = some (.int .u64 (time : Int))) (hl : Calls Tryz.prog 41 #[.pointer (some ⟨f, 0, none⟩)] w (LastNone w)) :
    Calls Tryz.prog 21 #[.pointer (some ⟨f, 0, none⟩)] w fun e w' => e = .returned (.int .u64 (time : Int)) ∧ Below w.heap.size w w' := by
  have hsf := store_float Tryz.prog
  have HL := Lib.hid hl
  have HG := Lib.hid g
  clear hl g
  go_enter Tryz.func21, Tryz.ntmps21
  go_wp2_with fail
  refine HL.out.mono ?_
  rintro e w1 ⟨rfl, hb1⟩
  unfold zeroEv
  have g1 : (w1.alloc (.cells zeroRow 37)).heap[w1.heap.size]? = _ := heap_alloc_new w1 (.cells zeroRow 37)
  have b1 := hb1.alloc hb1.size (.cells zeroRow 37)
  have hz := hb1.size
  unfold zeroRow at g1 b1
  have G1 := Lib.hid g1
  have B1 := Lib.hid b1
  clear g1 b1 hb1
  go_wp2_with (first
    | (refine wpList_putRow rfl 37 (.tmp 3) (.tmp 10) rfl w1.heap.size 37 zeroRow zeroRow rfl rfl ?g1 (by kernel_rfl) rfl (by simp [zeroRow, Value.oneCell']) ?_))
  case g1 => unfold zeroRow; exact G1.out
  intro W3 hW3 hbe3
  have b3 := Below.beside B1.out hbe3 B1.out.size (by simp; omega)
  have c4 := HG.out W3 b3
  have B3 := Lib.hid b3
  clear hbe3 hW3 B1 G1 b3
  go_wp2
  go_ret
  exact ⟨rfl, B3.out⟩
set_option maxRecDepth 100000 in
theorem time_some (O : List Nat) (ev : Ev) (f : Nat) (w : World) (hl : Calls Tryz.prog 41 #[.pointer (some ⟨f, 0, none⟩)] w (LastSome O ev w)) :
    Calls Tryz.prog 21 #[.pointer (some ⟨f, 0, none⟩)] w fun e w' => e = .returned (.int .u64 (ev.time : Int)) ∧ Below w.heap.size w w' := by
  have hsf := store_float Tryz.prog
  have HL := Lib.hid hl
  clear hl
  go_enter Tryz.func21, Tryz.ntmps21
  go_wp2_with fail
  refine HL.out.mono ?_
  rintro e w1 ⟨r, rfl, hre, _, hb1⟩
  have g1 : (w1.alloc (.cells zeroRow 37)).heap[w1.heap.size]? = _ := heap_alloc_new w1 (.cells zeroRow 37)
  have b1 := hb1.alloc hb1.size (.cells zeroRow 37)
  have hz := hb1.size
  unfold zeroRow at g1 b1
  have G1 := Lib.hid g1
  have B1 := Lib.hid b1
  have HRE := Lib.hid hre
  clear g1 b1 hb1 hre
  go_wp2_with (first
    | (refine wpList_putRow rfl 37 (.tmp 3) (.tmp 10) rfl w1.heap.size 37 zeroRow (r.e.row r.A r.n r.c) rfl rfl ?g1 (by kernel_rfl) rfl (by simp [Ev.row, Value.oneCell']) ?_))
  case g1 => unfold zeroRow; exact G1.out
  intro W3 hW3 hbe3
  have B3 := Lib.hid (Below.beside B1.out hbe3 B1.out.size (by simp; omega))
  unfold Ev.row at hW3
  obtain ⟨k0, k1, k2, k3, k4, k5, k6, k7⟩ := box8 hW3
  clear hbe3 hW3 B1 G1 k0 k1 k3 k4 k5 k6 k7
  go_wp2
  go_ret
  exact ⟨by rw [HRE.out]; rfl, B3.out⟩
end Go.Proofs.YtkphklmgbdljiaaGreatDoor.Fd
