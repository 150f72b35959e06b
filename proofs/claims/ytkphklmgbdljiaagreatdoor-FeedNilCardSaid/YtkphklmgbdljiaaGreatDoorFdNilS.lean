/- FeedNil, walked. -/
import Derived.Test.YtkphklmgbdljiaaGreatDoorFdNil
import Derived.Test.YtkphklmgbdljiaaGreatDoorBSegMake
import Derived.Test.YtkphklmgbdljiaaGreatDoorBPlain
import Derived.BigQuiet
namespace Go.Proofs.YtkphklmgbdljiaaGreatDoor.Fd
open Go Go.RowKit Go.Proofs.YtkphklmgbdljiaaGreatDoor.Words Go.Proofs.YtkphklmgbdljiaaGreatDoor.Enc Go.Proofs.YtkphklmgbdljiaaGreatDoor.Evt Go.Proofs.YtkphklmgbdljiaaGreatDoor.Made Go.Proofs.YtkphklmgbdljiaaGreatDoor.Dsk Go.Proofs.YtkphklmgbdljiaaGreatDoor.Seg
set_option linter.unusedVariables false
set_option linter.unusedSimpArgs false

theorem below_drewN' (w : World) (d : Nat) : Below w.heap.size w (w.drewN d) := ⟨rfl, rfl, rfl, Nat.le_refl _, fun _ _ => rfl⟩
def zeroRow : Array Value := #[.int .i64 0, .int .u64 0, .int .u64 0, .int .u8 0, .string ⟨#[]⟩, .slice none 0 0, .float .f64 0, .int .i64 0]

set_option maxRecDepth 100000 in
theorem get_nil (n : Int) (w : World) : Calls Tryz.prog 18 #[.pointer none, .int .u64 n] w fun e w' => e = .returned (.tuple #[zeroEv, .int .i64 2]) ∧ Below w.heap.size w w' := by
  have hsf := store_float Tryz.prog
  go_enter Tryz.func18, Tryz.ntmps18
  go_wp2_with fail
  refine (range_nil n 1 _).mono ?_
  rintro e w1 ⟨rfl, rfl⟩
  go_wp2_with (first
    | (refine wpList_putRow rfl 37 (.tmp 4) (.tmp 16) rfl w.heap.size 37 zeroRow zeroRow rfl rfl ?g1 (by kernel_rfl) rfl (by simp [zeroRow, Value.oneCell']) ?_))
  case g1 => exact heap_alloc_new w _
  intro W' hW' hbe
  unfold zeroRow at hW'
  obtain ⟨k0, k1, k2, k3, k4, k5, k6, k7⟩ := box8 hW'
  have hb : Below w.heap.size w W' := Below.beside ((Below.refl w.heap.size w).alloc (Nat.le_refl _) _) hbe (by simp) (by simp)
  have HB := Lib.hid hb
  clear hW' hbe hb
  go_wp2
  refine bodyPost_ret (v := .tuple #[zeroEv, .int .i64 2]) ?_ rfl ⟨rfl, HB.out⟩
  simp [results, zeroEv, Tryz.results18, go_sem, k0, k1, k2, k3, k4, k5, k6, k7]

set_option maxRecDepth 100000 in
theorem last_nil (w : World) : Calls Tryz.prog 41 #[.pointer none] w fun e w' => e = .returned (.tuple #[zeroEv, .bool false]) ∧ Below w.heap.size w w' := by
  have hsf := store_float Tryz.prog
  go_enter Tryz.func41, Tryz.ntmps41
  go_wp2_with fail
  refine (next_nil _).mono ?_
  rintro e w1 ⟨rfl, rfl⟩
  go_wp2_with fail
  have hb0 := (Below.refl w.heap.size w).alloc (Nat.le_refl _) (.cells zeroRow 37)
  have g0 := heap_alloc_new w (.cells zeroRow 37)
  unfold zeroRow at hb0 g0
  generalize w.alloc (.cells #[.int .i64 0, .int .u64 0, .int .u64 0, .int .u8 0, .string ⟨#[]⟩, .slice none 0 0, .float .f64 0, .int .i64 0] 37) = w1 at hb0 g0 ⊢
  refine (get_nil _ w1).mono ?_
  rintro e w2 ⟨rfl, hb2⟩
  have hlt := (Array.getElem?_eq_some_iff.1 g0).1
  have g2 := (hb2.block w.heap.size hlt).trans g0
  have b2 := hb0.trans (hb2.mono hb0.size)
  have hlt2 := (Array.getElem?_eq_some_iff.1 g2).1
  have G2 := Lib.hid g2
  have B2 := Lib.hid b2
  unfold zeroEv
  clear hb0 g0 hb2 g2 b2
  have hne : ¬ w.heap.size = w2.heap.size := by omega
  have hne2 : ¬ w2.heap.size = w.heap.size := by omega
  have g3 : (w2.alloc (.cells zeroRow 37)).heap[w2.heap.size]? = _ := heap_alloc_new w2 (.cells zeroRow 37)
  have q3 : (w2.alloc (.cells zeroRow 37)).heap[w.heap.size]? = _ := (Below.heap_alloc _ _ _ hlt2).trans G2.out
  have b3 := B2.out.alloc B2.out.size (.cells zeroRow 37)
  unfold zeroRow at g3 q3 b3
  have G3 := Lib.hid g3
  have Q3 := Lib.hid q3
  have B3 := Lib.hid b3
  clear g3 q3 b3
  go_wp2_with (first
    | (refine wpList_putRow rfl 37 (.tmp 4) (.tmp 12) rfl w2.heap.size 37 zeroRow zeroRow rfl rfl ?g1 (by kernel_rfl) rfl (by simp [zeroRow, Value.oneCell']) ?_))
  case g1 => unfold zeroRow; exact G3.out
  intro W3 hW3 hbe3
  have q4 := (hbe3.block w.heap.size (Array.getElem?_eq_some_iff.1 Q3.out).1 (by simp; omega)).trans Q3.out
  have b4 : Below w.heap.size w W3 := Below.beside B3.out hbe3 B3.out.size (by simp; omega)
  have G4 := Lib.hid hW3
  have Q4 := Lib.hid q4
  have B4 := Lib.hid b4
  clear hW3 hbe3 q4 b4 G3 Q3 B3
  go_wp2_with (first
    | (refine wpList_getRow rfl 37 (.tmp 4) rfl w2.heap.size 37 zeroRow (0, 0) _ rfl ?g1 Tryz.underlying37 rfl (by kernel_rfl) ?_)
    | (refine wpList_putRow rfl 37 (.tmp 2) (.tmp 14) rfl w.heap.size 37 zeroRow zeroRow rfl rfl ?g2 (by kernel_rfl) rfl (by simp [zeroRow, Value.oneCell']) ?_))
  case g1 => exact G4.out
  case g2 => exact Q4.out
  intro W5 hW5 hbe5
  unfold zeroRow at hW5
  obtain ⟨k0, k1, k2, k3, k4, k5, k6, k7⟩ := box8 hW5
  have B5 := Lib.hid (Below.beside B4.out hbe5 B4.out.size (by simp))
  clear hW5 hbe5 G4 Q4 B4
  go_wp2
  refine bodyPost_ret (v := .tuple #[zeroEv, .bool false]) ?_ rfl ⟨rfl, B5.out⟩
  simp [results, zeroEv, Tryz.results41, go_sem, k0, k1, k2, k3, k4, k5, k6, k7]

set_option maxRecDepth 100000 in
theorem sealed_nil (w : World) : Calls Tryz.prog 23 #[.pointer none] w fun e w' => e = .returned (.bool false) ∧ Below w.heap.size w w' := by
  have hsf := store_float Tryz.prog
  go_enter Tryz.func23, Tryz.ntmps23
  go_wp2_with fail
  refine (last_nil _).mono ?_
  rintro e w1 ⟨rfl, hb1⟩
  unfold zeroEv
  have g1 : (w1.alloc (.cells zeroRow 37)).heap[w1.heap.size]? = _ := heap_alloc_new w1 (.cells zeroRow 37)
  have b1 := hb1.alloc hb1.size (.cells zeroRow 37)
  have hz := hb1.size
  unfold zeroRow at g1 b1
  have G1 := Lib.hid g1
  have B1 := Lib.hid b1
  clear g1 b1 hb1
  go_wp2_with (first
    | (refine wpList_putRow rfl 37 (.tmp 3) (.tmp 8) rfl w1.heap.size 37 zeroRow zeroRow rfl rfl ?g1 (by kernel_rfl) rfl (by simp [zeroRow, Value.oneCell']) ?_))
  case g1 => unfold zeroRow; exact G1.out
  intro W3 hW3 hbe3
  have B3 := Lib.hid (Below.beside B1.out hbe3 B1.out.size (by simp; omega))
  clear hbe3 hW3 B1 G1
  go_wp2
  go_ret
  exact ⟨rfl, B3.out⟩

set_option maxRecDepth 100000 in
theorem add_nil (e : Ev) (A : Option Addr) (n c : Nat) (w : World) : Calls Tryz.prog 10 #[.pointer none, e.val A n c] w fun e w' => e = .returned (.int .i64 2) ∧ Below w.heap.size w w' := by
  unfold Ev.val
  have hb0 := (Below.refl w.heap.size w).alloc (Nat.le_refl _) (.cells (e.row A n c) 37)
  unfold Ev.row at hb0
  go_enter Tryz.func10, Tryz.ntmps10
  go_wp2
  go_ret
  exact ⟨rfl, hb0⟩

set_option maxRecDepth 100000 in
theorem next_empty (d f : Nat) (x sz : Int) (floor time : Nat) (safe : Int) (w : World) (g : w.heap[f]? = some (.cells (cells d x sz floor time (.slice none 0 0) safe) 60 (0, 0))) (hf : floor < 18446744073709551615) :
    Calls Tryz.prog 17 #[.pointer (some ⟨f, 0, none⟩)] w fun e w' => e = .returned (.int .u64 ((floor + 1 : Nat) : Int)) ∧ Below w.heap.size w w' := by
  have c5 : w.cell? ⟨f, 5, none⟩ = some (.slice none 0 0) := by rw [cell_of_row w f _ _ _ _ g]; rfl
  have c3 : w.cell? ⟨f, 3, none⟩ = some (.int .u64 (floor : Int)) := by rw [cell_of_row w f _ _ _ _ g]; rfl
  have hlt : f < w.heap.size := (Array.getElem?_eq_some_iff.1 g).1
  clear g
  go_enter Tryz.func17, Tryz.ntmps17
  go_wp2_with fail
  go_quiet (fail)
  go_wp2
  go_ret
  exact ⟨by simp, below_drewN' w _⟩

set_option maxRecDepth 100000 in
theorem writer_any (d f : Nat) (x sz : Int) (floor time : Nat) (P : Value) (safe : Int) (w : World) (g : w.heap[f]? = some (.cells (cells d x sz floor time P safe) 60 (0, 0))) :
    Calls Tryz.prog 20 #[.pointer (some ⟨f, 0, none⟩)] w fun e w' => e = .returned (.int .i64 x) ∧ w = w' := by
  have c1 : w.cell? ⟨f, 1, none⟩ = some (.int .i64 x) := by rw [cell_of_row w f _ _ _ _ g]; rfl
  clear g
  go_enter Tryz.func20, Tryz.ntmps20
  go_wp2
  go_ret
  exact ⟨rfl, rfl⟩
set_option maxRecDepth 100000 in
theorem awake9 (w : World) (T : STabs w) : Calls Tryz.prog 6 #[] w fun e w' => e = .returned (.bool true) ∧ Below w.heap.size w w' := by
  go_enter Tryz.func6, Tryz.ntmps6
  go_wp2_with fail
  refine (newC 1000 w).mono ?_
  rintro e w1 ⟨d, S, rfl, hd, hS, hb1⟩
  go_wp2_with fail
  refine (openN d S _ 3 100 4 0 w1 (T.below hb1) hd rfl (by omega) (by omega)).mono ?_
  rintro e w2 ⟨f, rfl, hf, g, hb2⟩
  have b2 := hb1.trans (hb2.mono hb1.size)
  go_wp2_with fail
  refine (next_empty d f 3 100 4 0 0 w2 g (by omega)).mono ?_
  rintro e w3 ⟨rfl, hb3⟩
  have g3 := (hb3.block f (Array.getElem?_eq_some_iff.1 g).1).trans g
  have b3 := b2.trans (hb3.mono b2.size)
  go_wp2_with fail
  refine (writer_any d f 3 100 4 0 _ 0 w3 g3).mono ?_
  rintro e w4 ⟨rfl, rfl⟩
  go_wp2
  go_ret
  exact ⟨rfl, b3⟩
/-- The law's feed: whoever the writer is. -/
theorem openAny (d : Nat) (S : List Nat) (h : Hd) (x sz : Int) (w : World) (T : STabs w) (hd : Disk w d S [] h) (hoff : h.off = false) (hx0 : -9223372036854775808 ≤ x) (hx1 : x ≤ 9223372036854775807) :
    Calls Tryz.prog 8 #[.pointer (some ⟨d, 0, none⟩), .int .i64 x, .int .i64 sz, .int .u64 0, .int .u64 0] w fun e w' =>
      ∃ p, e = .returned (.tuple #[p, .int .i64 (if 0 ≤ x ∧ x < 64 then 0 else 1)]) ∧ Below w.heap.size w w' := by
  by_cases hx : 0 ≤ x ∧ x < 64
  · refine (openN d S h x sz 0 0 w T hd hoff hx.1 hx.2).mono ?_
    rintro e w' ⟨f, rfl, _, _, hb⟩
    exact ⟨_, by rw [if_pos hx], hb⟩
  · refine (openArg _ x sz 0 0 w (by omega)).mono ?_
    rintro e w' ⟨rfl, hb⟩
    exact ⟨_, by rw [if_neg hx], hb⟩

set_option maxRecDepth 100000 in
theorem nil_long (x : Int) (e : Ev) (A : Option Addr) (m c : Nat) (n : Nat) (most : Int) (w : World) (ST : STabs w) (hl : 100 < e.key.size ∨ 100 < m) :
    Calls Tryz.prog 5 #[.int .i64 x, e.val A m c, .int .u64 (n : Int), .int .i64 most] w fun e w' => e = .returned (.bool true) ∧ Below w.heap.size w w' := by
  have hb0 := (Below.refl w.heap.size w).alloc (Nat.le_refl _) (.cells (e.row A m c) 37)
  have g0 := heap_alloc_new w (.cells (e.row A m c) 37)
  unfold Ev.row at hb0 g0
  unfold Ev.val
  go_enter Tryz.func5, Tryz.ntmps5
  go_wp2_with fail
  generalize w.alloc (.cells #[.int .i64 e.writer, .int .u64 (e.seq : Int), .int .u64 (e.time : Int), .int .u8 (e.kind : Int), .string e.key, .slice A m c, .float .f64 e.num, .int .i64 e.node] 37) = w0 at hb0 g0 ⊢
  refine (awake9 w0 (ST.below hb0)).mono ?_
  rintro e' w1 ⟨rfl, hb1⟩
  have b1 := hb0.trans (hb1.mono hb0.size)
  have g1 := (hb1.block w.heap.size (Array.getElem?_eq_some_iff.1 g0).1).trans g0
  obtain ⟨p0, p1, p2, p3, p4, p5, p6, p7⟩ := box8 g1
  have ht : ∀ W, Below w1.heap.size w1 W → Hid (Calls Tryz.prog 6 #[] W fun e w' => e = .returned (.bool true) ∧ Below W.heap.size W w') := fun W hW => Lib.hid (awake9 W (ST.below (b1.trans (hW.mono b1.size))))
  have HT := Lib.hid ht
  clear ht g0 g1 hb1
  by_cases hk : 100 < e.key.size
  · have hk' : decide ((100 : Int) < (e.key.size : Int)) = true := by simp; omega
    clear hl
    go_wp2_with fail
    refine ((HT.out _ (Below.refl _ _)).out).mono ?_
    rintro e' w2 ⟨rfl, hb2⟩
    have b2 := b1.trans (hb2.mono b1.size)
    go_wp2
    go_ret
    exact ⟨rfl, b2⟩
  · have hk' : decide ((100 : Int) < (e.key.size : Int)) = false := by simp; omega
    have hm' : decide ((100 : Int) < (m : Int)) = true := by simp; omega
    have hm2 : 100 < m := by omega
    clear hl
    go_wp2_with fail
    refine ((HT.out _ (Below.refl _ _)).out).mono ?_
    rintro e' w2 ⟨rfl, hb2⟩
    have b2 := b1.trans (hb2.mono b1.size)
    go_wp2
    go_ret
    exact ⟨rfl, b2⟩

set_option maxRecDepth 100000 in
set_option maxHeartbeats 1000000 in
theorem nil_short (x : Int) (e : Ev) (A : Option Addr) (m c : Nat) (n : Nat) (most : Int) (w : World) (ST : STabs w) (hk : e.key.size ≤ 100) (hm : m ≤ 100) (hx0 : -9223372036854775808 ≤ x) (hx1 : x ≤ 9223372036854775807) :
    Calls Tryz.prog 5 #[.int .i64 x, e.val A m c, .int .u64 (n : Int), .int .i64 most] w fun e w' => e = .returned (.bool true) ∧ Below w.heap.size w w' := by
  have hk' : decide ((100 : Int) < (e.key.size : Int)) = false := by simp; omega
  have hm' : decide ((100 : Int) < (m : Int)) = false := by simp; omega
  have hsf := store_float Tryz.prog
  have hb0 := (Below.refl w.heap.size w).alloc (Nat.le_refl _) (.cells (e.row A m c) 37)
  have g0 := heap_alloc_new w (.cells (e.row A m c) 37)
  have HADD := Lib.hid (fun W => add_nil e A m c W)
  unfold Ev.row at hb0 g0
  unfold Ev.val at HADD ⊢
  go_enter Tryz.func5, Tryz.ntmps5
  go_wp2_with fail
  generalize w.alloc (.cells #[.int .i64 e.writer, .int .u64 (e.seq : Int), .int .u64 (e.time : Int), .int .u8 (e.kind : Int), .string e.key, .slice A m c, .float .f64 e.num, .int .i64 e.node] 37) = w0 at hb0 g0 ⊢
  refine (awake9 w0 (ST.below hb0)).mono ?_
  rintro e' w1 ⟨rfl, hb1⟩
  have b1 := hb0.trans (hb1.mono hb0.size)
  have g1 := (hb1.block w.heap.size (Array.getElem?_eq_some_iff.1 g0).1).trans g0
  obtain ⟨p0, p1, p2, p3, p4, p5, p6, p7⟩ := box8 g1
  clear g0 hb1
  go_wp2_with fail
  refine (get_nil _ w1).mono ?_
  rintro e' w2 ⟨rfl, hb2⟩
  unfold zeroEv
  have b2 := b1.trans (hb2.mono b1.size)
  have q2 := (hb2.block w.heap.size (Array.getElem?_eq_some_iff.1 g1).1).trans g1
  have hz2 : w.heap.size < w2.heap.size := (Array.getElem?_eq_some_iff.1 q2).1
  have hb3 := (Below.refl w2.heap.size w2).alloc (Nat.le_refl _) (.cells zeroRow 37)
  have g3 := heap_alloc_new w2 (.cells zeroRow 37)
  have q3 := (hb3.block w.heap.size hz2).trans q2
  have b3 := b2.trans (hb3.mono b2.size)
  unfold zeroRow at hb3 g3 q3 b3
  have G3 := Lib.hid g3
  have Q3 := Lib.hid q3
  have B3 := Lib.hid b3
  clear g3 q3 b3 p0 p1 p2 p3 p4 p5 p6 p7 hb2 b2 b1 g1 q2
  go_wp2_with (first
    | (refine wpList_putRow rfl 37 (.tmp 10) (.tmp 35) rfl w2.heap.size 37 zeroRow zeroRow rfl rfl ?g1 (by kernel_rfl) rfl (by simp [zeroRow, Value.oneCell']) ?_))
  case g1 => unfold zeroRow; exact G3.out
  intro W3 hW3 hbe3
  have q4 := (hbe3.block w.heap.size (Array.getElem?_eq_some_iff.1 Q3.out).1 (by simp; omega)).trans Q3.out
  have b4 : Below w.heap.size w W3 := Below.beside B3.out hbe3 B3.out.size (by simp; omega)
  clear hW3 hbe3 B3 Q3 G3 hb3
  go_wp2_with fail
  refine (range_nil _ _ W3).mono ?_
  rintro e' w4 ⟨rfl, rfl⟩
  go_wp2_with fail
  refine (newC 10 W3).mono ?_
  rintro e' w5 ⟨d, S, rfl, hd, hS, hb5⟩
  have b5 := b4.trans (hb5.mono b4.size)
  have q5 := (hb5.block w.heap.size (Array.getElem?_eq_some_iff.1 q4).1).trans q4
  clear q4 hb5 b4
  go_wp2_with fail
  refine (openAny d S _ x most w5 (ST.below b5) hd rfl hx0 hx1).mono ?_
  rintro e' w6 ⟨p, rfl, hb6⟩
  obtain ⟨kk, hkk⟩ : ∃ kk : Int, kk = if 0 ≤ x ∧ x < 64 then 0 else 1 := ⟨_, rfl⟩
  rw [← hkk]
  have HKK := Lib.hid hkk
  clear hkk
  have b6 := b5.trans (hb6.mono b5.size)
  have q6 := (hb6.block w.heap.size (Array.getElem?_eq_some_iff.1 q5).1).trans q5
  clear q5 hb6 b5 hd hS
  go_wp2_with fail
  refine (writer_nil w6).mono ?_
  rintro e' w7 ⟨rfl, rfl⟩
  go_wp2_with fail
  refine (floor_nil w6).mono ?_
  rintro e' w7 ⟨rfl, rfl⟩
  go_wp2_with fail
  refine (next_nil w6).mono ?_
  rintro e' w7 ⟨rfl, rfl⟩
  go_wp2_with fail
  refine (time_nil w6).mono ?_
  rintro e' w7 ⟨rfl, rfl⟩
  go_wp2_with fail
  refine (all_nil w6).mono ?_
  rintro e' w7 ⟨rfl, rfl⟩
  go_wp2_with fail
  refine (sealed_nil w6).mono ?_
  rintro e' w7 ⟨rfl, hb7⟩
  have b7 := b6.trans (hb7.mono b6.size)
  have q7 := (hb7.block w.heap.size (Array.getElem?_eq_some_iff.1 q6).1).trans q6
  obtain ⟨p0, p1, p2, p3, p4, p5, p6, p7⟩ := box8 q7
  clear q6 hb7 b6 q7
  go_wp2_with fail
  refine (HADD.out _).mono ?_
  rintro e' w8 ⟨rfl, hb8⟩
  have b8 := b7.trans (hb8.mono b7.size)
  clear hb8 b7 p0 p1 p2 p3 p4 p5 p6 p7
  go_wp2_with fail
  refine (sync_nil w8).mono ?_
  rintro e' w9 ⟨rfl, rfl⟩
  go_wp2_with fail
  refine (fold_nil _ _ w8).mono ?_
  rintro e' w9 ⟨rfl, rfl⟩
  go_wp2_with fail
  refine (segments_nil w8).mono ?_
  rintro e' w9 ⟨rfl, rfl⟩
  by_cases h0 : 0 ≤ x
  · by_cases h1 : x < 64
    · have h0' : decide (0 ≤ x) = true := by simp; omega
      have h1' : decide (x < 64) = true := by simp; omega
      have hi := HKK.out
      rw [if_pos ⟨h0, h1⟩] at hi
      subst hi
      clear h0 h1
      go_wp2
      go_ret
      exact ⟨rfl, b8⟩
    · have h0' : decide (0 ≤ x) = true := by simp; omega
      have h1' : decide (x < 64) = false := by simp; omega
      have hi := HKK.out
      rw [if_neg (by omega)] at hi
      subst hi
      clear h0 h1
      go_wp2
      go_ret
      exact ⟨rfl, b8⟩
  · have h0' : decide (0 ≤ x) = false := by simp; omega
    have hi := HKK.out
    rw [if_neg (by omega)] at hi
    subst hi
    clear h0
    go_wp2
    go_ret
    exact ⟨rfl, b8⟩

theorem nil_law (x : Int) (e : Ev) (A : Option Addr) (m c : Nat) (n : Nat) (most : Int) (w : World) (ST : STabs w) (hx0 : -9223372036854775808 ≤ x) (hx1 : x ≤ 9223372036854775807) :
    Calls Tryz.prog 5 #[.int .i64 x, e.val A m c, .int .u64 (n : Int), .int .i64 most] w fun e w' => e = .returned (.bool true) ∧ Below w.heap.size w w' := by
  by_cases h : 100 < e.key.size ∨ 100 < m
  · exact nil_long x e A m c n most w ST h
  · exact nil_short x e A m c n most w ST (by omega) (by omega) hx0 hx1
end Go.Proofs.YtkphklmgbdljiaaGreatDoor.Fd
