/- feed: a feed that is being opened: its next number, what follows, what is there of a file. -/
import Derived.Test.YtkphklmgbdljiaaGreatDoorFdDel
import Derived.Test.YtkphklmgbdljiaaGreatDoorFdNames
import Derived.Test.YtkphklmgbdljiaaGreatDoorFdDrop
namespace Go.Proofs.YtkphklmgbdljiaaGreatDoor.Fd
open Go Go.RowKit Go.Proofs.YtkphklmgbdljiaaGreatDoor.Words Go.Proofs.YtkphklmgbdljiaaGreatDoor.Enc Go.Proofs.YtkphklmgbdljiaaGreatDoor.Evt Go.Proofs.YtkphklmgbdljiaaGreatDoor.Made Go.Proofs.YtkphklmgbdljiaaGreatDoor.Dsk Go.Proofs.YtkphklmgbdljiaaGreatDoor.Sht Go.Proofs.YtkphklmgbdljiaaGreatDoor.Seg
set_option linter.unusedVariables false
set_option linter.unusedSimpArgs false

/-- A feed's struct and its row, whatever the disk has. -/
structure FeedB (w : World) (d f x : Nat) (sz : Int) (floor time : Nat) (R : List SegS) (safe : Nat) (A : Option Addr) (c : Nat) : Prop where
  box : w.heap[f]? = some (.cells (cells d (x : Int) sz floor time (.slice A R.length c) (safe : Int)) 60 (0, 0))
  row : w.ownsRow 0 65 4 (.slice A R.length c) R.length (rowsS x R)
variable {w : World} {d f x : Nat} {sz : Int} {floor time : Nat} {R : List SegS} {safe : Nat} {A : Option Addr} {c : Nat}
theorem FeedB.lt (F : FeedB w d f x sz floor time R safe A c) : ∀ k ∈ f :: blk A, k < w.heap.size := by
  intro k hk
  rcases List.mem_cons.1 hk with rfl | hk
  · exact (Array.getElem?_eq_some_iff.1 F.box).1
  · exact (own_blk F.row k hk).2
theorem FeedB.keeps {w' : World} (F : FeedB w d f x sz floor time R safe A c) (hk : ∀ k ∈ f :: blk A, w'.heap[k]? = w.heap[k]?) : FeedB w' d f x sz floor time R safe A c :=
  ⟨(hk f (by simp)).trans F.box, own_kept F.row fun g hg => hk g (by simp [hg])⟩
theorem FeedB.below {w' : World} (F : FeedB w d f x sz floor time R safe A c) (hb : Below w.heap.size w w') : FeedB w' d f x sz floor time R safe A c :=
  F.keeps fun k hk => hb.block k (F.lt k hk)
theorem FeedB.cap (F : FeedB w d f x sz floor time R safe A c) : R.length ≤ c ∧ c ≤ 9223372036854775807 := own_cap8 F.row
/-- The box's cells. -/
theorem FeedB.cells (F : FeedB w d f x sz floor time R safe A c) :
    w.cell? ⟨f, 0, none⟩ = some (.pointer (some ⟨d, 0, none⟩)) ∧ w.cell? ⟨f, 1, none⟩ = some (.int .i64 (x : Int)) ∧ w.cell? ⟨f, 2, none⟩ = some (.int .i64 sz) ∧ w.cell? ⟨f, 3, none⟩ = some (.int .u64 (floor : Int)) ∧ w.cell? ⟨f, 4, none⟩ = some (.int .u64 (time : Int)) ∧ w.cell? ⟨f, 5, none⟩ = some (.slice A R.length c) ∧ w.cell? ⟨f, 6, none⟩ = some (.int .i64 (safe : Int)) := by
  refine ⟨?_, ?_, ?_, ?_, ?_, ?_, ?_⟩ <;> (rw [cell_of_row w f _ _ _ _ F.box]; rfl)
/-- A part's cells. -/
theorem FeedB.at_ (F : FeedB w d f x sz floor time R safe A c) {j : Nat} {r : SegS} (hj : R[j]? = some r) :
    ∃ g, A = some ⟨g, 0, none⟩ ∧ w.cell? ⟨g, j * 4, none⟩ = some (.int .i64 (x : Int)) ∧ w.cell? ⟨g, j * 4 + 1, none⟩ = some (.int .u64 (r.p.u : Int)) ∧ w.cell? ⟨g, j * 4 + 2, none⟩ = some (.slice r.A r.p.L.length r.p.L.length) ∧ w.cell? ⟨g, j * 4 + 3, none⟩ = some (.int .i64 (r.p.z x : Int)) := by
  have hlt : j < R.length := (List.getElem?_eq_some_iff.1 hj).1
  rcases F.row.2 with ⟨hv, h0⟩ | ⟨g, cap, cur, hv, _, hh, _, _, hc, ht⟩
  · omega
  · injection hv with h1
    subst h1
    have key : ∀ k, k < 4 → ∀ v, (r.cells x)[k]? = some v → w.cell? ⟨g, j * 4 + k, none⟩ = some v := by
      intro k hk v hv
      rw [cell_of_row w g _ _ _ _ hh]
      have h4 := rowsS_get x R j k r hj hk
      rw [hv, ← ht, List.getElem?_take] at h4
      split at h4
      · simpa using h4
      · cases h4
    exact ⟨g, rfl, key 0 (by omega) _ rfl, key 1 (by omega) _ rfl, key 2 (by omega) _ rfl, key 3 (by omega) _ rfl⟩

set_option maxRecDepth 100000 in
theorem endB (d f x : Nat) (sz : Int) (floor time : Nat) (R : List SegS) (safe : Nat) (A : Option Addr) (c : Nat) (j : Nat) (r : SegS) (w : World) (F : FeedB w d f x sz floor time R safe A c) (hn : R.length = j + 1) (hj : R[j]? = some r) (hm : j ≤ 1000000) :
    Calls Tryz.prog 38 #[.pointer (some ⟨f, 0, none⟩)] w fun e w' => e = .returned (r.val x) ∧ Below w.heap.size w w' := by
  obtain ⟨g, rfl, k0, k1, k2, k3⟩ := F.at_ hj
  obtain ⟨_, _, _, _, _, c5, _⟩ := F.cells
  have hlt := F.lt
  have hg : g < w.heap.size := hlt g (by simp [blk])
  have hf : f < w.heap.size := hlt f (by simp)
  have hw : IntKind.i64.wrap ((R.length : Int) - 1) = (j : Int) := by rw [IntKind.wrap_i64]; omega
  have hjl : j < R.length := by omega
  have hb0 := (Below.refl w.heap.size w).alloc (Nat.le_refl _) (.cells #[.int .i64 0, .int .u64 0, .slice none 0 0, .int .i64 0] 65)
  have g0 := heap_alloc_new w (.cells #[.int .i64 0, .int .u64 0, .slice none 0 0, .int .i64 0] 65)
  have n5 := (hb0.cell (p := ⟨f, 5, none⟩) hf).trans c5
  have m0 := (hb0.cell (p := ⟨g, j * 4, none⟩) hg).trans k0
  have m1 := (hb0.cell (p := ⟨g, j * 4 + 1, none⟩) hg).trans k1
  have m2 := (hb0.cell (p := ⟨g, j * 4 + 2, none⟩) hg).trans k2
  have m3 := (hb0.cell (p := ⟨g, j * 4 + 3, none⟩) hg).trans k3
  generalize R.length = n at *
  clear k0 k1 k2 k3 c5 F hlt hn hj
  go_enter Tryz.func38, Tryz.ntmps38
  go_wp2_with fail
  generalize w.alloc (.cells #[.int .i64 0, .int .u64 0, .slice none 0 0, .int .i64 0] 65) = w1 at hb0 g0 n5 m0 m1 m2 m3 ⊢
  obtain ⟨b, hb⟩ : ∃ b, b = w.heap.size := ⟨_, rfl⟩
  rw [← hb] at g0 ⊢
  have HBW : w.heap.size ≤ b := by omega
  have HB9 := Lib.hid hb
  clear hb
  have G0 := Lib.hid g0
  have B0 := Lib.hid hb0
  clear g0 hb0
  go_still_tail 12, (by kernel_rfl)
  change wpList _ _ _ _ _ w1.drew
  go_wp2_with (refine wpList_putRow rfl 65 (.tmp 2) (.tmp 14) rfl b 65 #[.int .i64 0, .int .u64 0, .slice none 0 0, .int .i64 0] #[.int .i64 (x : Int), .int .u64 (r.p.u : Int), .slice r.A r.p.L.length r.p.L.length, .int .i64 (r.p.z x : Int)] rfl rfl ?g1 (by kernel_rfl) rfl (by simp [Value.oneCell']) ?_)
  case g1 => exact G0.out
  intro W' hW' hbe
  obtain ⟨q0, q1, q2, q3⟩ := b4cells hW'
  have HB := Lib.hid (Below.beside B0.out.drew hbe B0.out.drew.size (by simp; exact HBW))
  clear hW' hbe
  go_wp2
  refine bodyPost_ret (v := r.val x) ?_ rfl ⟨rfl, HB.out⟩
  simp [results, SegS.val, segV, Tryz.results38, go_sem, q0, q1, q2, q3]
set_option maxRecDepth 100000 in
theorem nextB (d f x : Nat) (sz : Int) (floor time : Nat) (R : List SegS) (safe : Nat) (A : Option Addr) (c : Nat) (j : Nat) (r : SegS) (w : World) (F : FeedB w d f x sz floor time R safe A c) (hn : R.length = j + 1) (hj : R[j]? = some r) (hm : j ≤ 1000000)
    (hfl : floor < r.p.u + r.p.L.length) (hlt : r.p.u + r.p.L.length < 18446744073709551616) :
    Calls Tryz.prog 17 #[.pointer (some ⟨f, 0, none⟩)] w fun e w' => e = .returned (.int .u64 ((r.p.u + r.p.L.length : Nat) : Int)) ∧ Below w.heap.size w w' := by
  obtain ⟨_, _, _, c3, _, c5, _⟩ := F.cells
  have CELLS := Lib.hid (fun W (hW : Below w.heap.size w W) => (F.below hW).cells)
  have hf : f < w.heap.size := F.lt f (by simp)
  have hlen : 0 < R.length := by omega
  have hlen' : decide ((0 : Int) < (R.length : Int)) = true := by simp; omega
  have END := Lib.hid (fun W (hW : Below w.heap.size w W) => endB d f x sz floor time R safe A c j r W (F.below hW) hn hj hm)
  have NXS := Lib.hid (fun W => next_any (x : Int) r.p.u r.A r.p.L.length r.p.L.length (r.p.z x) W hlt)
  unfold segV at NXS
  unfold SegS.val segV at END
  have E1 : ∀ W, Below w.heap.size w W → Calls Tryz.prog 38 #[.pointer (some ⟨f, 0, none⟩)] W fun e w' => e = .returned (.agg #[.int .i64 (x : Int), .int .u64 (r.p.u : Int), .slice r.A r.p.L.length r.p.L.length, .int .i64 (r.p.z x : Int)]) ∧ Hid (Below w.heap.size w w') ∧ w'.cell? ⟨f, 3, none⟩ = some (.int .u64 (floor : Int)) ∧ w'.cell? ⟨f, 5, none⟩ = some (.slice A R.length c) := fun W hW => by
    refine (END.out W hW).mono ?_
    rintro e w' ⟨rfl, hb⟩
    have hb' := hW.trans (hb.mono hW.size)
    obtain ⟨_, _, _, q3, _, q5, _⟩ := CELLS.out w' hb'
    exact ⟨rfl, Lib.hid hb', q3, q5⟩
  have N1 : ∀ W, Below w.heap.size w W → Calls Tryz.prog 39 #[.agg #[.int .i64 (x : Int), .int .u64 (r.p.u : Int), .slice r.A r.p.L.length r.p.L.length, .int .i64 (r.p.z x : Int)]] W fun e w' => e = .returned (.int .u64 ((r.p.u + r.p.L.length : Nat) : Int)) ∧ Hid (Below w.heap.size w w') ∧ w'.cell? ⟨f, 3, none⟩ = some (.int .u64 (floor : Int)) ∧ w'.cell? ⟨f, 5, none⟩ = some (.slice A R.length c) := fun W hW => by
    refine (NXS.out W).mono ?_
    rintro e w' ⟨rfl, hb⟩
    have hb' := hW.trans (hb.mono hW.size)
    obtain ⟨_, _, _, q3, _, q5, _⟩ := CELLS.out w' hb'
    exact ⟨rfl, Lib.hid hb', q3, q5⟩
  generalize r.p.u + r.p.L.length = nx at *
  have hfl' : decide ((floor : Int) < (nx : Int)) = true := by simp; omega
  generalize R.length = n at *
  clear F CELLS END NXS hn hj hlt
  go_enter Tryz.func17, Tryz.ntmps17
  go_wp2_with fail
  go_region_held3 (fun w' => w'.cell? ⟨f, 3, none⟩ = some (.int .u64 (floor : Int)) ∧ w'.cell? ⟨f, 5, none⟩ = some (.slice A n c)) (go_keep)
    (first
      | (go_at_call 38
         refine (E1 _ ?h0).mono ?_
         case h0 => first | exact Below.refl _ _ | exact (Below.refl _ _).drew
         rintro e w6 ⟨rfl, HE, c3, c5⟩)
      | (go_at_call 39
         refine (N1 _ ?h1).mono ?_
         case h1 => exact HE.out
         rintro e w7 ⟨rfl, HN, c3, c5⟩))
  go_wp2_with fail
  refine (E1 _ HN.out).mono ?_
  rintro e w8 ⟨rfl, HE8, c3', c5'⟩
  go_wp2_with fail
  refine (N1 _ HE8.out).mono ?_
  rintro e w9 ⟨rfl, HN9, c3'', c5''⟩
  go_wp2
  go_ret
  exact ⟨rfl, HN9.out⟩


/-- The number that a feed which is being opened goes on with. -/
theorem nextB_any (d f x : Nat) (sz : Int) (floor time : Nat) (R : List SegS) (safe : Nat) (A : Option Addr) (c u : Nat) (w : World) (F : FeedB w d f x sz floor time R safe A c) (hC : Chain x u (R.map SegS.p)) (h0 : R = [] → u = floor + 1) (hpos : R ≠ [] → floor < u + (evsP (R.map SegS.p)).length) (hfew : u + (evsP (R.map SegS.p)).length ≤ 1000) :
    Calls Tryz.prog 17 #[.pointer (some ⟨f, 0, none⟩)] w fun e w' => e = .returned (.int .u64 ((u + (evsP (R.map SegS.p)).length : Nat) : Int)) ∧ Below w.heap.size w w' := by
  by_cases hP : R = []
  · subst hP
    have := h0 rfl
    subst this
    exact next_bare d f (x : Int) sz floor time A c (safe : Int) w F.box (by simp [evsP] at hfew; omega)
  · obtain ⟨I, r, rfl⟩ := list_last hP
    rw [List.map_append, List.map_singleton] at hC hfew hpos ⊢
    obtain ⟨h1, h2⟩ := chain_last hC
    have hl := chain_len hC
    have := nextB d f x sz floor time (I ++ [r]) safe A c I.length r w F (by simp) (by simp) (by simp at hl; omega) (by have := hpos hP; omega) (by omega)
    rw [h1] at this
    exact this
/-- A guard that is itself left out. -/
theorem wanted_undef9 {ops : Array Oper} {o : Oper} {a : Act} {g d : Nat} {b : Bool} (h : o.guard = some (g, b)) (hd : (ops[g]?).bind (·.dst) = some d) (hv : a.tmps.getD d undef = undef) : Region.wanted o (yielded ops a.tmps) = false := by
  have hy : yielded ops a.tmps g = none := by
    unfold yielded
    rw [hd]
    simp only [Option.bind_some]
    rw [Array.getD_eq_getD_getElem?] at hv
    cases hc : a.tmps[d]? with
    | none => rfl
    | some v =>
      rw [hc] at hv
      simp only [Option.getD_some] at hv
      rw [hv]
      rfl
  simp [Region.wanted, h, hy]
set_option maxRecDepth 100000 in
set_option maxHeartbeats 1000000 in
theorem follows_next (f x u : Nat) (A : Option Addr) (n z : Nat) (w : World) (NX : ∀ W, Below w.heap.size w W → Calls Tryz.prog 17 #[.pointer (some ⟨f, 0, none⟩)] W fun e w' => e = .returned (.int .u64 (u : Int)) ∧ Below W.heap.size W w') :
    Calls Tryz.prog 44 #[.pointer (some ⟨f, 0, none⟩), segV (x : Int) u A n n z] w fun e w' => e = .returned (.bool true) ∧ Below w.heap.size w w' := by
  have HX := Lib.hid NX
  clear NX
  unfold segV
  have hb0 := (Below.refl w.heap.size w).alloc (Nat.le_refl _) (.cells #[.int .i64 (x : Int), .int .u64 (u : Int), .slice A n n, .int .i64 (z : Int)] 65)
  have g0 := heap_alloc_new w (.cells #[.int .i64 (x : Int), .int .u64 (u : Int), .slice A n n, .int .i64 (z : Int)] 65)
  go_enter Tryz.func44, Tryz.ntmps44
  go_upto_region 1 with fail
  generalize w.alloc (.cells #[.int .i64 (x : Int), .int .u64 (u : Int), .slice A n n, .int .i64 (z : Int)] 65) = w0 at hb0 g0 ⊢
  obtain ⟨b, hb⟩ : ∃ b, b = w.heap.size := ⟨_, rfl⟩
  rw [← hb] at g0 ⊢
  clear hb
  have hbl := (Array.getElem?_eq_some_iff.1 g0).1
  have HC := Lib.hid (fun W (hW : Below w0.drew.heap.size w0.drew W) => ((b4cells ((hW.block b hbl).trans g0)).2.1 : W.cell? ⟨b, 1, none⟩ = some (.int .u64 (u : Int))))
  have HN := Lib.hid (fun W (hW : Below w0.drew.heap.size w0.drew W) => HX.out W (hb0.drew.trans (hW.mono hb0.size)))
  have HB0 := Lib.hid hb0
  clear hb0 g0
  refine Facts.wp_region_preds (n := 27) (by kernel_rfl) (by kernel_rfl) rfl [Facts.Pred.is (Value.pointer (some ⟨b, 1, none⟩)), Facts.Pred.is (Value.int .u64 (u : Int)), Facts.Pred.is (Value.pointer (some ⟨f, 0, none⟩)), Facts.Pred.is (Value.int .u64 (u : Int)), Facts.Pred.is (Value.bool true), Facts.Pred.is (Value.bool true), Facts.Pred.is undef, Facts.Pred.is undef, Facts.Pred.is undef, Facts.Pred.is undef, Facts.Pred.is undef, Facts.Pred.is undef, Facts.Pred.is undef, Facts.Pred.is undef, Facts.Pred.is undef, Facts.Pred.is undef, Facts.Pred.is undef, Facts.Pred.is undef, Facts.Pred.is undef, Facts.Pred.is undef, Facts.Pred.is undef, Facts.Pred.is (Value.bool true), Facts.Pred.is (Value.bool true)] ?_ ?_
  · refine ⟨?_, ?_, ?_, ?_, ?_, ?_, ?_, ?_, ?_, ?_, ?_, ?_, ?_, ?_, ?_, ?_, ?_, ?_, ?_, ?_, ?_, ?_, ?_, trivial⟩
    · refine Facts.step_is (Value.pointer (some ⟨b, 1, none⟩)) fun a W hR hold hnew => ?_
      have f3 : a.tmps.getD 3 undef = Value.pointer (some ⟨b, 0, none⟩) := hold 3 (by kernel_rfl)
      refine ⟨Facts.wanted_free rfl, ?_, fun _ => rfl⟩
      simp [go_sem, Act.eval, f3]
    · refine Facts.step_is (Value.int .u64 (u : Int)) fun a W hR hold hnew => ?_
      have f5 : a.tmps.getD 5 undef = Value.pointer (some ⟨b, 1, none⟩) := hnew 0 5 (by kernel_rfl)
      have q1 := HC.out W hR
      refine ⟨Facts.wanted_free rfl, ?_, fun _ => rfl⟩
      simp [go_sem, Act.eval, f5, q1]
    · refine Facts.step_is (Value.pointer (some ⟨f, 0, none⟩)) fun a W hR hold hnew => ?_
      have f0 : a.tmps.getD 0 undef = Value.pointer (some ⟨f, 0, none⟩) := hold 0 (by kernel_rfl)
      refine ⟨Facts.wanted_free rfl, ?_, fun _ => rfl⟩
      simp [go_sem, Act.eval, f0]
    · -- 3: Op.call { value (Operand.func 17), args := #[t7], argTypes :
      refine Facts.step_call fun a W hR hold hnew => ?_
      have f7 : a.tmps.getD 7 undef = Value.pointer (some ⟨f, 0, none⟩) := hnew 2 7 (by kernel_rfl)
      refine ⟨Facts.wanted_free rfl, 17, #[Value.pointer (some ⟨f, 0, none⟩)], by simp [go_sem, Act.eval, f7], ?_⟩
      refine (HN.out W hR).mono ?_
      rintro e' w7 ⟨rfl, hb7⟩
      exact ⟨_, rfl, hb7, rfl⟩
    · refine Facts.step_is (Value.bool true) fun a W hR hold hnew => ?_
      have f6 : a.tmps.getD 6 undef = Value.int .u64 (u : Int) := hnew 1 6 (by kernel_rfl)
      have f8 : a.tmps.getD 8 undef = Value.int .u64 (u : Int) := hnew 3 8 (by kernel_rfl)
      refine ⟨Facts.wanted_free rfl, ?_, fun _ => rfl⟩
      simp [go_sem, Act.eval, f6, f8]
    · refine Facts.step_is (Value.bool true) fun a W hR hold hnew => ?_
      have f9 : a.tmps.getD 9 undef = Value.bool true := hnew 4 9 (by kernel_rfl)
      refine ⟨Facts.wanted_free rfl, ?_, fun _ => rfl⟩
      simp [go_sem, Act.eval, f9]
    · -- 6: Op.move t0
      refine Sht.step_skip (fun a W hnew => ?_) (fun _ => rfl)
      have g10 : a.tmps.getD 10 undef = .bool true := hnew 5 10 (by kernel_rfl)
      exact Sht.wanted_not rfl (by kernel_rfl) g10
    · -- 7: Op.nilCheck t11
      refine Sht.step_skip (fun a W hnew => ?_) (fun _ => rfl)
      have g10 : a.tmps.getD 10 undef = .bool true := hnew 5 10 (by kernel_rfl)
      exact Sht.wanted_not rfl (by kernel_rfl) g10
    · -- 8: Op.fieldAddr 60 t12 5
      refine Sht.step_skip (fun a W hnew => ?_) (fun _ => rfl)
      have g10 : a.tmps.getD 10 undef = .bool true := hnew 5 10 (by kernel_rfl)
      exact Sht.wanted_not rfl (by kernel_rfl) g10
    · -- 9: Op.load 58 t13
      refine Sht.step_skip (fun a W hnew => ?_) (fun _ => rfl)
      have g10 : a.tmps.getD 10 undef = .bool true := hnew 5 10 (by kernel_rfl)
      exact Sht.wanted_not rfl (by kernel_rfl) g10
    · -- 10: Op.call { builtin len, args := #[t14], argTypes := #[58] }
      refine Sht.step_skip (fun a W hnew => ?_) (fun _ => rfl)
      have g10 : a.tmps.getD 10 undef = .bool true := hnew 5 10 (by kernel_rfl)
      exact Sht.wanted_not rfl (by kernel_rfl) g10
    · -- 11: Op.binOp BinOp.eql 3 t15 (const (0:i64)) 3
      refine Sht.step_skip (fun a W hnew => ?_) (fun _ => rfl)
      have g10 : a.tmps.getD 10 undef = .bool true := hnew 5 10 (by kernel_rfl)
      exact Sht.wanted_not rfl (by kernel_rfl) g10
    · -- 12: Op.move t16
      refine Sht.step_skip (fun a W hnew => ?_) (fun _ => rfl)
      have g10 : a.tmps.getD 10 undef = .bool true := hnew 5 10 (by kernel_rfl)
      exact Sht.wanted_not rfl (by kernel_rfl) g10
    · -- 13: Op.fieldAddr 65 t3 1
      refine Sht.step_skip (fun a W hnew => ?_) (fun _ => rfl)
      have g17 : a.tmps.getD 17 undef = undef := hnew 12 17 (by kernel_rfl)
      exact wanted_undef9 rfl (by kernel_rfl) g17
    · -- 14: Op.load 30 t18
      refine Sht.step_skip (fun a W hnew => ?_) (fun _ => rfl)
      have g17 : a.tmps.getD 17 undef = undef := hnew 12 17 (by kernel_rfl)
      exact wanted_undef9 rfl (by kernel_rfl) g17
    · -- 15: Op.move t0
      refine Sht.step_skip (fun a W hnew => ?_) (fun _ => rfl)
      have g17 : a.tmps.getD 17 undef = undef := hnew 12 17 (by kernel_rfl)
      exact wanted_undef9 rfl (by kernel_rfl) g17
    · -- 16: Op.nilCheck t20
      refine Sht.step_skip (fun a W hnew => ?_) (fun _ => rfl)
      have g17 : a.tmps.getD 17 undef = undef := hnew 12 17 (by kernel_rfl)
      exact wanted_undef9 rfl (by kernel_rfl) g17
    · -- 17: Op.fieldAddr 60 t21 3
      refine Sht.step_skip (fun a W hnew => ?_) (fun _ => rfl)
      have g17 : a.tmps.getD 17 undef = undef := hnew 12 17 (by kernel_rfl)
      exact wanted_undef9 rfl (by kernel_rfl) g17
    · -- 18: Op.load 30 t22
      refine Sht.step_skip (fun a W hnew => ?_) (fun _ => rfl)
      have g17 : a.tmps.getD 17 undef = undef := hnew 12 17 (by kernel_rfl)
      exact wanted_undef9 rfl (by kernel_rfl) g17
    · -- 19: Op.binOp BinOp.leq 30 t19 t23 30
      refine Sht.step_skip (fun a W hnew => ?_) (fun _ => rfl)
      have g17 : a.tmps.getD 17 undef = undef := hnew 12 17 (by kernel_rfl)
      exact wanted_undef9 rfl (by kernel_rfl) g17
    · -- 20: Op.pick t17 t24 (const (Value.bool false))
      refine Sht.step_skip (fun a W hnew => ?_) (fun _ => rfl)
      have g10 : a.tmps.getD 10 undef = .bool true := hnew 5 10 (by kernel_rfl)
      exact Sht.wanted_not rfl (by kernel_rfl) g10
    · refine Facts.step_is (Value.bool true) fun a W hR hold hnew => ?_
      have f10 : a.tmps.getD 10 undef = Value.bool true := hnew 5 10 (by kernel_rfl)
      refine ⟨Facts.wanted_free rfl, ?_, fun _ => rfl⟩
      simp [go_sem, Act.eval, f10]
    · refine Facts.step_is (Value.bool true) fun a W hR hold hnew => ?_
      have f26 : a.tmps.getD 26 undef = Value.bool true := hnew 21 26 (by kernel_rfl)
      refine ⟨Facts.wanted_free rfl, ?_, fun _ => rfl⟩
      simp [go_sem, Act.eval, f26]
  · intro a w3 hR' hsize hdef hnew hold
    have f4 : a.tmps.getD 4 undef = Value.bool true := hnew 22 4 (by kernel_rfl)
    obtain ⟨tm, df⟩ := a
    simp only [] at hdef hsize f4
    have hlit : tm = #[tm.getD 0 undef, tm.getD 1 undef, tm.getD 2 undef, tm.getD 3 undef, tm.getD 4 undef, tm.getD 5 undef, tm.getD 6 undef, tm.getD 7 undef, tm.getD 8 undef, tm.getD 9 undef, tm.getD 10 undef, tm.getD 11 undef, tm.getD 12 undef, tm.getD 13 undef, tm.getD 14 undef, tm.getD 15 undef, tm.getD 16 undef, tm.getD 17 undef, tm.getD 18 undef, tm.getD 19 undef, tm.getD 20 undef, tm.getD 21 undef, tm.getD 22 undef, tm.getD 23 undef, tm.getD 24 undef, tm.getD 25 undef, tm.getD 26 undef] := (Facts.array_lit tm hsize).trans rfl
    rw [f4] at hlit
    clear f4 hsize hnew hold
    generalize tm.getD 0 undef = x0 at hlit
    generalize tm.getD 1 undef = x1 at hlit
    generalize tm.getD 2 undef = x2 at hlit
    generalize tm.getD 3 undef = x3 at hlit
    generalize tm.getD 5 undef = x5 at hlit
    generalize tm.getD 6 undef = x6 at hlit
    generalize tm.getD 7 undef = x7 at hlit
    generalize tm.getD 8 undef = x8 at hlit
    generalize tm.getD 9 undef = x9 at hlit
    generalize tm.getD 10 undef = x10 at hlit
    generalize tm.getD 11 undef = x11 at hlit
    generalize tm.getD 12 undef = x12 at hlit
    generalize tm.getD 13 undef = x13 at hlit
    generalize tm.getD 14 undef = x14 at hlit
    generalize tm.getD 15 undef = x15 at hlit
    generalize tm.getD 16 undef = x16 at hlit
    generalize tm.getD 17 undef = x17 at hlit
    generalize tm.getD 18 undef = x18 at hlit
    generalize tm.getD 19 undef = x19 at hlit
    generalize tm.getD 20 undef = x20 at hlit
    generalize tm.getD 21 undef = x21 at hlit
    generalize tm.getD 22 undef = x22 at hlit
    generalize tm.getD 23 undef = x23 at hlit
    generalize tm.getD 24 undef = x24 at hlit
    generalize tm.getD 25 undef = x25 at hlit
    generalize tm.getD 26 undef = x26 at hlit
    subst hlit
    subst hdef
    try simp only []
    have b1 := HB0.out.drew.trans (hR'.mono HB0.out.size)
    clear hR'
    go_wp2
    go_ret
    exact ⟨rfl, b1⟩
/-- The first segment may begin at or before the floor. -/
theorem follows_first (f x u floor c : Nat) (A Ap : Option Addr) (n z : Nat) (w : World) (hu : u ≤ floor) (c3 : ∀ W, Below w.heap.size w W → W.cell? ⟨f, 3, none⟩ = some (.int .u64 (floor : Int))) (c5 : ∀ W, Below w.heap.size w W → W.cell? ⟨f, 5, none⟩ = some (.slice Ap 0 c)) (NX : ∀ W, Below w.heap.size w W → Calls Tryz.prog 17 #[.pointer (some ⟨f, 0, none⟩)] W fun e w' => e = .returned (.int .u64 ((floor + 1 : Nat) : Int)) ∧ Below W.heap.size W w') :
    Calls Tryz.prog 44 #[.pointer (some ⟨f, 0, none⟩), segV (x : Int) u A n n z] w fun e w' => e = .returned (.bool true) ∧ Below w.heap.size w w' := by
  have HX := Lib.hid NX
  have C3 := Lib.hid c3
  have C5 := Lib.hid c5
  obtain ⟨nx, hnx⟩ : ∃ nx, nx = floor + 1 := ⟨_, rfl⟩
  rw [← hnx] at HX
  have hun : ((u : Int) == (nx : Int)) = false := by rw [beq_eq_false_iff_ne]; omega
  have huf : decide ((u : Int) ≤ (floor : Int)) = true := by simp; omega
  clear NX c3 c5 hnx
  unfold segV
  have hb0 := (Below.refl w.heap.size w).alloc (Nat.le_refl _) (.cells #[.int .i64 (x : Int), .int .u64 (u : Int), .slice A n n, .int .i64 (z : Int)] 65)
  have g0 := heap_alloc_new w (.cells #[.int .i64 (x : Int), .int .u64 (u : Int), .slice A n n, .int .i64 (z : Int)] 65)
  go_enter Tryz.func44, Tryz.ntmps44
  go_upto_region 1 with fail
  generalize w.alloc (.cells #[.int .i64 (x : Int), .int .u64 (u : Int), .slice A n n, .int .i64 (z : Int)] 65) = w0 at hb0 g0 ⊢
  obtain ⟨b, hb⟩ : ∃ b, b = w.heap.size := ⟨_, rfl⟩
  rw [← hb] at g0 ⊢
  have HB := Lib.hid hb
  clear hb
  obtain ⟨q0, q1, q2, q3⟩ := b4cells g0
  have k3 := C3.out w0 hb0
  have k5 := C5.out w0 hb0
  have hbl := (Array.getElem?_eq_some_iff.1 g0).1
  have N1 : ∀ W, Below w0.heap.size w0 W → Calls Tryz.prog 17 #[.pointer (some ⟨f, 0, none⟩)] W fun e w' => e = .returned (.int .u64 (nx : Int)) ∧ Hid (Below w0.heap.size w0 w') ∧ w'.cell? ⟨b, 1, none⟩ = some (.int .u64 (u : Int)) ∧ w'.cell? ⟨f, 3, none⟩ = some (.int .u64 (floor : Int)) ∧ w'.cell? ⟨f, 5, none⟩ = some (.slice Ap 0 c) := fun W hW => by
    refine (HX.out W (hb0.trans (hW.mono hb0.size))).mono ?_
    rintro e w' ⟨rfl, hbb⟩
    have hb' := hW.trans (hbb.mono hW.size)
    have h4 := b4cells ((hb'.block b hbl).trans g0)
    exact ⟨rfl, Lib.hid hb', h4.2.1, C3.out w' (hb0.trans (hb'.mono hb0.size)), C5.out w' (hb0.trans (hb'.mono hb0.size))⟩
  have HB0 := Lib.hid hb0
  clear hb0 g0
  go_region_held3 (fun w' => w'.cell? ⟨b, 1, none⟩ = some (.int .u64 (u : Int)) ∧ w'.cell? ⟨f, 3, none⟩ = some (.int .u64 (floor : Int)) ∧ w'.cell? ⟨f, 5, none⟩ = some (.slice Ap 0 c)) (go_keep)
    (first
      | (go_at_call 17
         refine (N1 _ ?h1).mono ?_
         case h1 => first | exact Below.refl _ _ | exact (Below.refl _ _).drew
         rintro e w7 ⟨rfl, HN, q1, k3, k5⟩))
  go_wp2
  go_ret
  exact ⟨by simp, HB0.out.trans (HN.out.mono HB0.out.size)⟩
/-- A part's file, opened. -/
theorem open_part (B : List Nat) (d : Nat) (S : List Nat) (x acts : Nat) (P : List Part) (p : Part) (w : World) (hB : ∀ k ∈ B, k < w.heap.size) (TT : TabsOn S w) (hd : Disk w d S (P.map (Part.file x)) (hdA acts)) (hR : Rise P) (hp : p ∈ P) (hx : x < 64) (hu : p.u < 100000) (hr : Runs (x : Int) p.u p.L) (hL : p.L.length ≤ 1000) (hac : acts ≤ 50000) (hsum : (P.map (Part.z x)).sum ≤ 1000000) :
    Calls Tryz.prog 43 #[.pointer (some ⟨d, 0, none⟩), .string ⟨(nameL (x : Int) p.u).toArray⟩] w (AddGivesB B S d (P.map (Part.file x)) (hdA acts) x p.u p.L.length (p.z x) p.L w) := by
  have hsm : sumA (P.map (Part.file x)) = (P.map (Part.z x)).sum := by
    have := sumA_files x (P.map fun p => (⟨p, none⟩ : SegS))
    simpa [List.map_map, Function.comp_def] using this
  have hws := runs_wraps hr
  have hall : allL (wraps (p.L.map evL)) most = (p.L.map evL, (wraps (p.L.map evL)).length, 0) := by
    have := allL_wraps most (p.L.map evL) [] (fun l hl => by have := runs_text hr l hl; unfold most; omega)
    rw [List.append_nil, allL_nil] at this
    simpa using this
  have hpr := prefE_runs (x := (x : Int)) [] hr
  rw [List.append_nil] at hpr
  have hp' : prefE (x : Int) p.u (p.L.map evL) = p.L := by rw [hpr]; simp [prefE]
  have h := openS_allB B d S (P.map (Part.file x)) (hdA acts) x p.u (p.file x) (wraps (p.L.map evL)) w hB TT hd hx (by omega) (by omega) (hdA_fits (by omega)) (hdA_may _) (look_part hR hp) rfl (by rw [hall]; simp; omega) (by rw [hall]; show (wraps (p.L.map evL)).length ≤ _; omega) (by rw [hall]; intro l hl; have := runs_text hr l hl; omega) (by rw [hall, hp']; simp)
  rw [hall] at h
  simp only [hp', mendF, mendH, hall, if_true] at h
  rw [List.take_of_length_le (by simp)] at h
  exact h
end Go.Proofs.YtkphklmgbdljiaaGreatDoor.Fd
