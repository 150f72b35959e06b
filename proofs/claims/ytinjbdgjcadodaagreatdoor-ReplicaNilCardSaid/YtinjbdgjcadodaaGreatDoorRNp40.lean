/- Texts of the law ReplicaNil, put together. -/
import Derived.Test.YtinjbdgjcadodaaGreatDoorRNp25
set_option linter.unusedVariables false
set_option linter.unusedSimpArgs false
set_option maxRecDepth 100000
namespace Go.Proofs.YtinjbdgjcadodaaGreatDoor.Fol
open Go Go.RowKit Words Enc Go.Proofs.YtinjbdgjcadodaaGreatDoor.Q Evt Go.Proofs.YtinjbdgjcadodaaGreatDoor.Facts
theorem sumP_fit {F : Fo} (h : Ok F) (k : Key) {x : Nat} (hx : x < 18446744073709551616) (hp : qb x = x) : sumP F k x < 18446744073709551616 ∧ qb (sumP F k x) = sumP F k x := by
 unfold sumP
 cases hl : lk k F.L with
 | none => exact ⟨hx, hp⟩
 | some c =>
   simp only []
   split
   ·exact ⟨ob_lt _ _, qb_ob _⟩
   ·exact ⟨hx, hp⟩
section
variable {wr : Int} {sq tm : Nat} {key : ByteArray} {A : Option Addr} {n c num : Nat} {node : Int} {S : List Nat} {d mb : Nat} {F : Fo}
set_option maxHeartbeats 1000000 in
theorem chg_add (w : World) (h : FoldAt w S d mb F) (hk : key.size ≤ 64) (hq : num < 18446744073709551616) (hp : qb num = num) (hf : F.L.length < 1000000000000) :
  Calls Tryz.prog 166 #[.pointer (some ⟨d, 0, none⟩), .agg #[.int .i64 wr, .int .u64 (sq : Int), .int .u64 (tm : Int), .int .u8 3, .string key, .slice A n c, .float .f64 num, .int .i64 node]] w
   fun e w' => e = .returned (.tuple #[]) ∧ Makes S d mb w { F with L := ins key.data.toList ⟨2, [], sumP F key.data.toList num⟩ F.L } w' := by
 obtain ⟨L, hm, hL, ht⟩ := h.map
 have hLl : L.length < 1000000000000 := by have : L.length = F.L.length := by rw [← hL, mapV_len]
                                           omega
 have hr : Rise L := (mapV_rise MC.cel L).1 (by rw [hL]; exact h.ok.rise)
 have hb : Below w.heap.size w (w.alloc (.cells #[.int .i64 wr, .int .u64 (sq : Int), .int .u64 (tm : Int), .int .u8 3, .string key, .slice A n c, .float .f64 num, .int .i64 node] 38)).drew := ((Below.refl _ _).alloc (Nat.le_refl _) _).drew
 obtain ⟨u, hu⟩ : ∃ u, u = w.alloc (.cells #[.int .i64 wr, .int .u64 (sq : Int), .int .u64 (tm : Int), .int .u8 3, .string key, .slice A n c, .float .f64 num, .int .i64 node] 38) := ⟨_, rfl⟩
 rw [← hu] at hb
 have u0 := (h.below hb).c0
 have g : u.heap[w.heap.size]? = some (.cells #[.int .i64 wr, .int .u64 (sq : Int), .int .u64 (tm : Int), .int .u8 3, .string key, .slice A n c, .float .f64 num, .int .i64 node] 38 (0, 0)) := by rw [hu]; exact heap_alloc_new w _
 obtain ⟨e0, e1, e2, e3, e4, e5, e6, e7⟩ := box8 g
 have hbz : w.heap.size < u.heap.size := (Array.getElem?_eq_some_iff.1 g).1
 obtain ⟨B, hBe⟩ : ∃ B, B = w.heap.size := ⟨_, rfl⟩
 obtain ⟨R, hRe⟩ : ∃ R, R = sumP F key.data.toList num := ⟨_, rfl⟩
 obtain ⟨hR1, hR2⟩ := sumP_fit h.ok key.data.toList hq hp
 rw [← hRe] at hR1 hR2 ⊢
 have HBD := Lib.hid (fun (W : World) => (by kernel_rfl : (Instr.build 63 #[(0, .int .u8 2), (2, .float .f64 R)]).run Tryz.prog W = .ok (.agg #[.int .u8 2, .slice none 0 0, .float .f64 R]) W))
 have HC := Lib.hid (fun (W : World) (hW : Below u.drew.heap.size u.drew W) => (by
  have h1 := (h.below hb).below (w' := W) hW
  have g1 := (hW.block w.heap.size hbz).trans g
  have hs := sumF_any ⟨wr, sq, tm, 3, key, [], num, node⟩ A n c S d mb F W h1 (by show key.size ≤ _; omega)
  rw [← hBe] at g1
  refine ⟨h1.c0, box8 g1, ?_⟩
  rw [hRe]
  exact hs : W.cell? ⟨d, 0, none⟩ = some (.map (some mb)) ∧ (W.cell? ⟨B, 0, none⟩ = some (.int .i64 wr) ∧ W.cell? ⟨B, 1, none⟩ = some (.int .u64 (sq : Int)) ∧ W.cell? ⟨B, 2, none⟩ = some (.int .u64 (tm : Int)) ∧ W.cell? ⟨B, 3, none⟩ = some (.int .u8 3) ∧ W.cell? ⟨B, 4, none⟩ = some (.string key) ∧ W.cell? ⟨B, 5, none⟩ = some (.slice A n c) ∧ W.cell? ⟨B, 6, none⟩ = some (.float .f64 num) ∧ W.cell? ⟨B, 7, none⟩ = some (.int .i64 node)) ∧
   Calls Tryz.prog 230 #[.pointer (some ⟨d, 0, none⟩), .agg #[.int .i64 wr, .int .u64 (sq : Int), .int .u64 (tm : Int), .int .u8 3, .string key, .slice A n c, .float .f64 num, .int .i64 node]] W fun e' w' => e' = .returned (.float .f64 R) ∧ Below W.heap.size W w'))
 have RES := Lib.hid (fun (W W2 : World) (hW : Below u.drew.heap.size u.drew W) (hm2 : MapAt W2 mb (ins key.data.toList ⟨2, none, 0, [], R⟩ L)) (hturn : W.mapTurned W2 mb) =>
  put_makes (m := ⟨2, none, 0, [], R⟩) h (hb.trans (hW.mono hb.size)) hL ht hm2 hturn (by simpa using hk) ⟨by show (0 : Nat) ≤ _; omega, hR1, .inr rfl, hR2⟩ ⟨Sees.nil _ _, Nat.le_refl _, fun h => absurd h (by simp)⟩)
 have HST := Lib.hid (fun (W : World) (hW : Below u.drew.heap.size u.drew W) => ((hm.kept (hb.block mb hm.lt)).kept (hW.block mb (hm.kept (hb.block mb hm.lt)).lt)).run_store hr ⟨2, none, 0, [], R⟩ (k := key) (by omega) hLl)
 have HU := Lib.hid hu
 have HB := Lib.hid hBe
 clear h hm hL ht hr hu g hb hRe hR1 hR2 hbz
 go_enter Tryz.func166, Tryz.ntmps166
 go_wp2
 rw [← HU.out]
 rw [← HB.out] at e0 e1 e2 e3 e4 e5 e6 e7 ⊢
 clear hBe
 refine Facts.wp_region_tail 10 (n := 64) (by kernel_rfl) (by kernel_rfl) (by kernel_rfl) rfl [Facts.Pred.is (Value.pointer (some ⟨d, 0, none⟩)), Facts.Pred.is (Value.pointer (some ⟨d, 0, none⟩)), Facts.Pred.is (Value.pointer (some ⟨d, 0, none⟩)), Facts.Pred.is (Value.map (some mb)), Facts.Pred.is (Value.pointer (some ⟨B, 4, none⟩)), Facts.Pred.is (Value.string key), Facts.Pred.is (Value.pointer (some ⟨d, 0, none⟩)), Facts.Pred.is (Value.agg #[.int .i64 wr, .int .u64 (sq : Int), .int .u64 (tm : Int), .int .u8 3, .string key, .slice A n c, .float .f64 num, .int .i64 node]), Facts.Pred.is (Value.float .f64 R), Facts.Pred.is (Value.agg #[.int .u8 2, .slice none 0 0, .float .f64 R])] ?_ ?_
 ·refine ⟨?_, ?_, ?_, ?_, ?_, ?_, ?_, ?_, ?_, ?_, trivial⟩
  ·refine Facts.step_is (Value.pointer (some ⟨d, 0, none⟩)) fun a W hR hold hnew => ?_
   have f0 : a.tmps.getD 0 undef = Value.pointer (some ⟨d, 0, none⟩) := hold 0 (by kernel_rfl)
   refine ⟨Facts.wanted_free rfl, ?_, fun _ => rfl⟩; simp [go_sem, Act.eval, f0]
  ·refine Facts.step_is (Value.pointer (some ⟨d, 0, none⟩)) fun a W hR hold hnew => ?_
   have f30 : a.tmps.getD 30 undef = Value.pointer (some ⟨d, 0, none⟩) := hnew 0 30 (by kernel_rfl)
   refine ⟨Facts.wanted_free rfl, ?_, fun _ => rfl⟩; simp [go_sem, Act.eval, f30]
  ·refine Facts.step_is (Value.pointer (some ⟨d, 0, none⟩)) fun a W hR hold hnew => ?_
   have f31 : a.tmps.getD 31 undef = Value.pointer (some ⟨d, 0, none⟩) := hnew 1 31 (by kernel_rfl)
   refine ⟨Facts.wanted_free rfl, ?_, fun _ => rfl⟩; simp [go_sem, Act.eval, f31]
  ·refine Facts.step_is (Value.map (some mb)) fun a W hR hold hnew => ?_
   have f32 : a.tmps.getD 32 undef = Value.pointer (some ⟨d, 0, none⟩) := hnew 2 32 (by kernel_rfl)
   have s0 := (HC.out W hR).1
   refine ⟨Facts.wanted_free rfl, ?_, fun _ => rfl⟩; simp [go_sem, Act.eval, f32, s0]
  ·refine Facts.step_is (Value.pointer (some ⟨B, 4, none⟩)) fun a W hR hold hnew => ?_
   have f3 : a.tmps.getD 3 undef = Value.pointer (some ⟨B, 0, none⟩) := hold 3 (by kernel_rfl)
   refine ⟨Facts.wanted_free rfl, ?_, fun _ => rfl⟩; simp [go_sem, Act.eval, f3]
  ·refine Facts.step_is (Value.string key) fun a W hR hold hnew => ?_
   have f34 : a.tmps.getD 34 undef = Value.pointer (some ⟨B, 4, none⟩) := hnew 4 34 (by kernel_rfl)
   have s4 := (HC.out W hR).2.1.2.2.2.2.1
   refine ⟨Facts.wanted_free rfl, ?_, fun _ => rfl⟩; simp [go_sem, Act.eval, f34, s4]
  ·refine Facts.step_is (Value.pointer (some ⟨d, 0, none⟩)) fun a W hR hold hnew => ?_
   have f0 : a.tmps.getD 0 undef = Value.pointer (some ⟨d, 0, none⟩) := hold 0 (by kernel_rfl)
   refine ⟨Facts.wanted_free rfl, ?_, fun _ => rfl⟩; simp [go_sem, Act.eval, f0]
  ·refine Facts.step_is (Value.agg #[.int .i64 wr, .int .u64 (sq : Int), .int .u64 (tm : Int), .int .u8 3, .string key, .slice A n c, .float .f64 num, .int .i64 node]) fun a W hR hold hnew => ?_
   have f3 : a.tmps.getD 3 undef = Value.pointer (some ⟨B, 0, none⟩) := hold 3 (by kernel_rfl)
   obtain ⟨k0, k1, k2, k3, k4, k5, k6, k7⟩ := (HC.out W hR).2.1
   refine ⟨Facts.wanted_free rfl, ?_, fun _ => rfl⟩; simp [go_sem, Act.eval, f3, k0, k1, k2, k3, k4, k5, k6, k7]
  ·-- 8: Op.call { value (Operand.func 48), args := #[t36, t37], argT
   refine Facts.step_call fun a W hR hold hnew => ?_
   have f36 : a.tmps.getD 36 undef = Value.pointer (some ⟨d, 0, none⟩) := hnew 6 36 (by kernel_rfl); have f37 : a.tmps.getD 37 undef = Value.agg #[.int .i64 wr, .int .u64 (sq : Int), .int .u64 (tm : Int), .int .u8 3, .string key, .slice A n c, .float .f64 num, .int .i64 node] := hnew 7 37 (by kernel_rfl)
   refine ⟨Facts.wanted_free rfl, 230, #[Value.pointer (some ⟨d, 0, none⟩), Value.agg #[.int .i64 wr, .int .u64 (sq : Int), .int .u64 (tm : Int), .int .u8 3, .string key, .slice A n c, .float .f64 num, .int .i64 node]], by simp [go_sem, Act.eval, f36, f37], ?_⟩
   refine (HC.out W hR).2.2.mono ?_
   rintro e' w7 ⟨rfl, hb7⟩
   exact ⟨_, rfl, hb7, rfl⟩
  ·refine Facts.step_is (Value.agg #[.int .u8 2, .slice none 0 0, .float .f64 R]) fun a W hR hold hnew => ?_
   have f38 : a.tmps.getD 38 undef = Value.float .f64 R := hnew 8 38 (by kernel_rfl)
   have f38b := f38
   rw [Array.getD_eq_getD_getElem?] at f38b
   refine ⟨Facts.wanted_free rfl, ?_, fun _ => rfl⟩; simp [go_sem, Act.eval, f38, f38b]
 ·intro a w3 hR' hsize hdef hnew hold
  have f33 : a.tmps.getD 33 undef = Value.map (some mb) := hnew 3 33 (by omega) (by kernel_rfl)
  have f35 : a.tmps.getD 35 undef = Value.string key := hnew 5 35 (by omega) (by kernel_rfl)
  have f39 : a.tmps.getD 39 undef = Value.agg #[.int .u8 2, .slice none 0 0, .float .f64 R] := hnew 9 39 (by omega) (by kernel_rfl)
  obtain ⟨tm, df⟩ := a
  simp only [] at hdef hsize f33 f35 f39
  obtain ⟨xq, hxq, hlit⟩ := Facts.lits tm hsize Facts.idx64 Facts.idx64_eq
  rw [hxq] at f33 f35 f39
  simp only [Facts.idx64, List.map_cons, List.map_nil, f33, f35, f39] at hlit
  clear f33 f35 f39 hsize hnew hold hxq
  subst hlit
  subst hdef
  try simp only []
  obtain ⟨w4, hst, hm2, hturn⟩ := HST.out w3 hR'
  unfold MC.val at hst
  replace hst : (Instr.mapUpdate 208 (.map (some mb)) (.string key) (.agg #[.int .u8 2, .slice none 0 0, .float .f64 R])).run Tryz.prog w3 = .ok () w4 := hst
  have R4 := Lib.hid (RES.out w3 w4 hR' hm2 hturn)
  clear hm2 hturn hR' u0 e0 e1 e2 e3 e4 e5 e6 e7
  simp only [List.drop_succ_cons, List.drop_zero]
  go_wp2
  go_end0
  exact ⟨rfl, R4.out⟩
end
structure Plain (e : Ev) : Prop where
 right : Right e
 num : e.num < 18446744073709551616
 plain : qb e.num = e.num
theorem chg_any (e : Ev) (A : Option Addr) (n c : Nat) (S : List Nat) (d mb : Nat) (F : Fo) (w : World) (h : FoldAt w S d mb F) (hp : Plain e) (hs : Sees w A n e.text) (ho : Out S A n) (hc : n ≤ c) (hf : F.L.length < 1000000000000) :
  Calls Tryz.prog 166 #[.pointer (some ⟨d, 0, none⟩), e.val A n c] w fun e' w' => e' = .returned (.tuple #[]) ∧ Makes S d mb w (changeP F e) w' := by
 obtain ⟨wr, sq, tm, kd, key, text, num, node⟩ := e
 obtain ⟨⟨r1, r2, r3, r4, r5, r6, r7, r8, r9, r10, r11⟩, hq, hpl⟩ := hp
 simp only at r1 r2 r7 r8 r9 r10 r11 hq hpl hs
 rcases (show kd = 1 ∨ kd = 2 ∨ kd = 3 ∨ kd = 4 ∨ kd = 5 ∨ kd = 6 by omega) with rfl | rfl | rfl | rfl | rfl | rfl
 ·exact change_set w h (r10 (by omega)).2 text hs ho hc (by rw [← hs.1]; exact r11 rfl) hf
 ·exact change_put w h (r10 (by omega)).2 hq hpl hf
 ·exact chg_add w h (r10 (by omega)).2 hq hpl hf
 ·exact change_drop w h (r10 (by omega)).2
 ·exact change_join w h (r9 rfl)
 ·exact change_retire w h ⟨r1, r2⟩
end Go.Proofs.YtinjbdgjcadodaaGreatDoor.Fol
