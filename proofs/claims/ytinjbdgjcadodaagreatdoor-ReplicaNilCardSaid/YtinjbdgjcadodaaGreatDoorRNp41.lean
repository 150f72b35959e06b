/- Texts of the law ReplicaNil, put together. -/
import Derived.Deep.RegionHeld3
import Derived.Test.YtinjbdgjcadodaaGreatDoorRNp40
set_option linter.unusedVariables false
set_option linter.unusedSimpArgs false
set_option maxRecDepth 100000
namespace Go.Proofs.YtinjbdgjcadodaaGreatDoor.Fol
open Go Go.RowKit Words Enc Go.Proofs.YtinjbdgjcadodaaGreatDoor.Q Evt Go.Proofs.YtinjbdgjcadodaaGreatDoor.Facts
theorem row_H {F : Fo} (h : Ok F) (mb : Nat) {i : Nat} (hi : i < 64) (s : Nat) : (row mb F).setIfInBounds (129 + i) (.int .u64 (s : Int)) = row mb { F with H := F.H.set i s } := by
 unfold row cells
 simp only [List.setIfInBounds_toArray]
 congr 1
 rw [show 129 + i = (64 + (64 + i)) + 1 by omega, List.set_cons_succ, List.set_append_right _ _ (by rw [List.length_map, h.j]; omega), List.length_map, h.j, Nat.add_sub_cancel_left,
  List.set_append_right _ _ (by rw [List.length_map, h.r]; omega), List.length_map, h.r, Nat.add_sub_cancel_left, List.set_append_left _ _ (by rw [List.length_map, h.h]; exact hi), List.map_set]
theorem row_tail {F : Fo} (h : Ok F) (mb : Nat) (k : Nat) (v : Value) : (row mb F).setIfInBounds (193 + k) v =
  (.map (some mb) :: (F.J.map Value.bool ++ (F.R.map Value.bool ++ (F.H.map (fun n : Nat => Value.int .u64 (n : Int)) ++ [Value.int .u64 (F.time : Int), .int .i64 (F.wr : Int), .int .u64 (F.mark : Int)].set k v)))).toArray := by
 unfold row cells
 simp only [List.setIfInBounds_toArray]
 congr 1
 rw [show 193 + k = (64 + (64 + (64 + k))) + 1 by omega, List.set_cons_succ, List.set_append_right _ _ (by rw [List.length_map, h.j]; omega), List.length_map, h.j, Nat.add_sub_cancel_left,
  List.set_append_right _ _ (by rw [List.length_map, h.r]; omega), List.length_map, h.r, Nat.add_sub_cancel_left, List.set_append_right _ _ (by rw [List.length_map, h.h]; omega), List.length_map, h.h, Nat.add_sub_cancel_left]
theorem row_time {F : Fo} (h : Ok F) (mb t : Nat) : (row mb F).setIfInBounds 193 (.int .u64 (t : Int)) = row mb { F with time := t } := row_tail h mb 0 _
theorem row_wr {F : Fo} (h : Ok F) (mb t : Nat) : (row mb F).setIfInBounds 194 (.int .i64 (t : Int)) = row mb { F with wr := t } := row_tail h mb 1 _
theorem row_mark {F : Fo} (h : Ok F) (mb t : Nat) : (row mb F).setIfInBounds 195 (.int .u64 (t : Int)) = row mb { F with mark := t } := row_tail h mb 2 _
theorem ok_H {F : Fo} (h : Ok F) (i : Nat) {s : Nat} (hs : s < 9223372036854775808) : Ok { F with H := F.H.set i s } :=
 ⟨h.rise, h.j, h.r, by simp [h.h], fun x hx => by
  rcases List.mem_or_eq_of_mem_set hx with hx | rfl
  ·exact h.hs x hx
  ·exact hs, h.time, h.wr, h.mark, h.cel, h.plain⟩
theorem ok_time {F : Fo} (h : Ok F) {t : Nat} (ht : t < 9223372036854775808) : Ok { F with time := t } := ⟨h.rise, h.j, h.r, h.h, h.hs, ht, h.wr, h.mark, h.cel, h.plain⟩
theorem ok_wr {F : Fo} (h : Ok F) {t : Nat} (ht : t ≤ 63) : Ok { F with wr := t } := ⟨h.rise, h.j, h.r, h.h, h.hs, h.time, ht, h.mark, h.cel, h.plain⟩
theorem ok_mark {F : Fo} (h : Ok F) {t : Nat} (ht : t < 18446744073709551616) : Ok { F with mark := t } := ⟨h.rise, h.j, h.r, h.h, h.hs, h.time, h.wr, ht, h.cel, h.plain⟩
theorem plain_of {e : Ev} (h : Right e) (hq : e.num < 18446744073709551616) : Plain (plainE e) := by
 refine ⟨plain_right h, plain_num hq, ?_⟩
 simp only [plainE]
 split
 ·exact qb_qb _
 ·exact qb_zero
theorem change_rest (F : Fo) (e : Ev) : (change F e).H = F.H ∧ (change F e).time = F.time ∧ (change F e).wr = F.wr ∧ (change F e).mark = F.mark := by
 unfold change
 repeat' split
 all_goals exact ⟨rfl, rfl, rfl, rfl⟩
theorem behind_cmp {F : Fo} {e : Ev} : behind F e ↔ ¬ cmpS e.time e.writer F.time F.wr ≤ 0 := by
 unfold behind
 rw [Int.not_le, cmpS_gt]
theorem FoldAt.turnLast {w w' : World} {S : List Nat} {d mb : Nat} {F : Fo} (h : FoldAt w S d mb F) {i s t : Nat} (hi : i < 64) (hs : s < 9223372036854775808) (ht : t < 9223372036854775808) (hb : Beside [d] w w')
  (hr : w'.heap[d]? = some (.cells ((((Fol.row mb F).setIfInBounds (129 + i) (.int .u64 (s : Int))).setIfInBounds 193 (.int .u64 (t : Int))).setIfInBounds 194 (.int .i64 (i : Int))) 213 (0, 0))) :
  FoldAt w' S d mb { F with H := F.H.set i s, time := t, wr := i } := by
 have h1 := ok_H h.ok i hs
 have h2 := ok_time h1 ht
 have h3 := ok_wr h2 (t := i) (by omega)
 refine h.turnRow hb ?_ rfl h3
 rw [hr, row_H h.ok mb hi, row_time h1, row_wr h2]
section
variable {i sq tm kd : Nat} {key : ByteArray} {A : Option Addr} {n c num : Nat} {node : Int} {S : List Nat} {d mb : Nat} {F : Fo} {text : List UInt8}
set_option maxHeartbeats 4000000 in
theorem apply_right (w : World) (h : FoldAt w S d mb F) (hr : Right ⟨(i : Int), sq, tm, kd, key, text, num, node⟩) (hq : num < 18446744073709551616) (hs : Sees w A n text) (ho : Out [d, mb] A n) (hS : ∀ x ∈ S, x < w.heap.size) (hf : F.L.length < 1000000000000) (hn : n ≤ 1000000000)
  (hfit : (⟨(i : Int), sq, tm, kd, key, text, num, node⟩ : Ev).Fit) (hkl : key.size ≤ 9223372036854775807) :
  Calls Tryz.prog 105 #[.pointer (some ⟨d, 0, none⟩), .agg #[.int .i64 (i : Int), .int .u64 (sq : Int), .int .u64 (tm : Int), .int .u8 (kd : Int), .string key, .slice A n c, .float .f64 num, .int .i64 node]] w fun e' w' => e' = .returned (.int .i64 (applyE F ⟨(i : Int), sq, tm, kd, key, text, num, node⟩ : Int)) ∧ Makes S d mb w (applyF F ⟨(i : Int), sq, tm, kd, key, text, num, node⟩) w' := by
 obtain ⟨ev, hev⟩ : ∃ ev : Ev, ev = ⟨(i : Int), sq, tm, kd, key, text, num, node⟩ := ⟨_, rfl⟩
 rw [← hev] at hr hfit ⊢
 have hval : ev.val A n c = .agg #[.int .i64 (i : Int), .int .u64 (sq : Int), .int .u64 (tm : Int), .int .u8 (kd : Int), .string key, .slice A n c, .float .f64 num, .int .i64 node] := by rw [hev]; rfl
 have htx : ev.text = text := by rw [hev]
 have hi : i < 64 := by have := hr.w2; rw [hev] at this; simp only at this; omega
 have hi2 : (i : Int) < 64 := by omega
 have hsq : sq < 9223372036854775808 := by have := hr.s2; rw [hev] at this; exact this
 have htm : tm < 9223372036854775808 := by have := hr.t2; rw [hev] at this; exact this
 have h0 : rightE ev = 0 := (right_iff ev).2 hr
 have hAE : applyE F ev = if ¬ behind F ev then 10 else if sq ≠ F.H.getD i 0 + 1 then 9 else 0 := by
  unfold applyE
  rw [h0, hev]
  rfl
 have BX := Lib.hid (fun (W : World) hW => boxed (W := W) #[.int .i64 (i : Int), .int .u64 (sq : Int), .int .u64 (tm : Int), .int .u8 (kd : Int), .string key, .slice A n c, .float .f64 num, .int .i64 node] w hW)
 obtain ⟨B, hBe⟩ : ∃ B, B = w.heap.size := ⟨_, rfl⟩
 have hlt := h.lt
 have hBd : B ≠ d := by omega
 have hBm : B ≠ mb := by omega
 have hn63 : text.length ≤ 9223372036854775807 := by rw [hs.1]; omega
 have RT := Lib.hid (fun (W : World) => (by
  have := right_any ev A n c W hfit (by rw [htx]; exact hs.1.symm) (by rw [htx]; exact hn63) (by rw [hev]; exact hkl)
  rw [hval, h0] at this
  exact this : Calls Tryz.prog 36 #[.agg #[.int .i64 (i : Int), .int .u64 (sq : Int), .int .u64 (tm : Int), .int .u8 (kd : Int), .string key, .slice A n c, .float .f64 num, .int .i64 node]] W fun e' w' => e' = .returned (.int .i64 0) ∧ Below W.heap.size W w'))
 have AT : ∀ W, Calls Tryz.prog 165 #[.agg #[.int .i64 (i : Int), .int .u64 (sq : Int), .int .u64 (tm : Int), .int .u8 (kd : Int), .string key, .slice A n c, .float .f64 num, .int .i64 node]] W fun e' w' => e' = .returned (.agg #[.int .u64 (tm : Int), .int .i64 (i : Int)]) ∧ Below W.heap.size W w' := fun W => by
  have := at_any ev A n c W
  rw [hval] at this
  rw [hev] at this
  exact this
 obtain ⟨T0, hT0⟩ : ∃ T0, T0 = F.time := ⟨_, rfl⟩
 obtain ⟨W0, hW0⟩ : ∃ W0, W0 = F.wr := ⟨_, rfl⟩
 obtain ⟨X, hX⟩ : ∃ X, X = cmpS tm (i : Int) T0 (W0 : Int) := ⟨_, rfl⟩
 obtain ⟨Z, hZ⟩ : ∃ Z, decide (X ≤ 0) = Z := ⟨_, rfl⟩
 have CM : ∀ W, Calls Tryz.prog 164 #[.agg #[.int .u64 (tm : Int), .int .i64 (i : Int)], .agg #[.int .u64 (T0 : Int), .int .i64 (W0 : Int)]] W fun e' w' => e' = .returned (.int .i64 X) ∧ Below W.heap.size W w' := fun W => by
  rw [hX]
  exact compare_any tm (i : Int) T0 (W0 : Int) W
 have hbeh : behind F ev ↔ Z = false := by
  rw [behind_cmp, ← hZ, hX, hT0, hW0, hev]
  simp
 obtain ⟨h0H, hh0⟩ : ∃ h0, h0 = F.H.getD i 0 := ⟨_, rfl⟩
 have hh63 : h0H < 9223372036854775808 := by
  rw [hh0]
  have hl : i < F.H.length := by rw [h.ok.h]; exact hi
  have : F.H.getD i 0 ∈ F.H := by rw [List.getD_eq_getElem?_getD, List.getElem?_eq_getElem hl]; exact List.getElem_mem hl
  exact h.ok.hs _ this
 have hwr : IntKind.u64.wrap ((h0H : Int) + 1) = (h0H : Int) + 1 := by rw [IntKind.wrap_u64]; omega
 obtain ⟨Y, hY⟩ : ∃ Y, (!decide (sq = h0H + 1)) = Y := ⟨_, rfl⟩
 have hY1 : ((sq : Int) == (h0H : Int) + 1) = !Y := by
  rw [← hY, Bool.not_not]
  by_cases hc : sq = h0H + 1
  ·rw [decide_eq_true hc, beq_iff_eq]; omega
  ·rw [decide_eq_false hc, beq_eq_false_iff_ne]; omega
 have hY2 : decide ((sq : Int) = (h0H : Int) + 1) = !Y := by
  rw [← hY, Bool.not_not]
  exact decide_eq_decide.2 (by omega)
 have hY3 : decide (sq = h0H + 1) = !Y := by rw [← hY, Bool.not_not]
 have hAE2 : applyE F ev = if Z then 10 else if Y then 9 else 0 := by
  rw [hAE, ← hh0]
  cases Z with
  | true => simp [hbeh]
  | false =>
    rw [if_neg (by simp [hbeh])]
    cases Y with
    | true => rw [if_pos (by simpa using hY3)]; rfl
    | false => rw [if_neg (by simpa using hY3)]; rfl
 obtain ⟨XE, hXE⟩ : ∃ XE, XE = applyE F ev := ⟨_, rfl⟩
 obtain ⟨FF, hFF⟩ : ∃ FF, FF = applyF F ev := ⟨_, rfl⟩
 rw [← hXE, ← hFF]
 rw [← hXE] at hAE2
 have SAME : XE ≠ 0 → FF = F := fun hne => by rw [hFF]; unfold applyF; rw [← hXE, if_neg hne]
 have TAKEN : XE = 0 → FF = { change F ev with H := F.H.set i sq, time := tm, wr := i, mark := hashL F.mark (evL ev) } := fun he => by
  rw [hFF]; unfold applyF taken; rw [← hXE, if_pos he, hev]; rfl
 have PL := Lib.hid (fun (W : World) (hW : Below w.heap.size w W) => (by
  have := plain_new ev A n c W (by rw [htx]; exact hs.below hW) (by omega)
  rw [hval] at this
  exact this : Calls Tryz.prog 39 #[.agg #[.int .i64 (i : Int), .int .u64 (sq : Int), .int .u64 (tm : Int), .int .u8 (kd : Int), .string key, .slice A n c, .float .f64 num, .int .i64 node]] W (PlainNew ev W)))
 have EN := Lib.hid (fun (W W1 : World) (hW : Below w.heap.size w W) (hb : Beside [d, mb] W W1) => (by
  have := encode_any ev A n c W1 (by rw [htx]; exact (hs.below hW).beside hb ho) (by rw [hev]; exact hq) hr
  rw [hval] at this
  exact this : Calls Tryz.prog 168 #[.agg #[.int .i64 (i : Int), .int .u64 (sq : Int), .int .u64 (tm : Int), .int .u8 (kd : Int), .string key, .slice A n c, .float .f64 num, .int .i64 node]] W1 (Made.New W1.heap.size (evL ev).length (evL ev) W1)))
 have PO := Lib.hid (plain_of hr (by rw [hev]; exact hq))
 have HAE := Lib.hid hAE2
 have HSAME := Lib.hid SAME
 have HTAKEN := Lib.hid TAKEN
 have HF := Lib.hid h
 have HSZ := Lib.hid hS
 have HLEN := Lib.hid (evL_len hr)
 have HTXL := Lib.hid (show ev.text.length ≤ 1000000000 by rw [htx, hs.1]; exact hn)
 have HCP := Lib.hid (change_plain F ev hr.k1 hr.k2)
 have HCR := Lib.hid (change_rest F ev)
 have HT := Lib.hid hT0
 have HW := Lib.hid hW0
 have HH := Lib.hid hh0
 have HB := Lib.hid hBe
 have HM63 := Lib.hid h.ok.mark
 have hbd : (i : Int) < 64 := hi2
 clear SAME TAKEN hAE2 hAE hbeh hX hXE hFF h hs ho hr hfit hval htx hev h0 hn63 hS hlt hT0 hW0 hh0 hY hkl
 go_enter Tryz.func105, Tryz.ntmps105
 go_wp2_with fail
 refine (RT.out _).mono ?_
 rintro e' w1 ⟨rfl, hb1⟩
 obtain ⟨b1, g1, z1⟩ := BX.out w1 (by simpa using hb1)
 rw [← hBe] at g1 z1
 have HC := Lib.hid (fun (W : World) (hW : Below w1.drew.heap.size w1.drew W) => (⟨box8 ((hW.block B z1).trans g1), (by
  have hc := (HF.out.below (b1.drew.trans (hW.mono b1.size))).cT
  rw [← HT.out, ← HW.out] at hc
  exact ⟨hc.1, hc.2.1⟩), AT W, CM W⟩ :
  (W.cell? ⟨B, 0, none⟩ = some (.int .i64 (i : Int)) ∧ W.cell? ⟨B, 1, none⟩ = some (.int .u64 (sq : Int)) ∧ W.cell? ⟨B, 2, none⟩ = some (.int .u64 (tm : Int)) ∧ W.cell? ⟨B, 3, none⟩ = some (.int .u8 (kd : Int)) ∧ W.cell? ⟨B, 4, none⟩ = some (.string key) ∧ W.cell? ⟨B, 5, none⟩ = some (.slice A n c) ∧ W.cell? ⟨B, 6, none⟩ = some (.float .f64 num) ∧ W.cell? ⟨B, 7, none⟩ = some (.int .i64 node)) ∧
  (W.cell? ⟨d, 193, none⟩ = some (.int .u64 (T0 : Int)) ∧ W.cell? ⟨d, 194, none⟩ = some (.int .i64 (W0 : Int))) ∧
  Calls Tryz.prog 165 #[.agg #[.int .i64 (i : Int), .int .u64 (sq : Int), .int .u64 (tm : Int), .int .u8 (kd : Int), .string key, .slice A n c, .float .f64 num, .int .i64 node]] W (fun e' w' => e' = .returned (.agg #[.int .u64 (tm : Int), .int .i64 (i : Int)]) ∧ Below W.heap.size W w') ∧
  Calls Tryz.prog 164 #[.agg #[.int .u64 (tm : Int), .int .i64 (i : Int)], .agg #[.int .u64 (T0 : Int), .int .i64 (W0 : Int)]] W (fun e' w' => e' = .returned (.int .i64 X) ∧ Below W.heap.size W w')))
 have G1 := Lib.hid (And.intro g1 z1)
 have B1 := Lib.hid b1
 have HAT := Lib.hid AT
 clear g1 z1 b1 hb1 AT CM
 go_wp2_with fail
 rw [← HB.out]
 clear hBe
 refine Facts.wp_region_preds (n := 61) (by kernel_rfl) (by kernel_rfl) rfl [Facts.Pred.is (Value.agg #[.int .i64 (i : Int), .int .u64 (sq : Int), .int .u64 (tm : Int), .int .u8 (kd : Int), .string key, .slice A n c, .float .f64 num, .int .i64 node]), Facts.Pred.is (Value.agg #[.int .u64 (tm : Int), .int .i64 (i : Int)]), Facts.Pred.is (Value.pointer (some ⟨d, 0, none⟩)), Facts.Pred.is (Value.pointer (some ⟨d, 0, none⟩)), Facts.Pred.is (Value.pointer (some ⟨d, 193, none⟩)), Facts.Pred.is (Value.agg #[.int .u64 (T0 : Int), .int .i64 (W0 : Int)]), Facts.Pred.is (Value.int .i64 X), Facts.Pred.is (Value.bool Z), Facts.Pred.is (Value.bool Z)] ?_ ?_
 ·refine ⟨?_, ?_, ?_, ?_, ?_, ?_, ?_, ?_, ?_, trivial⟩
  ·refine Facts.step_is (Value.agg #[.int .i64 (i : Int), .int .u64 (sq : Int), .int .u64 (tm : Int), .int .u8 (kd : Int), .string key, .slice A n c, .float .f64 num, .int .i64 node]) fun a W hR hold hnew => ?_
   have f3 : a.tmps.getD 3 undef = Value.pointer (some ⟨B, 0, none⟩) := hold 3 (by kernel_rfl)
   obtain ⟨k0, k1, k2, k3, k4, k5, k6, k7⟩ := (HC.out W hR).1
   refine ⟨Facts.wanted_free rfl, ?_, fun _ => rfl⟩; simp [go_sem, Act.eval, f3, k0, k1, k2, k3, k4, k5, k6, k7]
  ·-- 1: Op.call { value (Operand.func 15), args := #[t14], argTypes
   refine Facts.step_call fun a W hR hold hnew => ?_
   have f14 : a.tmps.getD 14 undef = Value.agg #[.int .i64 (i : Int), .int .u64 (sq : Int), .int .u64 (tm : Int), .int .u8 (kd : Int), .string key, .slice A n c, .float .f64 num, .int .i64 node] := hnew 0 14 (by kernel_rfl)
   refine ⟨Facts.wanted_free rfl, 165, #[Value.agg #[.int .i64 (i : Int), .int .u64 (sq : Int), .int .u64 (tm : Int), .int .u8 (kd : Int), .string key, .slice A n c, .float .f64 num, .int .i64 node]], by simp [go_sem, Act.eval, f14], ?_⟩
   refine ((HC.out W hR).2.2.1).mono ?_
   rintro e' w7 ⟨rfl, hb7⟩
   exact ⟨_, rfl, hb7, rfl⟩
  ·refine Facts.step_is (Value.pointer (some ⟨d, 0, none⟩)) fun a W hR hold hnew => ?_
   have f0 : a.tmps.getD 0 undef = Value.pointer (some ⟨d, 0, none⟩) := hold 0 (by kernel_rfl)
   refine ⟨Facts.wanted_free rfl, ?_, fun _ => rfl⟩; simp [go_sem, Act.eval, f0]
  ·refine Facts.step_is (Value.pointer (some ⟨d, 0, none⟩)) fun a W hR hold hnew => ?_
   have f16 : a.tmps.getD 16 undef = Value.pointer (some ⟨d, 0, none⟩) := hnew 2 16 (by kernel_rfl)
   refine ⟨Facts.wanted_free rfl, ?_, fun _ => rfl⟩; simp [go_sem, Act.eval, f16]
  ·refine Facts.step_is (Value.pointer (some ⟨d, 193, none⟩)) fun a W hR hold hnew => ?_
   have f17 : a.tmps.getD 17 undef = Value.pointer (some ⟨d, 0, none⟩) := hnew 3 17 (by kernel_rfl)
   refine ⟨Facts.wanted_free rfl, ?_, fun _ => rfl⟩; simp [go_sem, Act.eval, f17]
  ·refine Facts.step_is (Value.agg #[.int .u64 (T0 : Int), .int .i64 (W0 : Int)]) fun a W hR hold hnew => ?_
   have f18 : a.tmps.getD 18 undef = Value.pointer (some ⟨d, 193, none⟩) := hnew 4 18 (by kernel_rfl)
   obtain ⟨s3, s4⟩ := (HC.out W hR).2.1
   refine ⟨Facts.wanted_free rfl, ?_, fun _ => rfl⟩; simp [go_sem, Act.eval, f18, s3, s4]
  ·-- 6: Op.call { value (Operand.func 14), args := #[t15, t19], argT
   refine Facts.step_call fun a W hR hold hnew => ?_
   have f15 : a.tmps.getD 15 undef = Value.agg #[.int .u64 (tm : Int), .int .i64 (i : Int)] := hnew 1 15 (by kernel_rfl); have f19 : a.tmps.getD 19 undef = Value.agg #[.int .u64 (T0 : Int), .int .i64 (W0 : Int)] := hnew 5 19 (by kernel_rfl)
   refine ⟨Facts.wanted_free rfl, 164, #[Value.agg #[.int .u64 (tm : Int), .int .i64 (i : Int)], Value.agg #[.int .u64 (T0 : Int), .int .i64 (W0 : Int)]], by simp [go_sem, Act.eval, f15, f19], ?_⟩
   refine ((HC.out W hR).2.2.2).mono ?_
   rintro e' w7 ⟨rfl, hb7⟩
   exact ⟨_, rfl, hb7, rfl⟩
  ·refine Facts.step_is (Value.bool Z) fun a W hR hold hnew => ?_
   have f20 : a.tmps.getD 20 undef = Value.int .i64 X := hnew 6 20 (by kernel_rfl)
   refine ⟨Facts.wanted_free rfl, ?_, fun _ => rfl⟩; simp [go_sem, Act.eval, f20, hZ]
  ·refine Facts.step_is (Value.bool Z) fun a W hR hold hnew => ?_
   have f21 : a.tmps.getD 21 undef = Value.bool Z := hnew 7 21 (by kernel_rfl)
   refine ⟨Facts.wanted_free rfl, ?_, fun _ => rfl⟩; simp [go_sem, Act.eval, f21]
 ·intro a w3 hR' hsize hdef hnew hold
  have f0 : a.tmps.getD 0 undef = Value.pointer (some ⟨d, 0, none⟩) := hold 0 (not_dst (by kernel_rfl))
  have f3 : a.tmps.getD 3 undef = Value.pointer (some ⟨B, 0, none⟩) := hold 3 (not_dst (by kernel_rfl))
  have f4 : a.tmps.getD 4 undef = Value.int .i64 0 := hold 4 (not_dst (by kernel_rfl))
  have f13 : a.tmps.getD 13 undef = Value.bool Z := hnew 8 13 (by kernel_rfl)
  obtain ⟨tm, df⟩ := a
  simp only [] at hdef hsize f0 f3 f4 f13
  obtain ⟨xq, hxq, hlit⟩ := Facts.lits tm hsize Facts.idx61 Facts.idx61_eq
  rw [hxq] at f0 f3 f4 f13
  simp only [Facts.idx61, List.map_cons, List.map_nil, f0, f3, f4, f13] at hlit
  clear f0 f3 f4 f13 hsize hnew hold hxq
  subst hlit
  subst hdef
  try simp only []
  have B3 := Lib.hid (B1.out.trans (((Below.refl _ _).drew.trans hR').mono B1.out.size))
  have G3 := Lib.hid (And.intro ((hR'.block B G1.out.2).trans G1.out.1) (Nat.lt_of_lt_of_le G1.out.2 hR'.size))
  clear hR'
  cases Z with
  | true =>
    have hx : XE = 10 := HAE.out
    have RES : Hid (Makes S d mb w FF w3) := Lib.hid (by rw [HSAME.out (by omega)]; exact ⟨HF.out.below B3.out, Beside.of_below B3.out _⟩)
    go_wp2
    go_ret
    exact ⟨rfl, RES.out⟩
  | false =>
  have HC8 := Lib.hid (fun (W : World) (hW : Below w3.drew.heap.size w3.drew W) => (by
   have k := box8 ((hW.block B G3.out.2).trans G3.out.1)
   have hc := (HF.out.below (B3.out.drew.trans (hW.mono B3.out.size))).cH hi
   rw [← HH.out] at hc
   exact ⟨k.2.1, k.1, hc⟩ : W.cell? ⟨B, 1, none⟩ = some (.int .u64 (sq : Int)) ∧ W.cell? ⟨B, 0, none⟩ = some (.int .i64 (i : Int)) ∧ W.cell? ⟨d, 129 + i, none⟩ = some (.int .u64 (h0H : Int))))
  go_wp2_with fail
  refine Facts.wp_region_preds (n := 61) (by kernel_rfl) (by kernel_rfl) rfl [Facts.Pred.is (Value.pointer (some ⟨B, 1, none⟩)), Facts.Pred.is (Value.int .u64 (sq : Int)), Facts.Pred.is (Value.pointer (some ⟨d, 0, none⟩)), Facts.Pred.is (Value.pointer (some ⟨B, 0, none⟩)), Facts.Pred.is (Value.int .i64 (i : Int)), Facts.Pred.is (Value.pointer (some ⟨d, 0, none⟩)), Facts.Pred.is (Value.pointer (some ⟨d, 129, none⟩)), Facts.Pred.is (Value.pointer (some ⟨d, 129 + i, none⟩)), Facts.Pred.is (Value.int .u64 (h0H : Int)), Facts.Pred.is (Value.int .u64 ((h0H : Int) + 1)), Facts.Pred.is (Value.bool Y), Facts.Pred.is (Value.bool Y)] ?_ ?_
  ·refine ⟨?_, ?_, ?_, ?_, ?_, ?_, ?_, ?_, ?_, ?_, ?_, ?_, trivial⟩
   ·refine Facts.step_is (Value.pointer (some ⟨B, 1, none⟩)) fun a W hR hold hnew => ?_
    have f3 : a.tmps.getD 3 undef = Value.pointer (some ⟨B, 0, none⟩) := hold 3 (by kernel_rfl)
    refine ⟨Facts.wanted_free rfl, ?_, fun _ => rfl⟩; simp [go_sem, Act.eval, f3]
   ·refine Facts.step_is (Value.int .u64 (sq : Int)) fun a W hR hold hnew => ?_
    have f23 : a.tmps.getD 23 undef = Value.pointer (some ⟨B, 1, none⟩) := hnew 0 23 (by kernel_rfl)
    have s1 := (HC8.out W hR).1
    refine ⟨Facts.wanted_free rfl, ?_, fun _ => rfl⟩; simp [go_sem, Act.eval, f23, s1]
   ·refine Facts.step_is (Value.pointer (some ⟨d, 0, none⟩)) fun a W hR hold hnew => ?_
    have f0 : a.tmps.getD 0 undef = Value.pointer (some ⟨d, 0, none⟩) := hold 0 (by kernel_rfl)
    refine ⟨Facts.wanted_free rfl, ?_, fun _ => rfl⟩; simp [go_sem, Act.eval, f0]
   ·refine Facts.step_is (Value.pointer (some ⟨B, 0, none⟩)) fun a W hR hold hnew => ?_
    have f3 : a.tmps.getD 3 undef = Value.pointer (some ⟨B, 0, none⟩) := hold 3 (by kernel_rfl)
    refine ⟨Facts.wanted_free rfl, ?_, fun _ => rfl⟩; simp [go_sem, Act.eval, f3]
   ·refine Facts.step_is (Value.int .i64 (i : Int)) fun a W hR hold hnew => ?_
    have f26 : a.tmps.getD 26 undef = Value.pointer (some ⟨B, 0, none⟩) := hnew 3 26 (by kernel_rfl)
    have s0 := (HC8.out W hR).2.1
    refine ⟨Facts.wanted_free rfl, ?_, fun _ => rfl⟩; simp [go_sem, Act.eval, f26, s0]
   ·refine Facts.step_is (Value.pointer (some ⟨d, 0, none⟩)) fun a W hR hold hnew => ?_
    have f25 : a.tmps.getD 25 undef = Value.pointer (some ⟨d, 0, none⟩) := hnew 2 25 (by kernel_rfl)
    refine ⟨Facts.wanted_free rfl, ?_, fun _ => rfl⟩; simp [go_sem, Act.eval, f25]
   ·refine Facts.step_is (Value.pointer (some ⟨d, 129, none⟩)) fun a W hR hold hnew => ?_
    have f28 : a.tmps.getD 28 undef = Value.pointer (some ⟨d, 0, none⟩) := hnew 5 28 (by kernel_rfl)
    refine ⟨Facts.wanted_free rfl, ?_, fun _ => rfl⟩; simp [go_sem, Act.eval, f28]
   ·refine Facts.step_is (Value.pointer (some ⟨d, 129 + i, none⟩)) fun a W hR hold hnew => ?_
    have f29 : a.tmps.getD 29 undef = Value.pointer (some ⟨d, 129, none⟩) := hnew 6 29 (by kernel_rfl)
    have f27 : a.tmps.getD 27 undef = Value.int .i64 (i : Int) := hnew 4 27 (by kernel_rfl)
    refine ⟨Facts.wanted_free rfl, ?_, fun _ => rfl⟩; simp [go_sem, Act.eval, f29, f27, hi2]
   ·refine Facts.step_is (Value.int .u64 (h0H : Int)) fun a W hR hold hnew => ?_
    have f30 : a.tmps.getD 30 undef = Value.pointer (some ⟨d, 129 + i, none⟩) := hnew 7 30 (by kernel_rfl)
    have s2 := (HC8.out W hR).2.2
    refine ⟨Facts.wanted_free rfl, ?_, fun _ => rfl⟩; simp [go_sem, Act.eval, f30, s2]
   ·refine Facts.step_is (Value.int .u64 ((h0H : Int) + 1)) fun a W hR hold hnew => ?_
    have f31 : a.tmps.getD 31 undef = Value.int .u64 (h0H : Int) := hnew 8 31 (by kernel_rfl)
    refine ⟨Facts.wanted_free rfl, ?_, fun _ => rfl⟩; simp [go_sem, Act.eval, f31, hwr]
   ·refine Facts.step_is (Value.bool Y) fun a W hR hold hnew => ?_
    have f24 : a.tmps.getD 24 undef = Value.int .u64 (sq : Int) := hnew 1 24 (by kernel_rfl)
    have f32 : a.tmps.getD 32 undef = Value.int .u64 ((h0H : Int) + 1) := hnew 9 32 (by kernel_rfl)
    refine ⟨Facts.wanted_free rfl, ?_, fun _ => rfl⟩; simp [go_sem, Act.eval, f24, f32, hY1, hY2, hY3, bne]
   ·refine Facts.step_is (Value.bool Y) fun a W hR hold hnew => ?_
    have f33 : a.tmps.getD 33 undef = Value.bool Y := hnew 10 33 (by kernel_rfl)
    refine ⟨Facts.wanted_free rfl, ?_, fun _ => rfl⟩; simp [go_sem, Act.eval, f33]
  ·intro a w4 hR' hsize hdef hnew hold
   have f0 : a.tmps.getD 0 undef = Value.pointer (some ⟨d, 0, none⟩) := hold 0 (not_dst (by kernel_rfl))
   have f3 : a.tmps.getD 3 undef = Value.pointer (some ⟨B, 0, none⟩) := hold 3 (not_dst (by kernel_rfl))
   have f4 : a.tmps.getD 4 undef = Value.int .i64 0 := hold 4 (not_dst (by kernel_rfl))
   have f22 : a.tmps.getD 22 undef = Value.bool Y := hnew 11 22 (by kernel_rfl)
   obtain ⟨tm, df⟩ := a
   simp only [] at hdef hsize f0 f3 f4 f22
   obtain ⟨xq, hxq, hlit⟩ := Facts.lits tm hsize Facts.idx61 Facts.idx61_eq
   rw [hxq] at f0 f3 f4 f22
   simp only [Facts.idx61, List.map_cons, List.map_nil, f0, f3, f4, f22] at hlit
   clear f0 f3 f4 f22 hsize hnew hold hxq
   subst hlit
   subst hdef
   try simp only []
   have B4 := Lib.hid (B3.out.trans (((Below.refl _ _).drew.trans hR').mono B3.out.size))
   have G4 := Lib.hid (And.intro ((hR'.block B G3.out.2).trans G3.out.1) (Nat.lt_of_lt_of_le G3.out.2 hR'.size))
   clear hR'
   cases Y with
   | true =>
     have hx : XE = 9 := HAE.out
     have RES : Hid (Makes S d mb w FF w4) := Lib.hid (by rw [HSAME.out (by omega)]; exact ⟨HF.out.below B4.out, Beside.of_below B4.out _⟩)
     clear hY1 hY2 hY3
     go_wp2
     go_ret
     exact ⟨rfl, RES.out⟩
   | false =>
   have hx : XE = 0 := HAE.out
   clear hY1 hY2 hY3
   obtain ⟨k0, k1, k2, k3, k4, k5, k6, k7⟩ := box8 G4.out.1
   go_wp2_with fail
   refine (PL.out _ B4.out).mono ?_
   rintro e' w5 ⟨A5, n5, c5, rfl, hs5, h51, h52, hb5, hf5⟩
   have B5 := Lib.hid (B4.out.trans (hb5.mono B4.out.size))
   have G5 := Lib.hid (And.intro ((hb5.block B G4.out.2).trans G4.out.1) (Nat.lt_of_lt_of_le G4.out.2 hb5.size))
   have CHG := Lib.hid (chg_any (plainE ev) A5 n5 c5 S d mb F w5 (HF.out.below B5.out) PO.out hs5 (fun h0 a ha hm => by have := hf5 h0 a ha; have := HSZ.out _ hm; have := B4.out.size; omega) h51 hf)
   clear k0 k1 k2 k3 k4 k5 k6 k7 hs5 h51 h52 hb5 hf5
   go_wp2_with fail
   refine CHG.out.mono ?_
   rintro e' w6 ⟨rfl, hm6⟩
   rw [← HCP.out] at hm6
   obtain ⟨GG, hGG⟩ : ∃ GG, GG = change F ev := ⟨_, rfl⟩
   rw [← hGG] at hm6
   obtain ⟨hF6, hbs6⟩ := hm6
   have hG6 : w6.heap[B]? = some (.cells #[.int .i64 (i : Int), .int .u64 (sq : Int), .int .u64 (tm : Int), .int .u8 (kd : Int), .string key, .slice A n c, .float .f64 num, .int .i64 node] 38 (0, 0)) := (hbs6.block B G5.out.2 (by simp [hBd, hBm])).trans G5.out.1
   have hz6 : B < w6.heap.size := Nat.lt_of_lt_of_le G5.out.2 hbs6.size
   have BS6 := Lib.hid hbs6
   have F6 := Lib.hid hF6
   have G6 := Lib.hid (And.intro hG6 hz6)
   have GGE := Lib.hid hGG
   have HC := Lib.hid (fun (W : World) (hW : Below w6.drew.heap.size w6.drew W) => (⟨box8 ((hW.block B hz6).trans hG6), HAT.out W⟩ :
    (W.cell? ⟨B, 0, none⟩ = some (.int .i64 (i : Int)) ∧ W.cell? ⟨B, 1, none⟩ = some (.int .u64 (sq : Int)) ∧ W.cell? ⟨B, 2, none⟩ = some (.int .u64 (tm : Int)) ∧ W.cell? ⟨B, 3, none⟩ = some (.int .u8 (kd : Int)) ∧ W.cell? ⟨B, 4, none⟩ = some (.string key) ∧ W.cell? ⟨B, 5, none⟩ = some (.slice A n c) ∧ W.cell? ⟨B, 6, none⟩ = some (.float .f64 num) ∧ W.cell? ⟨B, 7, none⟩ = some (.int .i64 node)) ∧
    Calls Tryz.prog 165 #[.agg #[.int .i64 (i : Int), .int .u64 (sq : Int), .int .u64 (tm : Int), .int .u8 (kd : Int), .string key, .slice A n c, .float .f64 num, .int .i64 node]] W (fun e' w' => e' = .returned (.agg #[.int .u64 (tm : Int), .int .i64 (i : Int)]) ∧ Below W.heap.size W w')))
   clear hF6 hbs6 hG6 hz6 hGG CHG
   have cH6 := F6.out.cH hi
   obtain ⟨cT6, cW6, _⟩ := F6.out.cT
   have fH6 := F6.out.frozen (129 + i)
   have fT6 := F6.out.frozen 193
   have fW6 := F6.out.frozen 194
   obtain ⟨k0, k1, k2, k3, k4, k5, k6, k7⟩ := box8 G6.out.1
   obtain ⟨hv, hhv⟩ : ∃ hv, hv = Value.int .u64 (GG.H.getD i 0 : Int) := ⟨_, rfl⟩
   obtain ⟨tv, htv⟩ : ∃ tv, tv = Value.int .u64 (GG.time : Int) := ⟨_, rfl⟩
   obtain ⟨rv, hrv⟩ : ∃ rv, rv = Value.int .i64 (GG.wr : Int) := ⟨_, rfl⟩
   rw [← hhv] at cH6
   rw [← htv] at cT6
   rw [← hrv] at cW6
   have A1 : ∀ W, Below w6.heap.size w6 W → Calls Tryz.prog 165 #[.agg #[.int .i64 (i : Int), .int .u64 (sq : Int), .int .u64 (tm : Int), .int .u8 (kd : Int), .string key, .slice A n c, .float .f64 num, .int .i64 node]] W fun e' w' => e' = .returned (.agg #[.int .u64 (tm : Int), .int .i64 (i : Int)]) ∧ Hid (Below w6.heap.size w6 w') ∧
     w'.cell? ⟨B, 0, none⟩ = some (.int .i64 (i : Int)) ∧ w'.cell? ⟨B, 1, none⟩ = some (.int .u64 (sq : Int)) ∧ w'.cell? ⟨B, 2, none⟩ = some (.int .u64 (tm : Int)) ∧ w'.cell? ⟨B, 3, none⟩ = some (.int .u8 (kd : Int)) ∧ w'.cell? ⟨B, 4, none⟩ = some (.string key) ∧ w'.cell? ⟨B, 5, none⟩ = some (.slice A n c) ∧ w'.cell? ⟨B, 6, none⟩ = some (.float .f64 num) ∧ w'.cell? ⟨B, 7, none⟩ = some (.int .i64 node) ∧
     w'.cell? ⟨d, 129 + i, none⟩ = some hv ∧ w'.cell? ⟨d, 193, none⟩ = some tv ∧ w'.cell? ⟨d, 194, none⟩ = some rv ∧ w'.frozen? ⟨d, 129 + i, none⟩ = false ∧ w'.frozen? ⟨d, 193, none⟩ = false ∧ w'.frozen? ⟨d, 194, none⟩ = false := fun W hW => by
    refine (HAT.out W).mono ?_
    rintro e' w' ⟨rfl, hb⟩
    have hb' := hW.trans (hb.mono hW.size)
    have hF' := F6.out.below hb'
    obtain ⟨j0, j1, j2, j3, j4, j5, j6, j7⟩ := box8 ((hb'.block B G6.out.2).trans G6.out.1)
    exact ⟨rfl, Lib.hid hb', j0, j1, j2, j3, j4, j5, j6, j7, by rw [hF'.cH hi, hhv], by rw [hF'.cT.1, htv], by rw [hF'.cT.2.1, hrv], hF'.frozen _, hF'.frozen _, hF'.frozen _⟩
   clear hhv htv hrv
   have n1 : ¬ B = d := hBd
   have n2 : ¬ d = B := Ne.symm hBd
   go_wp2_with fail
   go_region_held3 (fun w' => w'.cell? ⟨B, 0, none⟩ = some (.int .i64 (i : Int)) ∧ w'.cell? ⟨B, 1, none⟩ = some (.int .u64 (sq : Int)) ∧ w'.cell? ⟨B, 2, none⟩ = some (.int .u64 (tm : Int)) ∧ w'.cell? ⟨B, 3, none⟩ = some (.int .u8 (kd : Int)) ∧ w'.cell? ⟨B, 4, none⟩ = some (.string key) ∧ w'.cell? ⟨B, 5, none⟩ = some (.slice A n c) ∧ w'.cell? ⟨B, 6, none⟩ = some (.float .f64 num) ∧ w'.cell? ⟨B, 7, none⟩ = some (.int .i64 node)) (go_keep)
    (first
     | (go_at_call 165
        refine (A1 _ ?h0).mono ?_
        case h0 => first | exact Below.refl _ _ | exact (Below.refl _ _).drew
        rintro e w7 ⟨rfl, HN7, k0, k1, k2, k3, k4, k5, k6, k7, cH, cT, cW, fH, fT, fW⟩))
   have hF7 : FoldAt w7 S d mb GG := F6.out.below HN7.out
   have g7 := (HN7.out.block B G6.out.2).trans G6.out.1
   have hz7 : B < w7.heap.size := Nat.lt_of_lt_of_le G6.out.2 HN7.out.size
   have BS7 := Lib.hid (BS6.out.below HN7.out)
   obtain ⟨w8, hw8⟩ : ∃ w8, w8 = ((w7.setCell ⟨d, 129 + i, none⟩ (.int .u64 (sq : Int))).setCell ⟨d, 193, none⟩ (.int .u64 (tm : Int))).setCell ⟨d, 194, none⟩ (.int .i64 (i : Int)) := ⟨_, rfl⟩
   have hb8 : Beside [d] w7 w8 := by rw [hw8]; exact (((Beside.refl [d] _).setCell (by simp) _).setCell (by simp) _).setCell (by simp) _
   have hF8 := hF7.turnLast hi hsq htm hb8 (by rw [hw8, heapSame (heapSame (heapSame hF7.row))])
   have g8 := (hb8.block B hz7 (by simp [hBd])).trans g7
   have hz8 : B < w8.heap.size := Nat.lt_of_lt_of_le hz7 hb8.size
   have BS8 := Lib.hid (BS7.out.trans hb8 fun x hx => .inl (by simp at hx; simp [hx]))
   obtain ⟨m0, hm0⟩ : ∃ m0, m0 = F.mark := ⟨_, rfl⟩
   obtain ⟨l, hl⟩ : ∃ l, l = evL ev := ⟨_, rfl⟩
   obtain ⟨M, hM⟩ : ∃ M, M = hashL m0 l := ⟨_, rfl⟩
   have hlenl : l.length ≤ 1000000000000 := by rw [hl]; have h1 := HLEN.out; have h2 := HTXL.out; omega
   have hm63 : m0 < 18446744073709551616 := by rw [hm0]; exact HM63.out
   have HC := Lib.hid (fun (W : World) (hW : Below w8.drew.heap.size w8.drew W) => (⟨box8 ((hW.block B hz8).trans g8), (by
     have := (hF8.below ((Below.refl _ _).drew.trans hW)).cT.2.2
     rw [this]
     show some (Value.int .u64 (GG.mark : Int)) = _
     rw [GGE.out, HCR.out.2.2.2, hm0]), (by
     have := EN.out w5 W B5.out (BS8.out.below ((Below.refl _ _).drew.trans hW))
     rw [← hl] at this
     refine this.mono ?_
     rintro e' w' ⟨A7, c7, rfl, ho7, hb7⟩
     exact ⟨A7, c7, rfl, Sees.of_own ho7, hb7⟩), (fun A7 c7 hs7 => by
     rw [hM]
     exact hash_any m0 A7 l.length c7 l W hs7 hm63 hlenl)⟩ :
    (W.cell? ⟨B, 0, none⟩ = some (.int .i64 (i : Int)) ∧ W.cell? ⟨B, 1, none⟩ = some (.int .u64 (sq : Int)) ∧ W.cell? ⟨B, 2, none⟩ = some (.int .u64 (tm : Int)) ∧ W.cell? ⟨B, 3, none⟩ = some (.int .u8 (kd : Int)) ∧ W.cell? ⟨B, 4, none⟩ = some (.string key) ∧ W.cell? ⟨B, 5, none⟩ = some (.slice A n c) ∧ W.cell? ⟨B, 6, none⟩ = some (.float .f64 num) ∧ W.cell? ⟨B, 7, none⟩ = some (.int .i64 node)) ∧
    W.cell? ⟨d, 195, none⟩ = some (.int .u64 (m0 : Int)) ∧
    Calls Tryz.prog 168 #[.agg #[.int .i64 (i : Int), .int .u64 (sq : Int), .int .u64 (tm : Int), .int .u8 (kd : Int), .string key, .slice A n c, .float .f64 num, .int .i64 node]] W (fun e' w' => ∃ A7 c7, e' = .returned (.slice A7 l.length c7) ∧ Sees w' A7 l.length l ∧ Below W.heap.size W w') ∧
    (∀ A7 c7, Sees W A7 l.length l → Calls Tryz.prog 167 #[.int .u64 (m0 : Int), .slice A7 l.length c7] W fun e' w' => e' = .returned (.int .u64 (M : Int)) ∧ w' = W)))
   have F8 := Lib.hid hF8
   have HW8 := Lib.hid hw8
   have HMM := Lib.hid (And.intro hm0 (And.intro hl hM))
   clear hF7 g7 hz7 hb8 hF8 g8 hz8 hw8 hm0 hl hM hlenl hm63
   rw [← HW8.out]
   clear cH cT cW fH fT fW k0 k1 k2 k3 k4 k5 k6 k7 A1 cH6 cT6 cW6 fH6 fT6 fW6 n1 n2
   go_wp2_with fail
   refine Facts.wp_region_tail 10 (n := 61) (by kernel_rfl) (by kernel_rfl) (by kernel_rfl) rfl [Facts.Pred.is (Value.pointer (some ⟨d, 0, none⟩)), Facts.Pred.is (Value.pointer (some ⟨d, 0, none⟩)), Facts.Pred.is (Value.pointer (some ⟨d, 0, none⟩)), Facts.Pred.is (Value.pointer (some ⟨d, 195, none⟩)), Facts.Pred.is (Value.int .u64 (m0 : Int)), Facts.Pred.is (Value.agg #[.int .i64 (i : Int), .int .u64 (sq : Int), .int .u64 (tm : Int), .int .u8 (kd : Int), .string key, .slice A n c, .float .f64 num, .int .i64 node]), Facts.Pred.shows l.length l, Facts.Pred.is (Value.int .u64 (M : Int)), Facts.Pred.is (Value.pointer (some ⟨d, 0, none⟩)), Facts.Pred.is (Value.pointer (some ⟨d, 195, none⟩))] ?_ ?_
   ·refine ⟨?_, ?_, ?_, ?_, ?_, ?_, ?_, ?_, ?_, ?_, trivial⟩
    ·refine Facts.step_is (Value.pointer (some ⟨d, 0, none⟩)) fun a W hR hold hnew => ?_
     have f0 : a.tmps.getD 0 undef = Value.pointer (some ⟨d, 0, none⟩) := hold 0 (by kernel_rfl)
     refine ⟨Facts.wanted_free rfl, ?_, fun _ => rfl⟩; simp [go_sem, Act.eval, f0]
    ·refine Facts.step_is (Value.pointer (some ⟨d, 0, none⟩)) fun a W hR hold hnew => ?_
     have f0 : a.tmps.getD 0 undef = Value.pointer (some ⟨d, 0, none⟩) := hold 0 (by kernel_rfl)
     refine ⟨Facts.wanted_free rfl, ?_, fun _ => rfl⟩; simp [go_sem, Act.eval, f0]
    ·refine Facts.step_is (Value.pointer (some ⟨d, 0, none⟩)) fun a W hR hold hnew => ?_
     have f52 : a.tmps.getD 52 undef = Value.pointer (some ⟨d, 0, none⟩) := hnew 1 52 (by kernel_rfl)
     refine ⟨Facts.wanted_free rfl, ?_, fun _ => rfl⟩; simp [go_sem, Act.eval, f52]
    ·refine Facts.step_is (Value.pointer (some ⟨d, 195, none⟩)) fun a W hR hold hnew => ?_
     have f53 : a.tmps.getD 53 undef = Value.pointer (some ⟨d, 0, none⟩) := hnew 2 53 (by kernel_rfl)
     refine ⟨Facts.wanted_free rfl, ?_, fun _ => rfl⟩; simp [go_sem, Act.eval, f53]
    ·refine Facts.step_is (Value.int .u64 (m0 : Int)) fun a W hR hold hnew => ?_
     have f54 : a.tmps.getD 54 undef = Value.pointer (some ⟨d, 195, none⟩) := hnew 3 54 (by kernel_rfl)
     have s5 := (HC.out W hR).2.1
     refine ⟨Facts.wanted_free rfl, ?_, fun _ => rfl⟩; simp [go_sem, Act.eval, f54, s5]
    ·refine Facts.step_is (Value.agg #[.int .i64 (i : Int), .int .u64 (sq : Int), .int .u64 (tm : Int), .int .u8 (kd : Int), .string key, .slice A n c, .float .f64 num, .int .i64 node]) fun a W hR hold hnew => ?_
     have f3 : a.tmps.getD 3 undef = Value.pointer (some ⟨B, 0, none⟩) := hold 3 (by kernel_rfl)
     obtain ⟨k0, k1, k2, k3, k4, k5, k6, k7⟩ := (HC.out W hR).1
     refine ⟨Facts.wanted_free rfl, ?_, fun _ => rfl⟩; simp [go_sem, Act.eval, f3, k0, k1, k2, k3, k4, k5, k6, k7]
    ·-- 6: Op.call { value (Operand.func 19), args := #[t56], argTypes
     refine Facts.step_call fun a W hR hold hnew => ?_
     have f56 : a.tmps.getD 56 undef = Value.agg #[.int .i64 (i : Int), .int .u64 (sq : Int), .int .u64 (tm : Int), .int .u8 (kd : Int), .string key, .slice A n c, .float .f64 num, .int .i64 node] := hnew 5 56 (by kernel_rfl)
     refine ⟨Facts.wanted_free rfl, 168, #[Value.agg #[.int .i64 (i : Int), .int .u64 (sq : Int), .int .u64 (tm : Int), .int .u8 (kd : Int), .string key, .slice A n c, .float .f64 num, .int .i64 node]], by simp [go_sem, Act.eval, f56], ?_⟩
     refine ((HC.out W hR).2.2.1).mono ?_
     rintro e' w7 ⟨A7, c7, rfl, hs7, hb7⟩
     exact ⟨_, rfl, hb7, A7, c7, rfl, hs7⟩
    ·-- 7: Op.call { value (Operand.func 18), args := #[t55, t57], argT
     refine Facts.step_call fun a W hR hold hnew => ?_
     have f55 : a.tmps.getD 55 undef = Value.int .u64 (m0 : Int) := hnew 4 55 (by kernel_rfl)
     obtain ⟨A7, c7, f57, hs7⟩ := hnew 6 57 (by kernel_rfl)
     refine ⟨Facts.wanted_free rfl, 167, #[Value.int .u64 (m0 : Int), Value.slice A7 l.length c7], by simp [go_sem, Act.eval, f55, f57], ?_⟩
     refine ((HC.out W hR).2.2.2 A7 c7 hs7).mono ?_
     rintro e' w7 ⟨rfl, rfl⟩
     exact ⟨_, rfl, Below.refl _ _, rfl⟩
    ·refine Facts.step_is (Value.pointer (some ⟨d, 0, none⟩)) fun a W hR hold hnew => ?_
     have f51 : a.tmps.getD 51 undef = Value.pointer (some ⟨d, 0, none⟩) := hnew 0 51 (by kernel_rfl)
     refine ⟨Facts.wanted_free rfl, ?_, fun _ => rfl⟩; simp [go_sem, Act.eval, f51]
    ·refine Facts.step_is (Value.pointer (some ⟨d, 195, none⟩)) fun a W hR hold hnew => ?_
     have f59 : a.tmps.getD 59 undef = Value.pointer (some ⟨d, 0, none⟩) := hnew 8 59 (by kernel_rfl)
     refine ⟨Facts.wanted_free rfl, ?_, fun _ => rfl⟩; simp [go_sem, Act.eval, f59]
   ·intro a w9 hR' hsize hdef hnew hold
    have f4 : a.tmps.getD 4 undef = Value.int .i64 0 := hold 4 (fun i _ => not_dst (by kernel_rfl) i)
    have f58 : a.tmps.getD 58 undef = Value.int .u64 (M : Int) := hnew 7 58 (by omega) (by kernel_rfl)
    have f60 : a.tmps.getD 60 undef = Value.pointer (some ⟨d, 195, none⟩) := hnew 9 60 (by omega) (by kernel_rfl)
    obtain ⟨tm, df⟩ := a
    simp only [] at hdef hsize f4 f58 f60
    obtain ⟨xq, hxq, hlit⟩ := Facts.lits tm hsize Facts.idx61 Facts.idx61_eq
    rw [hxq] at f4 f58 f60
    simp only [Facts.idx61, List.map_cons, List.map_nil, f4, f58, f60] at hlit
    clear f4 f58 f60 hsize hnew hold hxq
    subst hlit
    subst hdef
    try simp only []
    have hF9 : FoldAt w9 S d mb { GG with H := GG.H.set i sq, time := tm, wr := i } := F8.out.below ((Below.refl _ _).drew.trans hR')
    have BS9 := BS8.out.below ((Below.refl _ _).drew.trans hR')
    have cM := hF9.cT.2.2
    have fM := hF9.frozen 195
    have hM64 : M < 18446744073709551616 := by rw [HMM.out.2.2]; exact hashL_lt _ (by rw [HMM.out.1]; exact HM63.out)
    have RES : Hid (Makes S d mb w FF (w9.setCell ⟨d, 195, none⟩ (.int .u64 (M : Int)))) := Lib.hid (by
     rw [HTAKEN.out hx]
     have hf9 := hF9.turnRow (F' := { GG with H := GG.H.set i sq, time := tm, wr := i, mark := M }) ((Beside.refl [d] _).setCell (p := ⟨d, 195, none⟩) (by simp) (.int .u64 (M : Int))) (by rw [heapSame hF9.row, row_mark hF9.ok]) rfl (ok_mark hF9.ok hM64)
     refine ⟨?_, ((Beside.of_below B5.out [d, mb]).trans BS9 fun x hx => .inl hx).setCell (p := ⟨d, 195, none⟩) (by simp) _⟩
     have hMe : M = hashL F.mark (evL ev) := by rw [HMM.out.2.2, HMM.out.1, HMM.out.2.1]
     rw [← hMe]
     rw [GGE.out, HCR.out.1] at hf9
     exact hf9)
    clear hF9 BS9 hM64 hR'
    simp only [List.drop_succ_cons, List.drop_zero]
    go_wp2
    go_ret
    exact ⟨rfl, RES.out⟩
end
end Go.Proofs.YtinjbdgjcadodaaGreatDoor.Fol
