/- Texts of the law ReplicaNil, put together. -/
import Derived.Laws.Cells
import Derived.StillTailTactics
import Derived.Deep.RegionWith
import Derived.Test.YtinjbdgjcadodaaGreatDoorRNp02
import Derived.Test.YtinjbdgjcadodaaGreatDoorRNp07
import Derived.Test.YtinjbdgjcadodaaGreatDoorRNp19
set_option linter.unusedVariables false
set_option linter.unusedSimpArgs false
set_option maxRecDepth 100000
namespace Go.Proofs.YtinjbdgjcadodaaGreatDoor.Fol
open Go Go.RowKit Words Enc Go.Proofs.YtinjbdgjcadodaaGreatDoor.Q Evt
section
variable {P : Program} {ops : Array Oper} {rest : List Oper} {op : Oper} {a : Act} {w : World} {Q : Exit → Act → World → Prop}
theorem wpList_build2 (hgd : op.guard = none) (t : TypeId) (i j : Nat) (x y : Operand) (ho : op.op = .build t #[(i, x), (j, y)]) (vx vy v : Value) (hx : a.eval x = vx) (hy : a.eval y = vy)
  (hrun : (Instr.build t #[(i, vx), (j, vy)]).run P w = .ok v w) (h : wpList P ops Q rest (a.put op.dst v) w) : wpList P ops Q (op :: rest) a w := by
 refine wpList_plain hgd fun K hK => ?_
 unfold Oper.wp execOp
 simp only [ho, List.map_toArray, List.map_cons, List.map_nil, hx, hy, Sem.run_bind, Sem.run_pure, Result.andThen_ok, hrun]
 exact hK _ _ h
end
theorem ok_new (n : Nat) : Ok (newF n) := by
 refine ⟨List.Pairwise.nil, by simp [newF], by simp [newF], by simp [newF], fun x hx => ?_, by simp [newF], by simp [newF], by simp [newF], fun p hp => (by cases hp), fun p hp => (by cases hp)⟩
 have : x = 0 := by simpa [newF] using hx
 omega
theorem row_new (mb n : Nat) (hn : n < 64) : (row mb (newF n)).setIfInBounds (1 + n) (.bool true) = row mb (newF (n + 1)) := by
 unfold row cells newF
 simp only [List.setIfInBounds_toArray]
 congr 1
 rw [Nat.add_comm 1 n, List.set_cons_succ, List.set_append_left _ _ (by simp; omega)]
 congr 2
 refine List.ext_getElem (by simp) fun i h1 h2 => ?_
 simp only [List.getElem_set, List.getElem_map, List.getElem_range]
 split
 ·rename_i e
  subst e
  simp
 ·rename_i e
  congr 1
  apply decide_eq_decide.2
  omega
theorem build_new (b : Nat) (W : World) : (Instr.build 213 #[(0, .map (some b)), (5, .int .u64 14695981039346656037)]).run Tryz.prog W = .ok (.agg (row b (newF 0))) W := by kernel_rfl
theorem new_any (n : Nat) (hn : n ≤ 64) (w : World) :
  Calls Tryz.prog 110 #[.int .i64 (n : Int)] w fun e w' => e = .returned (.pointer (some ⟨w.heap.size + 1, 0, none⟩)) ∧
   FoldAt w' [w.heap.size + 1, w.heap.size] (w.heap.size + 1) w.heap.size (newF n) ∧ Below w.heap.size w w' := by
 have hmk := run_makeMap (P := Tryz.prog) 208 w
 have hmin : min (n : Int) 64 = (n : Int) := by omega
 obtain ⟨R, hR⟩ : ∃ R : Nat → Array Value, ∀ j, row w.heap.size (newF j) = R j := ⟨_, fun _ => rfl⟩
 have hrs : ∀ j, (R j).size = 196 := fun j => by rw [← hR]; exact row_size (ok_new j)
 have HST := Lib.hid (fun (j : Nat) (hj : j < 64) => (by rw [← hR, ← hR]; exact row_new w.heap.size j hj : (R j).setIfInBounds (1 + j) (.bool true) = R (j + 1)))
 have hB := Lib.hid (show Below w.heap.size w ((w.alloc (.map #[] 0)).alloc (.cells (R 0) 213)) from ((Below.refl _ _).alloc (Nat.le_refl _) _).alloc (by simp) _)
 have hH := Lib.hid (show ((w.alloc (.map #[] 0)).alloc (.cells (R 0) 213)).heap[w.heap.size + 1]? = some (.cells (R 0) 213 (0, 0)) by
  have := heap_alloc_new (w.alloc (.map #[] 0)) (.cells (R 0) 213)
  simpa using this)
 have hM := Lib.hid (show MapAt ((w.alloc (.map #[] 0)).alloc (.cells (R 0) 213)) w.heap.size [] from (mapAt_made w).kept (Below.heap_alloc _ _ _ (by simp)))
 have hbn := build_new w.heap.size
 rw [hR] at hbn
 have hBN := Lib.hid hbn
 clear hbn
 have hR := Lib.hid hR
 go_enter Tryz.func110, Tryz.ntmps110
 go_wp2_with (first | (refine wpList_build2 rfl 213 0 5 (.tmp 5) (.const (.int .u64 14695981039346656037)) rfl (.map (some w.heap.size)) (.int .u64 14695981039346656037) (.agg (R 0)) rfl rfl (hBN.out _) ?_))
 go_loopw [4, 10] (fun x y wr => ∃ j : Nat, y = .int .i64 (j : Int) ∧ j ≤ n ∧ wr.heap[w.heap.size + 1]? = some (.cells (R j) 213 (0, 0)) ∧ Below w.heap.size w wr ∧ MapAt wr w.heap.size []) (fun x y _ => n - (intOf y).toNat)
 case atStart => exact ⟨0, rfl, by omega, by simpa using hH.out, by simpa using hB.out, by simpa using hM.out⟩
 case round =>
  obtain ⟨j, rfl, hj, hh, hb, hm⟩ := hrel
  by_cases h1 : j < n
  ·have hd : decide ((j : Int) < (n : Int)) = true := decide_eq_true (by omega)
   obtain ⟨v, hv⟩ : ∃ v, (R j)[1 + j]? = some v := ⟨_, Array.getElem?_eq_getElem (by rw [hrs]; omega)⟩
   have hc : wr.cell? ⟨w.heap.size + 1, 1 + j, none⟩ = some v := by rw [cell_of_row wr _ _ _ _ _ hh]; exact hv
   have hf : wr.frozen? ⟨w.heap.size + 1, 1 + j, none⟩ = false := frozen_row0 hh
   have hi : (j : Int) < 64 := by omega
   have HH := Lib.hid hh
   have HB := Lib.hid hb
   have HM := Lib.hid hm
   clear hh hb hm hv
   go_wp2
   go_roundw
   case rel =>
    have e := HST.out j (by omega)
    refine ⟨j + 1, by simp, by omega, ?_, Below.beside HB.out ((Beside.refl [w.heap.size + 1] _).setCell (by simp) _) HB.out.size (by simp), HM.out.kept (heapOther (by omega))⟩
    rw [heapSame HH.out, e]
   case measure => simp [intOf]; omega
  ·have hd : decide ((j : Int) < (n : Int)) = false := decide_eq_false (by omega)
   obtain rfl : j = n := by omega
   have HH := Lib.hid hh
   have HB := Lib.hid hb
   have HM := Lib.hid hm
   clear hh hb hm
   go_wp2
   go_ret
   refine ⟨rfl, ⟨?_, ⟨[], HM.out, rfl, fun p hp => by cases hp⟩, ok_new _, by omega, by simp, by simp⟩, HB.out⟩
   rw [HH.out, ← hR.out]
section
variable {w w' : World} {S : List Nat} {d mb : Nat} {F F' : Fo}
theorem FoldAt.turnRow (h : FoldAt w S d mb F) (hb : Beside [d] w w') (hr : w'.heap[d]? = some (.cells (Fol.row mb F') 213 (0, 0))) (hL : F'.L = F.L) (ok : Ok F') : FoldAt w' S d mb F' := by
 obtain ⟨L, h1, h2, h3⟩ := h.map
 refine ⟨hr, ⟨L, h1.kept (hb.block mb h.lt.2 (by simpa using Ne.symm h.ne)), h2.trans hL.symm, fun p hp => (h3 p hp).beside hb fun x hx => .inl ?_⟩, ok, h.ne, h.dS, h.mS⟩
 rw [List.mem_singleton.1 hx]; exact h.dS
theorem FoldAt.turnMap (h : FoldAt w S d mb F) (hb : Beside [mb] w w') (hr : Fol.row mb F' = Fol.row mb F) {L : List (Key × MC)} (hm : MapAt w' mb L) (hL : mapV MC.cel L = F'.L) (ht : ∀ p ∈ L, TextAt w' S p.2) (ok : Ok F') : FoldAt w' S d mb F' :=
 ⟨by rw [hr]; exact (hb.block d h.lt.1 (by simpa using h.ne)).trans h.row, ⟨L, hm, hL, ht⟩, ok, h.ne, h.dS, h.mS⟩
end
theorem beside_map {w w' : World} {mb : Nat} (h : w.mapTurned w' mb) : Beside [mb] w w' := (Beside.refl _ _).grown h.grown fun k hk => .inl (by injection hk with hk; simp [hk])
theorem boxes2 (a b : Array Value) (T : TypeId) (w W : World) (hW : Below (w.heap.size + 2) ((w.alloc (.cells a T)).alloc (.cells b T)) W) : Below w.heap.size w W ∧
  W.heap[w.heap.size]? = some (.cells a T (0, 0)) ∧ W.heap[w.heap.size + 1]? = some (.cells b T (0, 0)) ∧ w.heap.size + 2 ≤ W.heap.size := by
 refine ⟨(((Below.refl _ _).alloc (Nat.le_refl _) _).alloc (by simp) _).trans (hW.mono (by omega)), ?_, ?_, by have := hW.size; simpa using this⟩
 ·rw [hW.block w.heap.size (by omega)]
  exact (Below.heap_alloc _ _ _ (by simp)).trans (heap_alloc_new w _)
 ·rw [hW.block (w.heap.size + 1) (by omega)]
  have := heap_alloc_new (w.alloc (.cells a T)) (.cells b T)
  simpa using this
set_option maxHeartbeats 1000000 in
theorem cell_any (k : ByteArray) (S : List Nat) (d mb : Nat) (F : Fo) (w : World) (h : FoldAt w S d mb F) (hk : k.size ≤ 100000) :
  Calls Tryz.prog 87 #[.pointer (some ⟨d, 0, none⟩), .string k] w fun e w' => Below w.heap.size w w' ∧ match lk k.data.toList F.L with
   | some c => ∃ A n cap, e = .returned (.tuple #[.agg #[.int .u8 (c.kind : Int), .slice A n cap, .float .f64 c.num], .bool true]) ∧ Sees w' A n c.text
   | none => e = .returned (.tuple #[zeroC, .bool false]) := by
 have hsf := store_float Tryz.prog
 obtain ⟨L, hm, hL, ht⟩ := h.map
 have hlk : lk k.data.toList F.L = (lk k.data.toList L).map MC.cel := by rw [← hL, mapV_lk]
 have a0 : ∀ o, (w.alloc o).cell? ⟨d, 0, none⟩ = some (.map (some mb)) := fun o => (h.below ((Below.refl _ _).alloc (Nat.le_refl _) o)).c0
 have hrun : ∀ o, (Instr.lookup 208 (.map (some mb)) (.string k) true).run Tryz.prog (w.alloc o) = _ := fun o => (hm.kept (Below.heap_alloc _ _ _ hm.lt)).run_look_ok hk
 rw [hlk]
 cases hc : lk k.data.toList L with
 | none =>
   rw [hc] at hrun
   have hnil := Tryz.bytes_Clone_nil 0 0
   have HNIL := Lib.hid hnil
   simp only [valAt, zeroC, Option.isSome_none] at hrun ⊢
   clear h hm ht hL hlk hnil
   go_enter Tryz.func87, Tryz.ntmps87
   go_wp2_with fail
   refine (HNIL.out _).mono ?_
   rintro e w1 ⟨rfl, rfl⟩
   go_wp2
   refine bodyPost_ret (v := .tuple #[.agg #[.int .u8 0, .slice none 0 0, .float .f64 0], .bool false]) (by simp [results, Tryz.results87, go_sem]) rfl ⟨?_, rfl⟩
   exact ((Below.refl _ _).alloc (Nat.le_refl _) _).alloc (by simp) _
 | some m =>
   rw [hc] at hrun
   have htx := ht _ (lk_some_mem hc)
   have hlen := (h.ok.cel (k.data.toList, m.cel) (by rw [← hL]; exact List.mem_map.2 ⟨_, lk_some_mem hc, rfl⟩)).2.1
   obtain ⟨kd, A, c, tx, nu⟩ := m
   have CL := Lib.hid (fun W (hb : Below w.heap.size w W) => Dsk.clone_bytes A tx.length c tx W (htx.sees.below hb) (by have : tx.length ≤ 1048576 := hlen; omega))
   have BX := Lib.hid (boxes2 #[.int .u8 0, .slice none 0 0, .float .f64 0] #[.int .u8 (kd : Int), .slice A tx.length c, .float .f64 nu] 63 w)
   simp only [valAt, MC.val, MC.cel, Option.isSome_some, Option.map_some] at hrun ⊢
   have N := Lib.hid (rfl : tx.length = tx.length)
   obtain ⟨n, hn⟩ : ∃ n, tx.length = n := ⟨_, rfl⟩
   rw [hn] at hrun CL BX
   have HN := Lib.hid hn
   clear h hm ht hL hlk htx hlen hc N hn
   go_enter Tryz.func87, Tryz.ntmps87
   go_wp2_with fail
   refine (CL.out _ (((Below.refl _ _).alloc (Nat.le_refl _) _).alloc (by simp) _)).mono ?_
   rintro e w1 ⟨A', c', rfl, hown, hb1⟩
   obtain ⟨hb, g0, g1, hz⟩ := BX.out w1 (by simpa using hb1)
   have p0 : w1.cell? ⟨w.heap.size, 0, none⟩ = some (.int .u8 0) := by rw [cell_of_row w1 _ _ _ _ _ g0]; rfl
   have p1 : w1.cell? ⟨w.heap.size, 1, none⟩ = some (.slice none 0 0) := by rw [cell_of_row w1 _ _ _ _ _ g0]; rfl
   have p2 : w1.cell? ⟨w.heap.size, 2, none⟩ = some (.float .f64 0) := by rw [cell_of_row w1 _ _ _ _ _ g0]; rfl
   have q0 : w1.cell? ⟨w.heap.size + 1, 0, none⟩ = some (.int .u8 (kd : Int)) := by rw [cell_of_row w1 _ _ _ _ _ g1]; rfl
   have q1 : w1.cell? ⟨w.heap.size + 1, 1, none⟩ = some (.slice A n c) := by rw [cell_of_row w1 _ _ _ _ _ g1]; rfl
   have q2 : w1.cell? ⟨w.heap.size + 1, 2, none⟩ = some (.float .f64 nu) := by rw [cell_of_row w1 _ _ _ _ _ g1]; rfl
   have y0 : w1.frozen? ⟨w.heap.size, 0, none⟩ = false := frozen_row0 g0
   have y1 : w1.frozen? ⟨w.heap.size, 1, none⟩ = false := frozen_row0 g0
   have y2 : w1.frozen? ⟨w.heap.size, 2, none⟩ = false := frozen_row0 g0
   have y3 : w1.frozen? ⟨w.heap.size + 1, 1, none⟩ = false := frozen_row0 g1
   have OWN := Lib.hid hown
   have HB := Lib.hid hb
   clear hown hb1 hb g0 g1 hrun a0
   go_wp2
   refine bodyPost_ret (v := .tuple #[.agg #[.int .u8 (kd : Int), .slice A' n c', .float .f64 nu], .bool true]) (by simp [results, Tryz.results87, go_sem, p0, p1, p2]) rfl ⟨?_, A', n, c', rfl, ?_⟩
   ·exact Below.beside HB.out (((((Beside.refl [w.heap.size, w.heap.size + 1] _).setCell (by simp) _).setCell (by simp) _).setCell (by simp) _).setCell (by simp) _) HB.out.size (by simp)
   ·have hs := Sees.of_own OWN.out
    refine hs.beside (((((Beside.refl [w.heap.size, w.heap.size + 1] _).setCell (by simp) _).setCell (by simp) _).setCell (by simp) _).setCell (by simp) _) (Out.of_own OWN.out ?_)
    simp
    omega
theorem FoldAt.seesH {S : List Nat} {d mb : Nat} {F : Fo} {w : World} (h : FoldAt w S d mb F) : Vec.SeesU w (some ⟨d, 129, none⟩) 64 F.H := ⟨h.ok.h, fun _ => ⟨d, 129, rfl, fun j x hj => by
 have hj64 : j < 64 := by have h1 := (List.getElem?_eq_some_iff.1 hj).1; have h2 := h.ok.h; omega
 have h3 := h.cH hj64
 rw [show F.H.getD j 0 = x by simp [List.getD, hj]] at h3
 exact h3⟩⟩
theorem have_any (S : List Nat) (d mb : Nat) (F : Fo) (w : World) (h : FoldAt w S d mb F) :
  Calls Tryz.prog 112 #[.pointer (some ⟨d, 0, none⟩)] w (Vec.Trims w F.H 64) := by
 have TR := Lib.hid (Vec.trim_at (some ⟨d, 129, none⟩) 64 64 F.H w h.seesH (by omega) (by omega) (by omega))
 have c0 := h.c0
 have hlt := h.lt
 have hr := h.row
 unfold Vec.Trims at *
 obtain ⟨K, hK⟩ : ∃ K, K = Vec.trimN F.H 64 := ⟨_, rfl⟩
 rw [← hK] at TR ⊢
 clear h hK
 go_enter Tryz.func112, Tryz.ntmps112
 go_wp2_with fail
 refine TR.out.mono ?_
 rintro e w2 ⟨R, rc, rfl, h1, h2⟩
 have FIN := Lib.hid (And.intro h1 h2)
 clear h1 h2 TR
 go_wp2
 go_ret
 exact ⟨_, _, rfl, FIN.out⟩
end Go.Proofs.YtinjbdgjcadodaaGreatDoor.Fol
namespace Go.Proofs.YtinjbdgjcadodaaGreatDoor.Fol
open Go Go.RowKit Words Enc Go.Proofs.YtinjbdgjcadodaaGreatDoor.Q Evt Go.Proofs.YtinjbdgjcadodaaGreatDoor.Facts
def PBox (B : Nat) (C : Array Value) (T : TypeId) : Facts.Pred := ⟨fun v W => ∃ g, v = .pointer (some ⟨g, 0, none⟩) ∧ B ≤ g ∧ W.heap[g]? = some (.cells C T (0, 0)), fun v w w' ⟨g, h1, h2, h3⟩ hb => ⟨g, h1, h2, (hb.block g (Array.getElem?_eq_some_iff.1 h3).1).trans h3⟩⟩
def sumP (F : Fo) (k : Key) (x : Nat) : Nat := match lk k F.L with
 | some c => if c.kind = 2 then ob (FloatKind.f64.format.add c.num x) else x
 | none => x
set_option maxHeartbeats 1000000 in
theorem sumF_any (e : Ev) (A : Option Addr) (n c : Nat) (S : List Nat) (d mb : Nat) (F : Fo) (w : World) (h : FoldAt w S d mb F) (hk : e.key.size ≤ 100000) :
  Calls Tryz.prog 230 #[.pointer (some ⟨d, 0, none⟩), e.val A n c] w fun e' w' => e' = .returned (.float .f64 (sumP F e.key.data.toList e.num)) ∧ Below w.heap.size w w' := by
 have hsf := store_float Tryz.prog
 obtain ⟨L, hm, hL, ht⟩ := h.map
 obtain ⟨wr, sq, tm, kd, key, text, num, node⟩ := e
 show Calls _ _ #[_, .agg #[.int .i64 wr, .int .u64 (sq : Int), .int .u64 (tm : Int), .int .u8 (kd : Int), .string key, .slice A n c, .float .f64 num, .int .i64 node]] _ _
 replace hk : key.size ≤ 100000 := hk
 have BX := Lib.hid (fun (W : World) hW => boxed (W := W) #[.int .i64 wr, .int .u64 (sq : Int), .int .u64 (tm : Int), .int .u8 (kd : Int), .string key, .slice A n c, .float .f64 num, .int .i64 node] w hW)
 obtain ⟨K, B, m, r, x, hV, hsum⟩ : ∃ (K : Nat) (B : Option Addr) (m r x : Nat), valAt (lk key.data.toList L) = .agg #[.int .u8 (K : Int), .slice B m r, .float .f64 x] ∧ sumP F key.data.toList num = if K = 2 then ob (FloatKind.f64.format.add x num) else num := by
  unfold sumP
  rw [← hL, mapV_lk]
  cases lk key.data.toList L with
  | none => exact ⟨0, none, 0, 0, 0, rfl, by simp⟩
  | some m => exact ⟨m.kind, m.A, m.text.length, m.c, m.num, rfl, rfl⟩
 show Calls _ _ _ _ fun e' w' => e' = .returned (.float .f64 (sumP F key.data.toList num)) ∧ _
 rw [hsum]
 obtain ⟨R, hRe⟩ : ∃ R, R = if K = 2 then ob (FloatKind.f64.format.add x num) else num := ⟨_, rfl⟩
 rw [← hRe]
 have HRES := Lib.hid hRe
 clear hRe
 obtain ⟨V, hVe⟩ : ∃ V, V = Value.agg #[.int .u8 (K : Int), .slice B m r, .float .f64 x] := ⟨_, rfl⟩
 have HV := Lib.hid hVe
 rw [← hVe] at hV
 have HC := Lib.hid (fun (W : World) (hW : Below (w.heap.size + 1) (w.alloc (.cells #[.int .i64 wr, .int .u64 (sq : Int), .int .u64 (tm : Int), .int .u8 (kd : Int), .string key, .slice A n c, .float .f64 num, .int .i64 node] 38)) W) => (by
  obtain ⟨b1, g1, h1⟩ := BX.out W hW
  refine ⟨(h.below b1).c0, (box8 g1).2.2.2.2.1, ?_⟩
  rw [(hm.kept (b1.block mb hm.lt)).run_look hk, hV] : W.cell? ⟨d, 0, none⟩ = some (.map (some mb)) ∧ W.cell? ⟨w.heap.size, 4, none⟩ = some (.string key) ∧ (Instr.lookup 208 (.map (some mb)) (.string key) false).run Tryz.prog W = .ok V W))
 clear h hm ht hL hsum hV hVe
 go_enter Tryz.func230, Tryz.ntmps230
 go_wp2_with fail
 have HC : Hid (∀ W, Below ((w.alloc (.cells #[.int .i64 wr, .int .u64 (sq : Int), .int .u64 (tm : Int), .int .u8 (kd : Int), .string key, .slice A n c, .float .f64 num, .int .i64 node] 38)).drew).heap.size ((w.alloc (.cells #[.int .i64 wr, .int .u64 (sq : Int), .int .u64 (tm : Int), .int .u8 (kd : Int), .string key, .slice A n c, .float .f64 num, .int .i64 node] 38)).drew) W → _) := Lib.hid fun W hW => HC.out W ((Below.refl _ _).drew.trans (by simpa using hW))
 refine Facts.wp_region_tail 8 (n := 23) (by kernel_rfl) (by kernel_rfl) (by kernel_rfl) rfl [Facts.Pred.is (Value.pointer (some ⟨d, 0, none⟩)), Facts.Pred.is (Value.pointer (some ⟨d, 0, none⟩)), Facts.Pred.is (Value.pointer (some ⟨d, 0, none⟩)), Facts.Pred.is (Value.map (some mb)), Facts.Pred.is (Value.pointer (some ⟨w.heap.size, 4, none⟩)), Facts.Pred.is (Value.string key), Facts.Pred.is (V), PBox w.heap.size #[.int .u8 0, .slice none 0 0, .float .f64 0] 63] ?_ ?_
 ·refine ⟨?_, ?_, ?_, ?_, ?_, ?_, ?_, ?_, trivial⟩
  ·refine Facts.step_is (Value.pointer (some ⟨d, 0, none⟩)) fun a W hR hold hnew => ?_
   have f0 : a.tmps.getD 0 undef = Value.pointer (some ⟨d, 0, none⟩) := hold 0 (by kernel_rfl)
   refine ⟨Facts.wanted_free rfl, ?_, fun _ => rfl⟩; simp [go_sem, Act.eval, f0]
  ·refine Facts.step_is (Value.pointer (some ⟨d, 0, none⟩)) fun a W hR hold hnew => ?_
   have f6 : a.tmps.getD 6 undef = Value.pointer (some ⟨d, 0, none⟩) := hnew 0 6 (by kernel_rfl)
   refine ⟨Facts.wanted_free rfl, ?_, fun _ => rfl⟩; simp [go_sem, Act.eval, f6]
  ·refine Facts.step_is (Value.pointer (some ⟨d, 0, none⟩)) fun a W hR hold hnew => ?_
   have f7 : a.tmps.getD 7 undef = Value.pointer (some ⟨d, 0, none⟩) := hnew 1 7 (by kernel_rfl)
   refine ⟨Facts.wanted_free rfl, ?_, fun _ => rfl⟩; simp [go_sem, Act.eval, f7]
  ·refine Facts.step_is (Value.map (some mb)) fun a W hR hold hnew => ?_
   have f8 : a.tmps.getD 8 undef = Value.pointer (some ⟨d, 0, none⟩) := hnew 2 8 (by kernel_rfl)
   obtain ⟨s0, s4, sr⟩ := HC.out W hR
   refine ⟨Facts.wanted_free rfl, ?_, fun _ => rfl⟩; simp [go_sem, Act.eval, f8, s0]
  ·refine Facts.step_is (Value.pointer (some ⟨w.heap.size, 4, none⟩)) fun a W hR hold hnew => ?_
   have f3 : a.tmps.getD 3 undef = Value.pointer (some ⟨w.heap.size, 0, none⟩) := hold 3 (by kernel_rfl)
   refine ⟨Facts.wanted_free rfl, ?_, fun _ => rfl⟩; simp [go_sem, Act.eval, f3]
  ·refine Facts.step_is (Value.string key) fun a W hR hold hnew => ?_
   have f10 : a.tmps.getD 10 undef = Value.pointer (some ⟨w.heap.size, 4, none⟩) := hnew 4 10 (by kernel_rfl)
   obtain ⟨s0, s4, sr⟩ := HC.out W hR
   refine ⟨Facts.wanted_free rfl, ?_, fun _ => rfl⟩; simp [go_sem, Act.eval, f10, s4]
  ·refine Facts.step_is (V) fun a W hR hold hnew => ?_
   have f9 : a.tmps.getD 9 undef = Value.map (some mb) := hnew 3 9 (by kernel_rfl)
   have f11 : a.tmps.getD 11 undef = Value.string key := hnew 5 11 (by kernel_rfl)
   obtain ⟨s0, s4, sr⟩ := HC.out W hR
   refine ⟨Facts.wanted_free rfl, ?_, fun _ => rfl⟩; simp [go_sem, Act.eval, f9, f11, sr]
  ·-- 7: Op.alloc 50
   refine Facts.step_new fun a W hR hold hnew => ?_
   refine ⟨Facts.wanted_free rfl, _, _, by simp [go_sem], (Below.refl _ _).alloc (Nat.le_refl _) _, W.heap.size, rfl, by have := hR.size; simp at this; omega, heap_alloc_new W _⟩
 ·intro a w3 hR' hsize hdef hnew hold
  obtain ⟨g, hg5, hgB, hgh⟩ := hnew 7 5 (by omega) (by kernel_rfl)
  have f0 : a.tmps.getD 0 undef = Value.pointer (some ⟨d, 0, none⟩) := hold 0 (fun i _ => not_dst (by kernel_rfl) i)
  have f3 : a.tmps.getD 3 undef = Value.pointer (some ⟨w.heap.size, 0, none⟩) := hold 3 (fun i _ => not_dst (by kernel_rfl) i)
  have f4 : a.tmps.getD 4 undef = Value.float FloatKind.f64 0 := hold 4 (fun i _ => not_dst (by kernel_rfl) i)
  have f5 : a.tmps.getD 5 undef = Value.pointer (some ⟨g, 0, none⟩) := hg5
  have f12 : a.tmps.getD 12 undef = V := hnew 6 12 (by omega) (by kernel_rfl)
  obtain ⟨tm, df⟩ := a
  simp only [] at hdef hsize f0 f3 f4 f5 f12
  obtain ⟨xq, hxq, hlit⟩ := Facts.lits tm hsize Facts.idx23 Facts.idx23_eq
  rw [hxq] at f0 f3 f4 f5 f12
  simp only [Facts.idx23, List.map_cons, List.map_nil, f0, f3, f4, f5, f12] at hlit
  clear f0 f3 f4 f5 f12 hsize hnew hold hxq
  subst hlit
  subst hdef
  try simp only []
  obtain ⟨b3, g3, h3⟩ := BX.out w3 ((Below.refl _ _).drew.trans (by simpa using hR'))
  obtain ⟨_, _, _, _, _, _, e6, _⟩ := box8 g3
  have G := Lib.hid hgh
  have B3 := Lib.hid b3
  have v0 : w3.cell? ⟨g, 0, none⟩ = some (.int .u8 0) := by rw [cell_of_row w3 _ _ _ _ _ hgh]; rfl
  have v1 : w3.cell? ⟨g, 1, none⟩ = some (.slice none 0 0) := by rw [cell_of_row w3 _ _ _ _ _ hgh]; rfl
  have v2 : w3.cell? ⟨g, 2, none⟩ = some (.float .f64 0) := by rw [cell_of_row w3 _ _ _ _ _ hgh]; rfl
  have y0 : w3.frozen? ⟨g, 0, none⟩ = false := frozen_row0 hgh
  have y1 : w3.frozen? ⟨g, 1, none⟩ = false := frozen_row0 hgh
  have y2 : w3.frozen? ⟨g, 2, none⟩ = false := frozen_row0 hgh
  have hne : ¬ w.heap.size = g := fun e => by rw [e] at g3; rw [g3] at hgh; simp at hgh
  rw [HV.out]
  clear hR' hgh b3 g3 h3
  simp only [List.drop_succ_cons, List.drop_zero]
  by_cases h2 : K = 2
  ·subst h2
   go_wp2_with fail
   refine (sumq_any x num _).mono ?_
   rintro e w4 ⟨rfl, hb4⟩
   have HB4 := Lib.hid hb4
   clear hb4
   go_wp2
   go_ret
   exact ⟨by rw [HRES.out, if_pos trivial]; rfl, (Below.beside B3.out ((((Beside.refl [g] _).setCell (by simp) _).setCell (by simp) _).setCell (by simp) _) B3.out.size (by simpa using hgB)).trans (HB4.out.mono (by have := B3.out.size; simpa using this))⟩
  ·have hd2 : ((K : Int) == 2) = false := by rw [beq_eq_false_iff_ne]; omega
   go_wp2
   go_ret
   exact ⟨by rw [HRES.out, if_neg h2]; rfl, Below.beside B3.out ((((Beside.refl [g] _).setCell (by simp) _).setCell (by simp) _).setCell (by simp) _) B3.out.size (by simpa using hgB)⟩
end Go.Proofs.YtinjbdgjcadodaaGreatDoor.Fol
namespace Go.Proofs.YtinjbdgjcadodaaGreatDoor.Fol
open Go Go.RowKit Words Enc Go.Proofs.YtinjbdgjcadodaaGreatDoor.Q Evt
def changeP (F : Fo) (e : Ev) : Fo :=
 if e.kind = 1 then { F with L := ins e.key.data.toList ⟨1, e.text, 0⟩ F.L }
 else if e.kind = 2 then { F with L := ins e.key.data.toList ⟨2, [], e.num⟩ F.L }
 else if e.kind = 3 then { F with L := ins e.key.data.toList ⟨2, [], sumP F e.key.data.toList e.num⟩ F.L }
 else if e.kind = 4 then { F with L := del e.key.data.toList F.L }
 else if e.kind = 5 then { F with J := F.J.set e.node.toNat true }
 else { F with R := F.R.set e.writer.toNat true }
theorem sumOf_plain (F : Fo) (k : Key) (x : Nat) : sumOf F k x = sumP F k (qb x) := by
 unfold sumOf sumP
 cases lk k F.L <;> rfl
theorem change_plain (F : Fo) (e : Ev) (h1 : 1 ≤ e.kind) (h2 : e.kind ≤ 6) : change F e = changeP F (plainE e) := by
 obtain ⟨wr, sq, tm, kd, key, text, num, node⟩ := e
 simp only at h1 h2
 rcases (show kd = 1 ∨ kd = 2 ∨ kd = 3 ∨ kd = 4 ∨ kd = 5 ∨ kd = 6 by omega) with rfl | rfl | rfl | rfl | rfl | rfl <;> simp [change, changeP, plainE, sumOf_plain]
structure CelOk (c : Cel) : Prop where
 text : c.text.length ≤ 1048576
 num : c.num < 18446744073709551616
 kind : c.kind = 1 ∨ c.kind = 2
 plain : qb c.num = c.num
theorem ok_ins {F : Fo} (h : Ok F) {k : Key} {c : Cel} (hk : k.length ≤ 64) (hc : CelOk c) : Ok { F with L := ins k c F.L } :=
 ⟨rise_ins h.rise, h.j, h.r, h.h, h.hs, h.time, h.wr, h.mark, fun p hp => by
  rcases mem_ins hp with rfl | hp
  ·exact ⟨hk, hc.text, hc.num, hc.kind⟩
  ·exact h.cel p hp, fun p hp => by
  rcases mem_ins hp with rfl | hp
  ·exact hc.plain
  ·exact h.plain p hp⟩
theorem ok_del {F : Fo} (h : Ok F) (k : Key) : Ok { F with L := del k F.L } :=
 ⟨rise_del h.rise, h.j, h.r, h.h, h.hs, h.time, h.wr, h.mark, fun p hp => h.cel p (mem_del hp), fun p hp => h.plain p (mem_del hp)⟩
theorem ok_J {F : Fo} (h : Ok F) (i : Nat) : Ok { F with J := F.J.set i true } := ⟨h.rise, by simp [h.j], h.r, h.h, h.hs, h.time, h.wr, h.mark, h.cel, h.plain⟩
theorem ok_R {F : Fo} (h : Ok F) (i : Nat) : Ok { F with R := F.R.set i true } := ⟨h.rise, h.j, by simp [h.r], h.h, h.hs, h.time, h.wr, h.mark, h.cel, h.plain⟩
theorem row_J {F : Fo} (h : Ok F) (mb : Nat) {i : Nat} (hi : i < 64) : (row mb F).setIfInBounds (1 + i) (.bool true) = row mb { F with J := F.J.set i true } := by
 unfold row cells
 simp only [List.setIfInBounds_toArray]
 congr 1
 rw [Nat.add_comm 1 i, List.set_cons_succ, List.set_append_left _ _ (by rw [List.length_map, h.j]; exact hi), List.map_set]
theorem row_R {F : Fo} (h : Ok F) (mb : Nat) {i : Nat} (hi : i < 64) : (row mb F).setIfInBounds (65 + i) (.bool true) = row mb { F with R := F.R.set i true } := by
 unfold row cells
 simp only [List.setIfInBounds_toArray]
 congr 1
 rw [show 65 + i = (64 + i) + 1 by omega, List.set_cons_succ, List.set_append_right _ _ (by rw [List.length_map, h.j]; omega), List.length_map, h.j, Nat.add_sub_cancel_left, List.set_append_left _ _ (by rw [List.length_map, h.r]; exact hi), List.map_set]
def Makes (S : List Nat) (d mb : Nat) (w : World) (F' : Fo) (w' : World) : Prop := FoldAt w' S d mb F' ∧ Beside [d, mb] w w'
section
variable {wr : Int} {sq tm : Nat} {key : ByteArray} {A : Option Addr} {n c num : Nat} {node : Int} {S : List Nat} {d mb : Nat} {F : Fo}
theorem put_makes {w w1 w2 : World} {k : Key} {L : List (Key × MC)} {m : MC} (h : FoldAt w S d mb F) (hb : Below w.heap.size w w1) (hL : mapV MC.cel L = F.L) (ht : ∀ p ∈ L, TextAt w S p.2) (hm2 : MapAt w2 mb (ins k m L)) (hturn : w1.mapTurned w2 mb)
  (hk : k.length ≤ 64) (hc : CelOk m.cel) (hm : TextAt w1 S m) : Makes S d mb w { F with L := ins k m.cel F.L } w2 := by
 have b2 := beside_map hturn
 have h1 := h.below hb
 refine ⟨h1.turnMap b2 rfl hm2 (by rw [mapV_ins, hL]) (fun p hp => ?_) (ok_ins h.ok hk hc), ?_⟩
 ·have hs : ∀ x ∈ [mb], x ∈ S ∨ w1.heap.size ≤ x := fun x hx => .inl (by rw [List.mem_singleton.1 hx]; exact h.mS)
  rcases mem_ins hp with rfl | hp
  ·exact hm.beside b2 hs
  ·exact ((ht p hp).beside (S1 := []) (.of_below hb _) fun x hx => by cases hx).beside b2 hs
 ·exact (Beside.of_below hb [d, mb]).trans b2 fun x hx => .inl (by simp at hx; simp [hx])
set_option maxHeartbeats 1000000 in
theorem change_set (w : World) (h : FoldAt w S d mb F) (hk : key.size ≤ 64) (text : List UInt8) (hs : Sees w A n text) (ho : Out S A n) (hc : n ≤ c) (hn : n ≤ 1048576) (hf : F.L.length < 1000000000000) :
  Calls Tryz.prog 166 #[.pointer (some ⟨d, 0, none⟩), .agg #[.int .i64 wr, .int .u64 (sq : Int), .int .u64 (tm : Int), .int .u8 1, .string key, .slice A n c, .float .f64 num, .int .i64 node]] w
   fun e w' => e = .returned (.tuple #[]) ∧ Makes S d mb w { F with L := ins key.data.toList ⟨1, text, 0⟩ F.L } w' := by
 obtain ⟨L, hm, hL, ht⟩ := h.map
 have hLl : L.length < 1000000000000 := by have : L.length = F.L.length := by rw [← hL, mapV_len]
                                           omega
 have hr : Rise L := (mapV_rise MC.cel L).1 (by rw [hL]; exact h.ok.rise)
 have hb : Below w.heap.size w (w.alloc (.cells #[.int .i64 wr, .int .u64 (sq : Int), .int .u64 (tm : Int), .int .u8 1, .string key, .slice A n c, .float .f64 num, .int .i64 node] 38)).drew := ((Below.refl _ _).alloc (Nat.le_refl _) _).drew
 obtain ⟨u, hu⟩ : ∃ u, u = w.alloc (.cells #[.int .i64 wr, .int .u64 (sq : Int), .int .u64 (tm : Int), .int .u8 1, .string key, .slice A n c, .float .f64 num, .int .i64 node] 38) := ⟨_, rfl⟩
 rw [← hu] at hb
 have u0 := (h.below hb).c0
 have g : u.heap[w.heap.size]? = some (.cells #[.int .i64 wr, .int .u64 (sq : Int), .int .u64 (tm : Int), .int .u8 1, .string key, .slice A n c, .float .f64 num, .int .i64 node] 38 (0, 0)) := by rw [hu]; exact heap_alloc_new w _
 obtain ⟨e0, e1, e2, e3, e4, e5, e6, e7⟩ := box8 g
 have hl := hs.1
 obtain ⟨w2, hst, hm2, hturn⟩ := (hm.kept (hb.block mb hm.lt)).run_store hr ⟨1, A, c, text, 0⟩ (k := key) (by omega) hLl
 unfold MC.val at hst
 simp only [hl] at hst
 replace hst : (Instr.mapUpdate 208 (.map (some mb)) (.string key) (.agg #[.int .u8 1, .slice A n c, .float .f64 0])).run Tryz.prog u.drew = .ok () w2 := hst
 have RES := Lib.hid (put_makes (m := ⟨1, A, c, text, 0⟩) h hb hL ht hm2 hturn (by simpa using hk) ⟨by show text.length ≤ _; rw [hl]; exact hn, by show (0 : Nat) < _; omega, .inl rfl, qb_zero⟩ ⟨by rw [hl]; exact hs.below hb, by rw [hl]; exact hc, by rw [hl]; exact ho⟩)
 have HU := Lib.hid hu
 clear h hm hL ht hr hs ho hm2 hturn hl hu g
 go_enter Tryz.func166, Tryz.ntmps166
 go_wp2
 rw [← HU.out]
 go_still_tail 9, (by kernel_rfl)
 change wpList _ _ _ _ _ u.drew
 go_wp2
 go_end0
 exact ⟨rfl, RES.out⟩
set_option maxHeartbeats 1000000 in
theorem change_put (w : World) (h : FoldAt w S d mb F) (hk : key.size ≤ 64) (hq : num < 18446744073709551616) (hp : qb num = num) (hf : F.L.length < 1000000000000) :
  Calls Tryz.prog 166 #[.pointer (some ⟨d, 0, none⟩), .agg #[.int .i64 wr, .int .u64 (sq : Int), .int .u64 (tm : Int), .int .u8 2, .string key, .slice A n c, .float .f64 num, .int .i64 node]] w
   fun e w' => e = .returned (.tuple #[]) ∧ Makes S d mb w { F with L := ins key.data.toList ⟨2, [], num⟩ F.L } w' := by
 obtain ⟨L, hm, hL, ht⟩ := h.map
 have hLl : L.length < 1000000000000 := by have : L.length = F.L.length := by rw [← hL, mapV_len]
                                           omega
 have hr : Rise L := (mapV_rise MC.cel L).1 (by rw [hL]; exact h.ok.rise)
 have hb : Below w.heap.size w (w.alloc (.cells #[.int .i64 wr, .int .u64 (sq : Int), .int .u64 (tm : Int), .int .u8 2, .string key, .slice A n c, .float .f64 num, .int .i64 node] 38)).drew := ((Below.refl _ _).alloc (Nat.le_refl _) _).drew
 obtain ⟨u, hu⟩ : ∃ u, u = w.alloc (.cells #[.int .i64 wr, .int .u64 (sq : Int), .int .u64 (tm : Int), .int .u8 2, .string key, .slice A n c, .float .f64 num, .int .i64 node] 38) := ⟨_, rfl⟩
 rw [← hu] at hb
 have u0 := (h.below hb).c0
 have g : u.heap[w.heap.size]? = some (.cells #[.int .i64 wr, .int .u64 (sq : Int), .int .u64 (tm : Int), .int .u8 2, .string key, .slice A n c, .float .f64 num, .int .i64 node] 38 (0, 0)) := by rw [hu]; exact heap_alloc_new w _
 obtain ⟨e0, e1, e2, e3, e4, e5, e6, e7⟩ := box8 g
 obtain ⟨w2, hst, hm2, hturn⟩ := (hm.kept (hb.block mb hm.lt)).run_store hr ⟨2, none, 0, [], num⟩ (k := key) (by omega) hLl
 unfold MC.val at hst
 replace hst : (Instr.mapUpdate 208 (.map (some mb)) (.string key) (.agg #[.int .u8 2, .slice none 0 0, .float .f64 num])).run Tryz.prog u.drew = .ok () w2 := hst
 have RES := Lib.hid (put_makes (m := ⟨2, none, 0, [], num⟩) h hb hL ht hm2 hturn (by simpa using hk) ⟨by show (0 : Nat) ≤ _; omega, hq, .inr rfl, hp⟩ ⟨Sees.nil _ _, Nat.le_refl _, fun h => absurd h (by simp)⟩)
 have HU := Lib.hid hu
 clear h hm hL ht hr hm2 hturn hu g
 go_enter Tryz.func166, Tryz.ntmps166
 go_wp2
 rw [← HU.out]
 go_still_tail 9, (by kernel_rfl)
 change wpList _ _ _ _ _ u.drew
 go_wp2
 go_end0
 exact ⟨rfl, RES.out⟩
set_option maxHeartbeats 1000000 in
theorem change_drop (w : World) (h : FoldAt w S d mb F) (hk : key.size ≤ 64) :
  Calls Tryz.prog 166 #[.pointer (some ⟨d, 0, none⟩), .agg #[.int .i64 wr, .int .u64 (sq : Int), .int .u64 (tm : Int), .int .u8 4, .string key, .slice A n c, .float .f64 num, .int .i64 node]] w
   fun e w' => e = .returned (.tuple #[]) ∧ Makes S d mb w { F with L := del key.data.toList F.L } w' := by
 obtain ⟨L, hm, hL, ht⟩ := h.map
 have hr : Rise L := (mapV_rise MC.cel L).1 (by rw [hL]; exact h.ok.rise)
 have hb : Below w.heap.size w (w.alloc (.cells #[.int .i64 wr, .int .u64 (sq : Int), .int .u64 (tm : Int), .int .u8 4, .string key, .slice A n c, .float .f64 num, .int .i64 node] 38)).drew := ((Below.refl _ _).alloc (Nat.le_refl _) _).drew
 obtain ⟨u, hu⟩ : ∃ u, u = w.alloc (.cells #[.int .i64 wr, .int .u64 (sq : Int), .int .u64 (tm : Int), .int .u8 4, .string key, .slice A n c, .float .f64 num, .int .i64 node] 38) := ⟨_, rfl⟩
 rw [← hu] at hb
 have h1 := h.below hb
 have u0 := h1.c0
 have g : u.heap[w.heap.size]? = some (.cells #[.int .i64 wr, .int .u64 (sq : Int), .int .u64 (tm : Int), .int .u8 4, .string key, .slice A n c, .float .f64 num, .int .i64 node] 38 (0, 0)) := by rw [hu]; exact heap_alloc_new w _
 obtain ⟨e0, e1, e2, e3, e4, e5, e6, e7⟩ := box8 g
 obtain ⟨w2, hst, hm2, hturn⟩ := (hm.kept (hb.block mb hm.lt)).run_del hr (k := key) (by omega) 0
 have b2 := beside_map hturn
 have RES : Hid (Makes S d mb w { F with L := del key.data.toList F.L } w2) := Lib.hid ⟨h1.turnMap b2 rfl hm2 (by rw [mapV_del, hL]) (fun p hp => ((ht p (mem_del hp)).beside (S1 := []) (.of_below hb _) fun x hx => by cases hx).beside b2 fun x hx => .inl (by rw [List.mem_singleton.1 hx]; exact h1.mS)) (ok_del h.ok _),
  (Beside.of_below hb [d, mb]).trans b2 fun x hx => .inl (by simp at hx; simp [hx])⟩
 have HU := Lib.hid hu
 clear h h1 hm hL ht hr hm2 hturn hu g b2
 go_enter Tryz.func166, Tryz.ntmps166
 go_wp2
 rw [← HU.out]
 go_still_tail 6, (by kernel_rfl)
 change wpList _ _ _ _ _ u.drew
 go_wp2
 go_end0
 exact ⟨rfl, RES.out⟩
set_option maxHeartbeats 1000000 in
theorem change_join (w : World) (h : FoldAt w S d mb F) (hn : 0 ≤ node ∧ node ≤ 63) :
  Calls Tryz.prog 166 #[.pointer (some ⟨d, 0, none⟩), .agg #[.int .i64 wr, .int .u64 (sq : Int), .int .u64 (tm : Int), .int .u8 5, .string key, .slice A n c, .float .f64 num, .int .i64 node]] w
   fun e w' => e = .returned (.tuple #[]) ∧ Makes S d mb w { F with J := F.J.set node.toNat true } w' := by
 obtain ⟨i, rfl⟩ := Int.eq_ofNat_of_zero_le hn.1
 have hi : i < 64 := by omega
 have hi2 : (i : Int) < 64 := by omega
 rw [Int.toNat_natCast]
 have hb : Below w.heap.size w (w.alloc (.cells #[.int .i64 wr, .int .u64 (sq : Int), .int .u64 (tm : Int), .int .u8 5, .string key, .slice A n c, .float .f64 num, .int .i64 (i : Int)] 38)).drew := ((Below.refl _ _).alloc (Nat.le_refl _) _).drew
 obtain ⟨u, hu⟩ : ∃ u, u = w.alloc (.cells #[.int .i64 wr, .int .u64 (sq : Int), .int .u64 (tm : Int), .int .u8 5, .string key, .slice A n c, .float .f64 num, .int .i64 (i : Int)] 38) := ⟨_, rfl⟩
 rw [← hu] at hb
 have h1 := h.below hb
 have cx := h1.cJ hi
 have fx := h1.frozen (1 + i)
 have g : u.heap[w.heap.size]? = some (.cells #[.int .i64 wr, .int .u64 (sq : Int), .int .u64 (tm : Int), .int .u8 5, .string key, .slice A n c, .float .f64 num, .int .i64 (i : Int)] 38 (0, 0)) := by rw [hu]; exact heap_alloc_new w _
 obtain ⟨e0, e1, e2, e3, e4, e5, e6, e7⟩ := box8 g
 have RES : Hid (Makes S d mb w { F with J := F.J.set i true } (u.drew.setCell ⟨d, 1 + i, none⟩ (.bool true))) := Lib.hid ⟨h1.turnRow ((Beside.refl [d] _).setCell (by simp) _) (by rw [heapSame h1.row, row_J h.ok mb hi]) rfl (ok_J h.ok i),
  (Beside.of_below hb [d, mb]).trans ((Beside.refl [d] _).setCell (by simp) _) fun x hx => .inl (by simp at hx; simp [hx])⟩
 have HU := Lib.hid hu
 clear h h1 hu g hb hi
 generalize F.J.getD i false = v at cx
 go_enter Tryz.func166, Tryz.ntmps166
 go_wp2
 rw [← HU.out]
 go_still_tail 6, (by kernel_rfl)
 change wpList _ _ _ _ _ u.drew
 go_wp2
 go_end0
 exact ⟨rfl, RES.out⟩
set_option maxHeartbeats 1000000 in
theorem change_retire (w : World) (h : FoldAt w S d mb F) (hn : 0 ≤ wr ∧ wr ≤ 63) :
  Calls Tryz.prog 166 #[.pointer (some ⟨d, 0, none⟩), .agg #[.int .i64 wr, .int .u64 (sq : Int), .int .u64 (tm : Int), .int .u8 6, .string key, .slice A n c, .float .f64 num, .int .i64 node]] w
   fun e w' => e = .returned (.tuple #[]) ∧ Makes S d mb w { F with R := F.R.set wr.toNat true } w' := by
 obtain ⟨i, rfl⟩ := Int.eq_ofNat_of_zero_le hn.1
 have hi : i < 64 := by omega
 have hi2 : (i : Int) < 64 := by omega
 rw [Int.toNat_natCast]
 have hb : Below w.heap.size w (w.alloc (.cells #[.int .i64 (i : Int), .int .u64 (sq : Int), .int .u64 (tm : Int), .int .u8 6, .string key, .slice A n c, .float .f64 num, .int .i64 node] 38)).drew := ((Below.refl _ _).alloc (Nat.le_refl _) _).drew
 obtain ⟨u, hu⟩ : ∃ u, u = w.alloc (.cells #[.int .i64 (i : Int), .int .u64 (sq : Int), .int .u64 (tm : Int), .int .u8 6, .string key, .slice A n c, .float .f64 num, .int .i64 node] 38) := ⟨_, rfl⟩
 rw [← hu] at hb
 have h1 := h.below hb
 have cx := h1.cR hi
 have fx := h1.frozen (65 + i)
 have g : u.heap[w.heap.size]? = some (.cells #[.int .i64 (i : Int), .int .u64 (sq : Int), .int .u64 (tm : Int), .int .u8 6, .string key, .slice A n c, .float .f64 num, .int .i64 node] 38 (0, 0)) := by rw [hu]; exact heap_alloc_new w _
 obtain ⟨e0, e1, e2, e3, e4, e5, e6, e7⟩ := box8 g
 have RES : Hid (Makes S d mb w { F with R := F.R.set i true } (u.drew.setCell ⟨d, 65 + i, none⟩ (.bool true))) := Lib.hid ⟨h1.turnRow ((Beside.refl [d] _).setCell (by simp) _) (by rw [heapSame h1.row, row_R h.ok mb hi]) rfl (ok_R h.ok i),
  (Beside.of_below hb [d, mb]).trans ((Beside.refl [d] _).setCell (by simp) _) fun x hx => .inl (by simp at hx; simp [hx])⟩
 have HU := Lib.hid hu
 clear h h1 hu g hb hi
 generalize F.R.getD i false = v at cx
 go_enter Tryz.func166, Tryz.ntmps166
 go_wp2
 rw [← HU.out]
 go_still_tail 6, (by kernel_rfl)
 change wpList _ _ _ _ _ u.drew
 go_wp2
 go_end0
 exact ⟨rfl, RES.out⟩
end
end Go.Proofs.YtinjbdgjcadodaaGreatDoor.Fol
