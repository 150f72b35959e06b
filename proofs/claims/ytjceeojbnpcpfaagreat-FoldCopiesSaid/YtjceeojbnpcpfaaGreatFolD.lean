/- Package fold: what an event changes. -/
import Derived.Test.YtjceeojbnpcpfaaGreatFolC2
import Derived.StillTailTactics
namespace Go.Proofs.YtjceeojbnpcpfaaGreat.Fol
open Go Go.RowKit Go.Proofs.YtjceeojbnpcpfaaGreat.Words Go.Proofs.YtjceeojbnpcpfaaGreat.Enc Go.Proofs.YtjceeojbnpcpfaaGreat.Q Go.Proofs.YtjceeojbnpcpfaaGreat.Evt
set_option linter.unusedVariables false
set_option linter.unusedSimpArgs false

/-- What an event makes of a fold, whose quantity is plain. -/
def changeP (F : Fo) (e : Ev) : Fo :=
  if e.kind = 1 then { F with L := ins e.key.data.toList ⟨1, e.text, 0⟩ F.L }
  else if e.kind = 2 then { F with L := ins e.key.data.toList ⟨2, [], e.num⟩ F.L }
  else if e.kind = 3 then { F with L := ins e.key.data.toList ⟨2, [], sumP F e.key.data.toList e.num⟩ F.L }
  else if e.kind = 4 then { F with L := del e.key.data.toList F.L }
  else if e.kind = 5 then { F with J := F.J.set e.node.toNat true }
  else { F with R := F.R.set e.writer.toNat true }
theorem sumOf_plain (F : Fo) (k : Key) (x : Nat) : sumOf F k x = sumP F k (qb x) := by
  unfold sumOf sumP
  cases lk k F.L <;> rfl
theorem change_plain (F : Fo) (e : Ev) (h1 : 1 ≤ e.kind) (h2 : e.kind ≤ 6) : change F e = changeP F (plainE e) := by
  obtain ⟨wr, sq, tm, kd, key, text, num, node⟩ := e
  simp only at h1 h2
  rcases (show kd = 1 ∨ kd = 2 ∨ kd = 3 ∨ kd = 4 ∨ kd = 5 ∨ kd = 6 by omega) with rfl | rfl | rfl | rfl | rfl | rfl <;> simp [change, changeP, plainE, sumOf_plain]
/-- The new cell is one that may be. -/
structure CelOk (c : Cel) : Prop where
  text : c.text.length ≤ 1048576
  num : c.num < 18446744073709551616
  kind : c.kind = 1 ∨ c.kind = 2
  plain : qb c.num = c.num
theorem ok_ins {F : Fo} (h : Ok F) {k : Key} {c : Cel} (hk : k.length ≤ 64) (hc : CelOk c) : Ok { F with L := ins k c F.L } :=
  ⟨rise_ins h.rise, h.j, h.r, h.h, h.hs, h.time, h.wr, h.mark, fun p hp => by
    rcases mem_ins hp with rfl | hp
    · exact ⟨hk, hc.text, hc.num, hc.kind⟩
    · exact h.cel p hp, fun p hp => by
    rcases mem_ins hp with rfl | hp
    · exact hc.plain
    · exact h.plain p hp⟩
theorem ok_del {F : Fo} (h : Ok F) (k : Key) : Ok { F with L := del k F.L } :=
  ⟨rise_del h.rise, h.j, h.r, h.h, h.hs, h.time, h.wr, h.mark, fun p hp => h.cel p (mem_del hp), fun p hp => h.plain p (mem_del hp)⟩
theorem ok_J {F : Fo} (h : Ok F) (i : Nat) : Ok { F with J := F.J.set i true } := ⟨h.rise, by simp [h.j], h.r, h.h, h.hs, h.time, h.wr, h.mark, h.cel, h.plain⟩
theorem ok_R {F : Fo} (h : Ok F) (i : Nat) : Ok { F with R := F.R.set i true } := ⟨h.rise, h.j, by simp [h.r], h.h, h.hs, h.time, h.wr, h.mark, h.cel, h.plain⟩
theorem row_J {F : Fo} (h : Ok F) (mb : Nat) {i : Nat} (hi : i < 64) : (row mb F).setIfInBounds (1 + i) (.bool true) = row mb { F with J := F.J.set i true } := by
  unfold row cells
  simp only [List.setIfInBounds_toArray]
  congr 1
  rw [Nat.add_comm 1 i, List.set_cons_succ, List.set_append_left _ _ (by rw [List.length_map, h.j]; exact hi), List.map_set]
theorem row_R {F : Fo} (h : Ok F) (mb : Nat) {i : Nat} (hi : i < 64) : (row mb F).setIfInBounds (65 + i) (.bool true) = row mb { F with R := F.R.set i true } := by
  unfold row cells
  simp only [List.setIfInBounds_toArray]
  congr 1
  rw [show 65 + i = (64 + i) + 1 by omega, List.set_cons_succ, List.set_append_right _ _ (by rw [List.length_map, h.j]; omega), List.length_map, h.j, Nat.add_sub_cancel_left, List.set_append_left _ _ (by rw [List.length_map, h.r]; exact hi), List.map_set]

/-- A call on the fold at d: it has turned nothing but the fold, and what is new. -/
def Makes (S : List Nat) (d mb : Nat) (w : World) (F' : Fo) (w' : World) : Prop := FoldAt w' S d mb F' ∧ Beside [d, mb] w w'

section
variable {wr : Int} {sq tm : Nat} {key : ByteArray} {A : Option Addr} {n c num : Nat} {node : Int} {S : List Nat} {d mb : Nat} {F : Fo}
/-- What stands behind a store into the map. -/
theorem put_makes {w w1 w2 : World} {k : Key} {L : List (Key × MC)} {m : MC} (h : FoldAt w S d mb F) (hb : Below w.heap.size w w1) (hL : mapV MC.cel L = F.L) (ht : ∀ p ∈ L, TextAt w S p.2) (hm2 : MapAt w2 mb (ins k m L)) (hturn : w1.mapTurned w2 mb)
    (hk : k.length ≤ 64) (hc : CelOk m.cel) (hm : TextAt w1 S m) : Makes S d mb w { F with L := ins k m.cel F.L } w2 := by
  have b2 := beside_map hturn
  have h1 := h.below hb
  refine ⟨h1.turnMap b2 rfl hm2 (by rw [mapV_ins, hL]) (fun p hp => ?_) (ok_ins h.ok hk hc), ?_⟩
  · have hs : ∀ x ∈ [mb], x ∈ S ∨ w1.heap.size ≤ x := fun x hx => .inl (by rw [List.mem_singleton.1 hx]; exact h.mS)
    rcases mem_ins hp with rfl | hp
    · exact hm.beside b2 hs
    · exact ((ht p hp).beside (S1 := []) (.of_below hb _) fun x hx => by cases hx).beside b2 hs
  · exact (Beside.of_below hb [d, mb]).trans b2 fun x hx => .inl (by simp at hx; simp [hx])
set_option maxRecDepth 100000 in
set_option maxHeartbeats 1000000 in
theorem change_set (w : World) (h : FoldAt w S d mb F) (hk : key.size ≤ 64) (text : List UInt8) (hs : Sees w A n text) (ho : Out S A n) (hc : n ≤ c) (hn : n ≤ 1048576) (hf : F.L.length < 1000000000000) :
    Calls Tryz.prog 16 #[.pointer (some ⟨d, 0, none⟩), .agg #[.int .i64 wr, .int .u64 (sq : Int), .int .u64 (tm : Int), .int .u8 1, .string key, .slice A n c, .float .f64 num, .int .i64 node]] w
      fun e w' => e = .returned (.tuple #[]) ∧ Makes S d mb w { F with L := ins key.data.toList ⟨1, text, 0⟩ F.L } w' := by
  obtain ⟨L, hm, hL, ht⟩ := h.map
  have hLl : L.length < 1000000000000 := by have : L.length = F.L.length := by rw [← hL, mapV_len]
                                            omega
  have hr : Rise L := (mapV_rise MC.cel L).1 (by rw [hL]; exact h.ok.rise)
  have hb : Below w.heap.size w (w.alloc (.cells #[.int .i64 wr, .int .u64 (sq : Int), .int .u64 (tm : Int), .int .u8 1, .string key, .slice A n c, .float .f64 num, .int .i64 node] 38)).drew := ((Below.refl _ _).alloc (Nat.le_refl _) _).drew
  obtain ⟨u, hu⟩ : ∃ u, u = w.alloc (.cells #[.int .i64 wr, .int .u64 (sq : Int), .int .u64 (tm : Int), .int .u8 1, .string key, .slice A n c, .float .f64 num, .int .i64 node] 38) := ⟨_, rfl⟩
  rw [← hu] at hb
  have u0 := (h.below hb).c0
  have g : u.heap[w.heap.size]? = some (.cells #[.int .i64 wr, .int .u64 (sq : Int), .int .u64 (tm : Int), .int .u8 1, .string key, .slice A n c, .float .f64 num, .int .i64 node] 38 (0, 0)) := by rw [hu]; exact heap_alloc_new w _
  obtain ⟨e0, e1, e2, e3, e4, e5, e6, e7⟩ := box8 g
  have hl := hs.1
  obtain ⟨w2, hst, hm2, hturn⟩ := (hm.kept (hb.block mb hm.lt)).run_store hr ⟨1, A, c, text, 0⟩ (k := key) (by omega) hLl
  unfold MC.val at hst
  simp only [hl] at hst
  replace hst : (Instr.mapUpdate 53 (.map (some mb)) (.string key) (.agg #[.int .u8 1, .slice A n c, .float .f64 0])).run Tryz.prog u.drew = .ok () w2 := hst
  have RES := Lib.hid (put_makes (m := ⟨1, A, c, text, 0⟩) h hb hL ht hm2 hturn (by simpa using hk) ⟨by show text.length ≤ _; rw [hl]; exact hn, by show (0 : Nat) < _; omega, .inl rfl, qb_zero⟩ ⟨by rw [hl]; exact hs.below hb, by rw [hl]; exact hc, by rw [hl]; exact ho⟩)
  have HU := Lib.hid hu
  clear h hm hL ht hr hs ho hm2 hturn hl hu g
  go_enter Tryz.func16, Tryz.ntmps16
  go_wp2
  rw [← HU.out]
  go_still_tail 9, (by kernel_rfl)
  change wpList _ _ _ _ _ u.drew
  go_wp2
  go_end0
  exact ⟨rfl, RES.out⟩

set_option maxRecDepth 100000 in
set_option maxHeartbeats 1000000 in
theorem change_put (w : World) (h : FoldAt w S d mb F) (hk : key.size ≤ 64) (hq : num < 18446744073709551616) (hp : qb num = num) (hf : F.L.length < 1000000000000) :
    Calls Tryz.prog 16 #[.pointer (some ⟨d, 0, none⟩), .agg #[.int .i64 wr, .int .u64 (sq : Int), .int .u64 (tm : Int), .int .u8 2, .string key, .slice A n c, .float .f64 num, .int .i64 node]] w
      fun e w' => e = .returned (.tuple #[]) ∧ Makes S d mb w { F with L := ins key.data.toList ⟨2, [], num⟩ F.L } w' := by
  obtain ⟨L, hm, hL, ht⟩ := h.map
  have hLl : L.length < 1000000000000 := by have : L.length = F.L.length := by rw [← hL, mapV_len]
                                            omega
  have hr : Rise L := (mapV_rise MC.cel L).1 (by rw [hL]; exact h.ok.rise)
  have hb : Below w.heap.size w (w.alloc (.cells #[.int .i64 wr, .int .u64 (sq : Int), .int .u64 (tm : Int), .int .u8 2, .string key, .slice A n c, .float .f64 num, .int .i64 node] 38)).drew := ((Below.refl _ _).alloc (Nat.le_refl _) _).drew
  obtain ⟨u, hu⟩ : ∃ u, u = w.alloc (.cells #[.int .i64 wr, .int .u64 (sq : Int), .int .u64 (tm : Int), .int .u8 2, .string key, .slice A n c, .float .f64 num, .int .i64 node] 38) := ⟨_, rfl⟩
  rw [← hu] at hb
  have u0 := (h.below hb).c0
  have g : u.heap[w.heap.size]? = some (.cells #[.int .i64 wr, .int .u64 (sq : Int), .int .u64 (tm : Int), .int .u8 2, .string key, .slice A n c, .float .f64 num, .int .i64 node] 38 (0, 0)) := by rw [hu]; exact heap_alloc_new w _
  obtain ⟨e0, e1, e2, e3, e4, e5, e6, e7⟩ := box8 g
  obtain ⟨w2, hst, hm2, hturn⟩ := (hm.kept (hb.block mb hm.lt)).run_store hr ⟨2, none, 0, [], num⟩ (k := key) (by omega) hLl
  unfold MC.val at hst
  replace hst : (Instr.mapUpdate 53 (.map (some mb)) (.string key) (.agg #[.int .u8 2, .slice none 0 0, .float .f64 num])).run Tryz.prog u.drew = .ok () w2 := hst
  have RES := Lib.hid (put_makes (m := ⟨2, none, 0, [], num⟩) h hb hL ht hm2 hturn (by simpa using hk) ⟨by show (0 : Nat) ≤ _; omega, hq, .inr rfl, hp⟩ ⟨Sees.nil _ _, Nat.le_refl _, fun h => absurd h (by simp)⟩)
  have HU := Lib.hid hu
  clear h hm hL ht hr hm2 hturn hu g
  go_enter Tryz.func16, Tryz.ntmps16
  go_wp2
  rw [← HU.out]
  go_still_tail 9, (by kernel_rfl)
  change wpList _ _ _ _ _ u.drew
  go_wp2
  go_end0
  exact ⟨rfl, RES.out⟩
set_option maxRecDepth 100000 in
set_option maxHeartbeats 1000000 in
theorem change_drop (w : World) (h : FoldAt w S d mb F) (hk : key.size ≤ 64) :
    Calls Tryz.prog 16 #[.pointer (some ⟨d, 0, none⟩), .agg #[.int .i64 wr, .int .u64 (sq : Int), .int .u64 (tm : Int), .int .u8 4, .string key, .slice A n c, .float .f64 num, .int .i64 node]] w
      fun e w' => e = .returned (.tuple #[]) ∧ Makes S d mb w { F with L := del key.data.toList F.L } w' := by
  obtain ⟨L, hm, hL, ht⟩ := h.map
  have hr : Rise L := (mapV_rise MC.cel L).1 (by rw [hL]; exact h.ok.rise)
  have hb : Below w.heap.size w (w.alloc (.cells #[.int .i64 wr, .int .u64 (sq : Int), .int .u64 (tm : Int), .int .u8 4, .string key, .slice A n c, .float .f64 num, .int .i64 node] 38)).drew := ((Below.refl _ _).alloc (Nat.le_refl _) _).drew
  obtain ⟨u, hu⟩ : ∃ u, u = w.alloc (.cells #[.int .i64 wr, .int .u64 (sq : Int), .int .u64 (tm : Int), .int .u8 4, .string key, .slice A n c, .float .f64 num, .int .i64 node] 38) := ⟨_, rfl⟩
  rw [← hu] at hb
  have h1 := h.below hb
  have u0 := h1.c0
  have g : u.heap[w.heap.size]? = some (.cells #[.int .i64 wr, .int .u64 (sq : Int), .int .u64 (tm : Int), .int .u8 4, .string key, .slice A n c, .float .f64 num, .int .i64 node] 38 (0, 0)) := by rw [hu]; exact heap_alloc_new w _
  obtain ⟨e0, e1, e2, e3, e4, e5, e6, e7⟩ := box8 g
  obtain ⟨w2, hst, hm2, hturn⟩ := (hm.kept (hb.block mb hm.lt)).run_del hr (k := key) (by omega) 0
  have b2 := beside_map hturn
  have RES : Hid (Makes S d mb w { F with L := del key.data.toList F.L } w2) := Lib.hid ⟨h1.turnMap b2 rfl hm2 (by rw [mapV_del, hL]) (fun p hp => ((ht p (mem_del hp)).beside (S1 := []) (.of_below hb _) fun x hx => by cases hx).beside b2 fun x hx => .inl (by rw [List.mem_singleton.1 hx]; exact h1.mS)) (ok_del h.ok _),
    (Beside.of_below hb [d, mb]).trans b2 fun x hx => .inl (by simp at hx; simp [hx])⟩
  have HU := Lib.hid hu
  clear h h1 hm hL ht hr hm2 hturn hu g b2
  go_enter Tryz.func16, Tryz.ntmps16
  go_wp2
  rw [← HU.out]
  go_still_tail 6, (by kernel_rfl)
  change wpList _ _ _ _ _ u.drew
  go_wp2
  go_end0
  exact ⟨rfl, RES.out⟩
set_option maxRecDepth 100000 in
set_option maxHeartbeats 1000000 in
theorem change_join (w : World) (h : FoldAt w S d mb F) (hn : 0 ≤ node ∧ node ≤ 63) :
    Calls Tryz.prog 16 #[.pointer (some ⟨d, 0, none⟩), .agg #[.int .i64 wr, .int .u64 (sq : Int), .int .u64 (tm : Int), .int .u8 5, .string key, .slice A n c, .float .f64 num, .int .i64 node]] w
      fun e w' => e = .returned (.tuple #[]) ∧ Makes S d mb w { F with J := F.J.set node.toNat true } w' := by
  obtain ⟨i, rfl⟩ := Int.eq_ofNat_of_zero_le hn.1
  have hi : i < 64 := by omega
  have hi2 : (i : Int) < 64 := by omega
  rw [Int.toNat_natCast]
  have hb : Below w.heap.size w (w.alloc (.cells #[.int .i64 wr, .int .u64 (sq : Int), .int .u64 (tm : Int), .int .u8 5, .string key, .slice A n c, .float .f64 num, .int .i64 (i : Int)] 38)).drew := ((Below.refl _ _).alloc (Nat.le_refl _) _).drew
  obtain ⟨u, hu⟩ : ∃ u, u = w.alloc (.cells #[.int .i64 wr, .int .u64 (sq : Int), .int .u64 (tm : Int), .int .u8 5, .string key, .slice A n c, .float .f64 num, .int .i64 (i : Int)] 38) := ⟨_, rfl⟩
  rw [← hu] at hb
  have h1 := h.below hb
  have cx := h1.cJ hi
  have fx := h1.frozen (1 + i)
  have g : u.heap[w.heap.size]? = some (.cells #[.int .i64 wr, .int .u64 (sq : Int), .int .u64 (tm : Int), .int .u8 5, .string key, .slice A n c, .float .f64 num, .int .i64 (i : Int)] 38 (0, 0)) := by rw [hu]; exact heap_alloc_new w _
  obtain ⟨e0, e1, e2, e3, e4, e5, e6, e7⟩ := box8 g
  have RES : Hid (Makes S d mb w { F with J := F.J.set i true } (u.drew.setCell ⟨d, 1 + i, none⟩ (.bool true))) := Lib.hid ⟨h1.turnRow ((Beside.refl [d] _).setCell (by simp) _) (by rw [heapSame h1.row, row_J h.ok mb hi]) rfl (ok_J h.ok i),
    (Beside.of_below hb [d, mb]).trans ((Beside.refl [d] _).setCell (by simp) _) fun x hx => .inl (by simp at hx; simp [hx])⟩
  have HU := Lib.hid hu
  clear h h1 hu g hb hi
  generalize F.J.getD i false = v at cx
  go_enter Tryz.func16, Tryz.ntmps16
  go_wp2
  rw [← HU.out]
  go_still_tail 6, (by kernel_rfl)
  change wpList _ _ _ _ _ u.drew
  go_wp2
  go_end0
  exact ⟨rfl, RES.out⟩
set_option maxRecDepth 100000 in
set_option maxHeartbeats 1000000 in
theorem change_retire (w : World) (h : FoldAt w S d mb F) (hn : 0 ≤ wr ∧ wr ≤ 63) :
    Calls Tryz.prog 16 #[.pointer (some ⟨d, 0, none⟩), .agg #[.int .i64 wr, .int .u64 (sq : Int), .int .u64 (tm : Int), .int .u8 6, .string key, .slice A n c, .float .f64 num, .int .i64 node]] w
      fun e w' => e = .returned (.tuple #[]) ∧ Makes S d mb w { F with R := F.R.set wr.toNat true } w' := by
  obtain ⟨i, rfl⟩ := Int.eq_ofNat_of_zero_le hn.1
  have hi : i < 64 := by omega
  have hi2 : (i : Int) < 64 := by omega
  rw [Int.toNat_natCast]
  have hb : Below w.heap.size w (w.alloc (.cells #[.int .i64 (i : Int), .int .u64 (sq : Int), .int .u64 (tm : Int), .int .u8 6, .string key, .slice A n c, .float .f64 num, .int .i64 node] 38)).drew := ((Below.refl _ _).alloc (Nat.le_refl _) _).drew
  obtain ⟨u, hu⟩ : ∃ u, u = w.alloc (.cells #[.int .i64 (i : Int), .int .u64 (sq : Int), .int .u64 (tm : Int), .int .u8 6, .string key, .slice A n c, .float .f64 num, .int .i64 node] 38) := ⟨_, rfl⟩
  rw [← hu] at hb
  have h1 := h.below hb
  have cx := h1.cR hi
  have fx := h1.frozen (65 + i)
  have g : u.heap[w.heap.size]? = some (.cells #[.int .i64 (i : Int), .int .u64 (sq : Int), .int .u64 (tm : Int), .int .u8 6, .string key, .slice A n c, .float .f64 num, .int .i64 node] 38 (0, 0)) := by rw [hu]; exact heap_alloc_new w _
  obtain ⟨e0, e1, e2, e3, e4, e5, e6, e7⟩ := box8 g
  have RES : Hid (Makes S d mb w { F with R := F.R.set i true } (u.drew.setCell ⟨d, 65 + i, none⟩ (.bool true))) := Lib.hid ⟨h1.turnRow ((Beside.refl [d] _).setCell (by simp) _) (by rw [heapSame h1.row, row_R h.ok mb hi]) rfl (ok_R h.ok i),
    (Beside.of_below hb [d, mb]).trans ((Beside.refl [d] _).setCell (by simp) _) fun x hx => .inl (by simp at hx; simp [hx])⟩
  have HU := Lib.hid hu
  clear h h1 hu g hb hi
  generalize F.R.getD i false = v at cx
  go_enter Tryz.func16, Tryz.ntmps16
  go_wp2
  rw [← HU.out]
  go_still_tail 6, (by kernel_rfl)
  change wpList _ _ _ _ _ u.drew
  go_wp2
  go_end0
  exact ⟨rfl, RES.out⟩
end
end Go.Proofs.YtjceeojbnpcpfaaGreat.Fol
