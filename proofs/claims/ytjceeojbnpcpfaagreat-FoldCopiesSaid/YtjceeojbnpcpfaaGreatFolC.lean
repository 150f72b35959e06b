/- Package fold: Cell, and what an event changes. -/
import Derived.Test.YtjceeojbnpcpfaaGreatFolB
import Derived.StillTailTactics
namespace Go.Proofs.YtjceeojbnpcpfaaGreat.Fol
open Go Go.RowKit Go.Proofs.YtjceeojbnpcpfaaGreat.Words Go.Proofs.YtjceeojbnpcpfaaGreat.Enc Go.Proofs.YtjceeojbnpcpfaaGreat.Q Go.Proofs.YtjceeojbnpcpfaaGreat.Evt
set_option linter.unusedVariables false
set_option linter.unusedSimpArgs false

section
variable {w w' : World} {S : List Nat} {d mb : Nat} {F F' : Fo}
/-- The struct has turned, and nothing else. -/
theorem FoldAt.turnRow (h : FoldAt w S d mb F) (hb : Beside [d] w w') (hr : w'.heap[d]? = some (.cells (Fol.row mb F') 58 (0, 0))) (hL : F'.L = F.L) (ok : Ok F') : FoldAt w' S d mb F' := by
  obtain ⟨L, h1, h2, h3⟩ := h.map
  refine ⟨hr, ⟨L, h1.kept (hb.block mb h.lt.2 (by simpa using Ne.symm h.ne)), h2.trans hL.symm, fun p hp => (h3 p hp).beside hb fun x hx => .inl ?_⟩, ok, h.ne, h.dS, h.mS⟩
  rw [List.mem_singleton.1 hx]; exact h.dS
/-- The map has turned, and nothing else. -/
theorem FoldAt.turnMap (h : FoldAt w S d mb F) (hb : Beside [mb] w w') (hr : Fol.row mb F' = Fol.row mb F) {L : List (Key × MC)} (hm : MapAt w' mb L) (hL : mapV MC.cel L = F'.L) (ht : ∀ p ∈ L, TextAt w' S p.2) (ok : Ok F') : FoldAt w' S d mb F' :=
  ⟨by rw [hr]; exact (hb.block d h.lt.1 (by simpa using h.ne)).trans h.row, ⟨L, hm, hL, ht⟩, ok, h.ne, h.dS, h.mS⟩
end
theorem beside_map {w w' : World} {mb : Nat} (h : w.mapTurned w' mb) : Beside [mb] w w' := (Beside.refl _ _).grown h.grown fun k hk => .inl (by injection hk with hk; simp [hk])

theorem boxes2 (a b : Array Value) (T : TypeId) (w W : World) (hW : Below (w.heap.size + 2) ((w.alloc (.cells a T)).alloc (.cells b T)) W) : Below w.heap.size w W ∧
    W.heap[w.heap.size]? = some (.cells a T (0, 0)) ∧ W.heap[w.heap.size + 1]? = some (.cells b T (0, 0)) ∧ w.heap.size + 2 ≤ W.heap.size := by
  refine ⟨(((Below.refl _ _).alloc (Nat.le_refl _) _).alloc (by simp) _).trans (hW.mono (by omega)), ?_, ?_, by have := hW.size; simpa using this⟩
  · rw [hW.block w.heap.size (by omega)]
    exact (Below.heap_alloc _ _ _ (by simp)).trans (heap_alloc_new w _)
  · rw [hW.block (w.heap.size + 1) (by omega)]
    have := heap_alloc_new (w.alloc (.cells a T)) (.cells b T)
    simpa using this

set_option maxRecDepth 100000 in
set_option maxHeartbeats 1000000 in
/-- Cell: what a key has, in a text of its own. -/
theorem cell_any (k : ByteArray) (S : List Nat) (d mb : Nat) (F : Fo) (w : World) (h : FoldAt w S d mb F) (hk : k.size ≤ 100000) :
    Calls Tryz.prog 12 #[.pointer (some ⟨d, 0, none⟩), .string k] w fun e w' => Below w.heap.size w w' ∧ match lk k.data.toList F.L with
      | some c => ∃ A n cap, e = .returned (.tuple #[.agg #[.int .u8 (c.kind : Int), .slice A n cap, .float .f64 c.num], .bool true]) ∧ Sees w' A n c.text
      | none => e = .returned (.tuple #[zeroC, .bool false]) := by
  have hsf := store_float Tryz.prog
  obtain ⟨L, hm, hL, ht⟩ := h.map
  have hlk : lk k.data.toList F.L = (lk k.data.toList L).map MC.cel := by rw [← hL, mapV_lk]
  have a0 : ∀ o, (w.alloc o).cell? ⟨d, 0, none⟩ = some (.map (some mb)) := fun o => (h.below ((Below.refl _ _).alloc (Nat.le_refl _) o)).c0
  have hrun : ∀ o, (Instr.lookup 53 (.map (some mb)) (.string k) true).run Tryz.prog (w.alloc o) = _ := fun o => (hm.kept (Below.heap_alloc _ _ _ hm.lt)).run_look_ok hk
  rw [hlk]
  cases hc : lk k.data.toList L with
  | none =>
    rw [hc] at hrun
    have hnil := Tryz.bytes_Clone_nil 0 0
    have HNIL := Lib.hid hnil
    simp only [valAt, zeroC, Option.isSome_none] at hrun ⊢
    clear h hm ht hL hlk hnil
    go_enter Tryz.func12, Tryz.ntmps12
    go_wp2_with fail
    refine (HNIL.out _).mono ?_
    rintro e w1 ⟨rfl, rfl⟩
    go_wp2
    refine bodyPost_ret (v := .tuple #[.agg #[.int .u8 0, .slice none 0 0, .float .f64 0], .bool false]) (by simp [results, Tryz.results12, go_sem]) rfl ⟨?_, rfl⟩
    exact ((Below.refl _ _).alloc (Nat.le_refl _) _).alloc (by simp) _
  | some m =>
    rw [hc] at hrun
    have htx := ht _ (lk_some_mem hc)
    have hlen := (h.ok.cel (k.data.toList, m.cel) (by rw [← hL]; exact List.mem_map.2 ⟨_, lk_some_mem hc, rfl⟩)).2.1
    obtain ⟨kd, A, c, tx, nu⟩ := m
    have CL := Lib.hid (fun W (hb : Below w.heap.size w W) => Dsk.clone_bytes A tx.length c tx W (htx.sees.below hb) (by have : tx.length ≤ 1048576 := hlen; omega))
    have BX := Lib.hid (boxes2 #[.int .u8 0, .slice none 0 0, .float .f64 0] #[.int .u8 (kd : Int), .slice A tx.length c, .float .f64 nu] 50 w)
    simp only [valAt, MC.val, MC.cel, Option.isSome_some, Option.map_some] at hrun ⊢
    have N := Lib.hid (rfl : tx.length = tx.length)
    obtain ⟨n, hn⟩ : ∃ n, tx.length = n := ⟨_, rfl⟩
    rw [hn] at hrun CL BX
    have HN := Lib.hid hn
    clear h hm ht hL hlk htx hlen hc N hn
    go_enter Tryz.func12, Tryz.ntmps12
    go_wp2_with fail
    refine (CL.out _ (((Below.refl _ _).alloc (Nat.le_refl _) _).alloc (by simp) _)).mono ?_
    rintro e w1 ⟨A', c', rfl, hown, hb1⟩
    obtain ⟨hb, g0, g1, hz⟩ := BX.out w1 (by simpa using hb1)
    have p0 : w1.cell? ⟨w.heap.size, 0, none⟩ = some (.int .u8 0) := by rw [cell_of_row w1 _ _ _ _ _ g0]; rfl
    have p1 : w1.cell? ⟨w.heap.size, 1, none⟩ = some (.slice none 0 0) := by rw [cell_of_row w1 _ _ _ _ _ g0]; rfl
    have p2 : w1.cell? ⟨w.heap.size, 2, none⟩ = some (.float .f64 0) := by rw [cell_of_row w1 _ _ _ _ _ g0]; rfl
    have q0 : w1.cell? ⟨w.heap.size + 1, 0, none⟩ = some (.int .u8 (kd : Int)) := by rw [cell_of_row w1 _ _ _ _ _ g1]; rfl
    have q1 : w1.cell? ⟨w.heap.size + 1, 1, none⟩ = some (.slice A n c) := by rw [cell_of_row w1 _ _ _ _ _ g1]; rfl
    have q2 : w1.cell? ⟨w.heap.size + 1, 2, none⟩ = some (.float .f64 nu) := by rw [cell_of_row w1 _ _ _ _ _ g1]; rfl
    have y0 : w1.frozen? ⟨w.heap.size, 0, none⟩ = false := frozen_row0 g0
    have y1 : w1.frozen? ⟨w.heap.size, 1, none⟩ = false := frozen_row0 g0
    have y2 : w1.frozen? ⟨w.heap.size, 2, none⟩ = false := frozen_row0 g0
    have y3 : w1.frozen? ⟨w.heap.size + 1, 1, none⟩ = false := frozen_row0 g1
    have OWN := Lib.hid hown
    have HB := Lib.hid hb
    clear hown hb1 hb g0 g1 hrun a0
    go_wp2
    refine bodyPost_ret (v := .tuple #[.agg #[.int .u8 (kd : Int), .slice A' n c', .float .f64 nu], .bool true]) (by simp [results, Tryz.results12, go_sem, p0, p1, p2]) rfl ⟨?_, A', n, c', rfl, ?_⟩
    · exact Below.beside HB.out (((((Beside.refl [w.heap.size, w.heap.size + 1] _).setCell (by simp) _).setCell (by simp) _).setCell (by simp) _).setCell (by simp) _) HB.out.size (by simp)
    · have hs := Sees.of_own OWN.out
      refine hs.beside (((((Beside.refl [w.heap.size, w.heap.size + 1] _).setCell (by simp) _).setCell (by simp) _).setCell (by simp) _).setCell (by simp) _) (Out.of_own OWN.out ?_)
      simp
      omega
end Go.Proofs.YtjceeojbnpcpfaaGreat.Fol
