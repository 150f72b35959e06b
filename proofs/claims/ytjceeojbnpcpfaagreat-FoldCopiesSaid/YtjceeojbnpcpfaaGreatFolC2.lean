/- Package fold: the sum of an Add. -/
import Derived.Test.YtjceeojbnpcpfaaGreatFolC
import Derived.Deep.RegionWith
namespace Go.Proofs.YtjceeojbnpcpfaaGreat.Fol
open Go Go.RowKit Go.Proofs.YtjceeojbnpcpfaaGreat.Words Go.Proofs.YtjceeojbnpcpfaaGreat.Enc Go.Proofs.YtjceeojbnpcpfaaGreat.Q Go.Proofs.YtjceeojbnpcpfaaGreat.Evt Go.Proofs.YtjceeojbnpcpfaaGreat.Facts
set_option linter.unusedVariables false
set_option linter.unusedSimpArgs false

/-- A new box. -/
def PBox (B : Nat) (C : Array Value) (T : TypeId) : Facts.Pred := ⟨fun v W => ∃ g, v = .pointer (some ⟨g, 0, none⟩) ∧ B ≤ g ∧ W.heap[g]? = some (.cells C T (0, 0)), fun v w w' ⟨g, h1, h2, h3⟩ hb => ⟨g, h1, h2, (hb.block g (Array.getElem?_eq_some_iff.1 h3).1).trans h3⟩⟩
/-- What an Add gives a key, of a quantity that is plain. -/
def sumP (F : Fo) (k : Key) (x : Nat) : Nat := match lk k F.L with
  | some c => if c.kind = 2 then ob (FloatKind.f64.format.add c.num x) else x
  | none => x
set_option maxRecDepth 100000 in
set_option maxHeartbeats 1000000 in
theorem sumF_any (e : Ev) (A : Option Addr) (n c : Nat) (S : List Nat) (d mb : Nat) (F : Fo) (w : World) (h : FoldAt w S d mb F) (hk : e.key.size ≤ 100000) :
    Calls Tryz.prog 48 #[.pointer (some ⟨d, 0, none⟩), e.val A n c] w fun e' w' => e' = .returned (.float .f64 (sumP F e.key.data.toList e.num)) ∧ Below w.heap.size w w' := by
  have hsf := store_float Tryz.prog
  obtain ⟨L, hm, hL, ht⟩ := h.map
  obtain ⟨wr, sq, tm, kd, key, text, num, node⟩ := e
  show Calls _ _ #[_, .agg #[.int .i64 wr, .int .u64 (sq : Int), .int .u64 (tm : Int), .int .u8 (kd : Int), .string key, .slice A n c, .float .f64 num, .int .i64 node]] _ _
  replace hk : key.size ≤ 100000 := hk
  have BX := Lib.hid (fun (W : World) hW => boxed (W := W) #[.int .i64 wr, .int .u64 (sq : Int), .int .u64 (tm : Int), .int .u8 (kd : Int), .string key, .slice A n c, .float .f64 num, .int .i64 node] w hW)
  obtain ⟨K, B, m, r, x, hV, hsum⟩ : ∃ (K : Nat) (B : Option Addr) (m r x : Nat), valAt (lk key.data.toList L) = .agg #[.int .u8 (K : Int), .slice B m r, .float .f64 x] ∧ sumP F key.data.toList num = if K = 2 then ob (FloatKind.f64.format.add x num) else num := by
    unfold sumP
    rw [← hL, mapV_lk]
    cases lk key.data.toList L with
    | none => exact ⟨0, none, 0, 0, 0, rfl, by simp⟩
    | some m => exact ⟨m.kind, m.A, m.text.length, m.c, m.num, rfl, rfl⟩
  show Calls _ _ _ _ fun e' w' => e' = .returned (.float .f64 (sumP F key.data.toList num)) ∧ _
  rw [hsum]
  obtain ⟨R, hRe⟩ : ∃ R, R = if K = 2 then ob (FloatKind.f64.format.add x num) else num := ⟨_, rfl⟩
  rw [← hRe]
  have HRES := Lib.hid hRe
  clear hRe
  obtain ⟨V, hVe⟩ : ∃ V, V = Value.agg #[.int .u8 (K : Int), .slice B m r, .float .f64 x] := ⟨_, rfl⟩
  have HV := Lib.hid hVe
  rw [← hVe] at hV
  have HC := Lib.hid (fun (W : World) (hW : Below (w.heap.size + 1) (w.alloc (.cells #[.int .i64 wr, .int .u64 (sq : Int), .int .u64 (tm : Int), .int .u8 (kd : Int), .string key, .slice A n c, .float .f64 num, .int .i64 node] 38)) W) => (by
    obtain ⟨b1, g1, h1⟩ := BX.out W hW
    refine ⟨(h.below b1).c0, (box8 g1).2.2.2.2.1, ?_⟩
    rw [(hm.kept (b1.block mb hm.lt)).run_look hk, hV] : W.cell? ⟨d, 0, none⟩ = some (.map (some mb)) ∧ W.cell? ⟨w.heap.size, 4, none⟩ = some (.string key) ∧ (Instr.lookup 53 (.map (some mb)) (.string key) false).run Tryz.prog W = .ok V W))
  clear h hm ht hL hsum hV hVe
  go_enter Tryz.func48, Tryz.ntmps48
  go_wp2_with fail
  have HC : Hid (∀ W, Below ((w.alloc (.cells #[.int .i64 wr, .int .u64 (sq : Int), .int .u64 (tm : Int), .int .u8 (kd : Int), .string key, .slice A n c, .float .f64 num, .int .i64 node] 38)).drew).heap.size ((w.alloc (.cells #[.int .i64 wr, .int .u64 (sq : Int), .int .u64 (tm : Int), .int .u8 (kd : Int), .string key, .slice A n c, .float .f64 num, .int .i64 node] 38)).drew) W → _) := Lib.hid fun W hW => HC.out W ((Below.refl _ _).drew.trans (by simpa using hW))
  refine Facts.wp_region_tail 8 (n := 23) (by kernel_rfl) (by kernel_rfl) (by kernel_rfl) rfl [Facts.Pred.is (Value.pointer (some ⟨d, 0, none⟩)), Facts.Pred.is (Value.pointer (some ⟨d, 0, none⟩)), Facts.Pred.is (Value.pointer (some ⟨d, 0, none⟩)), Facts.Pred.is (Value.map (some mb)), Facts.Pred.is (Value.pointer (some ⟨w.heap.size, 4, none⟩)), Facts.Pred.is (Value.string key), Facts.Pred.is (V), PBox w.heap.size #[.int .u8 0, .slice none 0 0, .float .f64 0] 50] ?_ ?_
  · refine ⟨?_, ?_, ?_, ?_, ?_, ?_, ?_, ?_, trivial⟩
    · refine Facts.step_is (Value.pointer (some ⟨d, 0, none⟩)) fun a W hR hold hnew => ?_
      have f0 : a.tmps.getD 0 undef = Value.pointer (some ⟨d, 0, none⟩) := hold 0 (by kernel_rfl)
      refine ⟨Facts.wanted_free rfl, ?_, fun _ => rfl⟩
      simp [go_sem, Act.eval, f0]
    · refine Facts.step_is (Value.pointer (some ⟨d, 0, none⟩)) fun a W hR hold hnew => ?_
      have f6 : a.tmps.getD 6 undef = Value.pointer (some ⟨d, 0, none⟩) := hnew 0 6 (by kernel_rfl)
      refine ⟨Facts.wanted_free rfl, ?_, fun _ => rfl⟩
      simp [go_sem, Act.eval, f6]
    · refine Facts.step_is (Value.pointer (some ⟨d, 0, none⟩)) fun a W hR hold hnew => ?_
      have f7 : a.tmps.getD 7 undef = Value.pointer (some ⟨d, 0, none⟩) := hnew 1 7 (by kernel_rfl)
      refine ⟨Facts.wanted_free rfl, ?_, fun _ => rfl⟩
      simp [go_sem, Act.eval, f7]
    · refine Facts.step_is (Value.map (some mb)) fun a W hR hold hnew => ?_
      have f8 : a.tmps.getD 8 undef = Value.pointer (some ⟨d, 0, none⟩) := hnew 2 8 (by kernel_rfl)
      obtain ⟨s0, s4, sr⟩ := HC.out W hR
      refine ⟨Facts.wanted_free rfl, ?_, fun _ => rfl⟩
      simp [go_sem, Act.eval, f8, s0]
    · refine Facts.step_is (Value.pointer (some ⟨w.heap.size, 4, none⟩)) fun a W hR hold hnew => ?_
      have f3 : a.tmps.getD 3 undef = Value.pointer (some ⟨w.heap.size, 0, none⟩) := hold 3 (by kernel_rfl)
      refine ⟨Facts.wanted_free rfl, ?_, fun _ => rfl⟩
      simp [go_sem, Act.eval, f3]
    · refine Facts.step_is (Value.string key) fun a W hR hold hnew => ?_
      have f10 : a.tmps.getD 10 undef = Value.pointer (some ⟨w.heap.size, 4, none⟩) := hnew 4 10 (by kernel_rfl)
      obtain ⟨s0, s4, sr⟩ := HC.out W hR
      refine ⟨Facts.wanted_free rfl, ?_, fun _ => rfl⟩
      simp [go_sem, Act.eval, f10, s4]
    · refine Facts.step_is (V) fun a W hR hold hnew => ?_
      have f9 : a.tmps.getD 9 undef = Value.map (some mb) := hnew 3 9 (by kernel_rfl)
      have f11 : a.tmps.getD 11 undef = Value.string key := hnew 5 11 (by kernel_rfl)
      obtain ⟨s0, s4, sr⟩ := HC.out W hR
      refine ⟨Facts.wanted_free rfl, ?_, fun _ => rfl⟩
      simp [go_sem, Act.eval, f9, f11, sr]
    · -- 7: Op.alloc 50
      refine Facts.step_new fun a W hR hold hnew => ?_
      refine ⟨Facts.wanted_free rfl, _, _, by simp [go_sem], (Below.refl _ _).alloc (Nat.le_refl _) _, W.heap.size, rfl, by have := hR.size; simp at this; omega, heap_alloc_new W _⟩
  · intro a w3 hR' hsize hdef hnew hold
    obtain ⟨g, hg5, hgB, hgh⟩ := hnew 7 5 (by omega) (by kernel_rfl)
    have f0 : a.tmps.getD 0 undef = Value.pointer (some ⟨d, 0, none⟩) := hold 0 (fun i _ => not_dst (by kernel_rfl) i)
    have f3 : a.tmps.getD 3 undef = Value.pointer (some ⟨w.heap.size, 0, none⟩) := hold 3 (fun i _ => not_dst (by kernel_rfl) i)
    have f4 : a.tmps.getD 4 undef = Value.float FloatKind.f64 0 := hold 4 (fun i _ => not_dst (by kernel_rfl) i)
    have f5 : a.tmps.getD 5 undef = Value.pointer (some ⟨g, 0, none⟩) := hg5
    have f12 : a.tmps.getD 12 undef = V := hnew 6 12 (by omega) (by kernel_rfl)
    obtain ⟨tm, df⟩ := a
    simp only [] at hdef hsize f0 f3 f4 f5 f12
    have hlit : tm = #[tm.getD 0 undef, tm.getD 1 undef, tm.getD 2 undef, tm.getD 3 undef, tm.getD 4 undef, tm.getD 5 undef, tm.getD 6 undef, tm.getD 7 undef, tm.getD 8 undef, tm.getD 9 undef, tm.getD 10 undef, tm.getD 11 undef, tm.getD 12 undef, tm.getD 13 undef, tm.getD 14 undef, tm.getD 15 undef, tm.getD 16 undef, tm.getD 17 undef, tm.getD 18 undef, tm.getD 19 undef, tm.getD 20 undef, tm.getD 21 undef, tm.getD 22 undef] := (Facts.array_lit tm hsize).trans rfl
    rw [f0, f3, f4, f5, f12] at hlit
    clear f0 f3 f4 f5 f12 hsize hnew hold
    generalize tm.getD 1 undef = x1 at hlit
    generalize tm.getD 2 undef = x2 at hlit
    generalize tm.getD 6 undef = x6 at hlit
    generalize tm.getD 7 undef = x7 at hlit
    generalize tm.getD 8 undef = x8 at hlit
    generalize tm.getD 9 undef = x9 at hlit
    generalize tm.getD 10 undef = x10 at hlit
    generalize tm.getD 11 undef = x11 at hlit
    generalize tm.getD 13 undef = x13 at hlit
    generalize tm.getD 14 undef = x14 at hlit
    generalize tm.getD 15 undef = x15 at hlit
    generalize tm.getD 16 undef = x16 at hlit
    generalize tm.getD 17 undef = x17 at hlit
    generalize tm.getD 18 undef = x18 at hlit
    generalize tm.getD 19 undef = x19 at hlit
    generalize tm.getD 20 undef = x20 at hlit
    generalize tm.getD 21 undef = x21 at hlit
    generalize tm.getD 22 undef = x22 at hlit
    subst hlit
    subst hdef
    try simp only []
    obtain ⟨b3, g3, h3⟩ := BX.out w3 ((Below.refl _ _).drew.trans (by simpa using hR'))
    obtain ⟨_, _, _, _, _, _, e6, _⟩ := box8 g3
    have G := Lib.hid hgh
    have B3 := Lib.hid b3
    have v0 : w3.cell? ⟨g, 0, none⟩ = some (.int .u8 0) := by rw [cell_of_row w3 _ _ _ _ _ hgh]; rfl
    have v1 : w3.cell? ⟨g, 1, none⟩ = some (.slice none 0 0) := by rw [cell_of_row w3 _ _ _ _ _ hgh]; rfl
    have v2 : w3.cell? ⟨g, 2, none⟩ = some (.float .f64 0) := by rw [cell_of_row w3 _ _ _ _ _ hgh]; rfl
    have y0 : w3.frozen? ⟨g, 0, none⟩ = false := frozen_row0 hgh
    have y1 : w3.frozen? ⟨g, 1, none⟩ = false := frozen_row0 hgh
    have y2 : w3.frozen? ⟨g, 2, none⟩ = false := frozen_row0 hgh
    have hne : ¬ w.heap.size = g := fun e => by rw [e] at g3; rw [g3] at hgh; simp at hgh
    rw [HV.out]
    clear hR' hgh b3 g3 h3
    simp only [List.drop_succ_cons, List.drop_zero]
    by_cases h2 : K = 2
    · subst h2
      go_wp2_with fail
      refine (sumq_any x num _).mono ?_
      rintro e w4 ⟨rfl, hb4⟩
      have HB4 := Lib.hid hb4
      clear hb4
      go_wp2
      go_ret
      exact ⟨by rw [HRES.out, if_pos trivial]; rfl, (Below.beside B3.out ((((Beside.refl [g] _).setCell (by simp) _).setCell (by simp) _).setCell (by simp) _) B3.out.size (by simpa using hgB)).trans (HB4.out.mono (by have := B3.out.size; simpa using this))⟩
    · have hd2 : ((K : Int) == 2) = false := by rw [beq_eq_false_iff_ne]; omega
      go_wp2
      go_ret
      exact ⟨by rw [HRES.out, if_neg h2]; rfl, Below.beside B3.out ((((Beside.refl [g] _).setCell (by simp) _).setCell (by simp) _).setCell (by simp) _) B3.out.size (by simpa using hgB)⟩
end Go.Proofs.YtjceeojbnpcpfaaGreat.Fol
