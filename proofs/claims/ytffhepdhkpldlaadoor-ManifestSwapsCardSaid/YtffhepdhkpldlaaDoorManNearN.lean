/- The laws' own function near. -/
import Derived.Test.YtffhepdhkpldlaaDoorManNear
import Derived.Deep.Cut
namespace Go.Proofs.YtffhepdhkpldlaaDoor.Man
open Go Go.RowKit Go.Proofs.YtffhepdhkpldlaaDoor.Words Go.Proofs.YtffhepdhkpldlaaDoor.Enc Go.Proofs.YtffhepdhkpldlaaDoor.Made Go.Proofs.YtffhepdhkpldlaaDoor.Tape Go.Proofs.YtffhepdhkpldlaaDoor.Vec Go.Proofs.YtffhepdhkpldlaaDoor.Dsk Go.Proofs.YtffhepdhkpldlaaDoor.Facts
set_option linter.unusedVariables false
set_option linter.unusedSimpArgs false

/-- What With hands back. -/
def Pred.withP (B n j y : Nat) (v : List Nat) : Facts.Pred := ⟨fun u w => ∃ (R : Option Addr) (k rc : Nat) (l : List Nat), u = .slice R k rc ∧ w.ownsRow B 22 1 (.slice R k rc) k (us l) ∧ k ≤ n ∧ (∀ i, at_ l i = if i = j then y else at_ v i), fun u w w' ⟨R, k, rc, l, h1, h2, h3⟩ hb => ⟨R, k, rc, l, h1, Own.below h2 hb (Nat.le_refl _), h3⟩⟩
/-- A floor that lies outside of block b. -/
structure VOk (b : Nat) (w : World) (A : Option Addr) (n c : Nat) (v : List Nat) : Prop where
  s : SeesU w A n v
  o : Out [b, b + 1] A n
  f : Fits v
  h : n ≤ c
  m : c ≤ 9223372036854775807
/-- What lies outside of old blocks still does. -/
def OutT (w : World) (A : Option Addr) (n : Nat) (A' : Option Addr) (n' : Nat) : Prop := ∀ S : List Nat, Out S A n → (∀ x ∈ S, x < w.heap.size) → Out S A' n'
theorem wrap_u64 (x : Int) : 0 ≤ IntKind.u64.wrap x ∧ IntKind.u64.wrap x < 18446744073709551616 := by
  have h : IntKind.u64.wrap x = x % 18446744073709551616 := rfl
  rw [h]; omega
set_option maxRecDepth 100000 in
set_option maxHeartbeats 4000000 in
theorem near_yes (m : Mn) (how : Nat) (A : Option Addr) (n c : Nat) (w : World) (hh : 64 ≤ how) (hh2 : how < 256) (hn0 : -9223372036854775808 ≤ m.node) (hn1 : m.node ≤ 9223372036854775807) (hsr : m.serial < 18446744073709551616) (htm : m.time < 18446744073709551616) (tv : Took2 w A n c m.floor) (hn : n ≤ 64) (hf : m.fold.size ≤ 100000) :
    Calls Tryd.prog 7 #[m.val A n c, .int .u8 (how : Int)] w fun e w' => ∃ m' A' n' c', e = .returned (m'.val A' n' c') ∧ Right m' ∧ Took2 w' A' n' c' m'.floor ∧ n' ≤ 64 ∧ Hid (OutT w A n A' n') ∧ Below w.heap.size w w' := by
  obtain ⟨nd, sr, v, tm, fd⟩ := m
  simp only [] at hn0 hn1 hsr htm tv hf
  unfold Mn.val Mn.row
  simp only []
  have hU := wrap_u64 nd
  obtain ⟨U, hUe⟩ : ∃ U, U = IntKind.u64.wrap nd := ⟨_, rfl⟩
  rw [← hUe] at hU
  have hU' : IntKind.u64.wrap nd = U := hUe.symm
  obtain ⟨K, hK⟩ : ∃ K : Nat, U % 64 = (K : Int) := ⟨(U % 64).toNat, by omega⟩
  have hK2 : K < 64 := by omega
  have hwK : IntKind.i64.wrap (K : Int) = (K : Int) := IntWalk.i64_in _ (by omega)
  obtain ⟨s2, hs2⟩ : ∃ s2 : Nat, (sr : Int) % 4611686018427387904 = (s2 : Int) := ⟨sr % 4611686018427387904, by omega⟩
  obtain ⟨t2, ht2⟩ : ∃ t2 : Nat, (tm : Int) % 4611686018427387904 = (t2 : Int) := ⟨tm % 4611686018427387904, by omega⟩
  have hs2' : s2 < 4611686018427387904 := by omega
  have ht2' : t2 < 4611686018427387904 := by omega
  have hd : decide ((64 : Int) ≤ (how : Int)) = true := decide_eq_true (by omega)
  clear hUe
  go_enter Tryd.func7, Tryd.ntmps7
  go_wp2_with fail
  have bel0 : Below w.heap.size w ((w.alloc (.cells #[.int .i64 (K : Int), .int .u64 (s2 : Int), .slice A n c, .int .u64 (t2 : Int), .string fd] 26)).alloc (.cells #[.int .i64 0, .int .u64 0, .slice none 0 0, .int .u64 0, .string ⟨#[]⟩] 26)) := ((Below.refl _ _).alloc (Nat.le_refl _) _).alloc (by simp) _
  have g0 : ((w.alloc (.cells #[.int .i64 (K : Int), .int .u64 (s2 : Int), .slice A n c, .int .u64 (t2 : Int), .string fd] 26)).alloc (.cells #[.int .i64 0, .int .u64 0, .slice none 0 0, .int .u64 0, .string ⟨#[]⟩] 26)).heap[w.heap.size]? = some (.cells #[.int .i64 (K : Int), .int .u64 (s2 : Int), .slice A n c, .int .u64 (t2 : Int), .string fd] 26 (0, 0)) := by
    rw [Below.heap_alloc _ _ _ (by simp)]
    exact heap_alloc_new w _
  have g1 : ((w.alloc (.cells #[.int .i64 (K : Int), .int .u64 (s2 : Int), .slice A n c, .int .u64 (t2 : Int), .string fd] 26)).alloc (.cells #[.int .i64 0, .int .u64 0, .slice none 0 0, .int .u64 0, .string ⟨#[]⟩] 26)).heap[w.heap.size + 1]? = some (.cells #[.int .i64 0, .int .u64 0, .slice none 0 0, .int .u64 0, .string ⟨#[]⟩] 26 (0, 0)) := by
    have := heap_alloc_new (w.alloc (.cells #[.int .i64 (K : Int), .int .u64 (s2 : Int), .slice A n c, .int .u64 (t2 : Int), .string fd] 26)) (.cells #[.int .i64 0, .int .u64 0, .slice none 0 0, .int .u64 0, .string ⟨#[]⟩] 26)
    simpa using this
  have sv0 := tv.1.below bel0
  have out0 : Out [w.heap.size, w.heap.size + 1] A n := out_u tv.1 (fun x hx => by simp at hx; omega)
  have FT := Lib.hid tv.2
  generalize (w.alloc (.cells #[.int .i64 (K : Int), .int .u64 (s2 : Int), .slice A n c, .int .u64 (t2 : Int), .string fd] 26)).alloc (.cells #[.int .i64 0, .int .u64 0, .slice none 0 0, .int .u64 0, .string ⟨#[]⟩] 26) = w0 at bel0 g0 g1 sv0 ⊢
  clear hwK hd hU' hs2 ht2
  generalize U % 64 = x11 at hK ⊢
  clear hK
  generalize (sr : Int) % 4611686018427387904 = x16
  generalize (tm : Int) % 4611686018427387904 = x20
  have VF : VOk w.heap.size w0 A n c v := ⟨sv0, out0, FT.out.1, FT.out.2.1, FT.out.2.2.1⟩
  clear sv0 out0
  go_loopw [5] (fun x wr => ∃ (j : Nat) (A' : Option Addr) (n' c' : Nat) (v' : List Nat), x = .int .i64 (j : Int) ∧ j ≤ 64 ∧ n' ≤ 64 ∧ wr.heap[w.heap.size]? = some (.cells #[.int .i64 (K : Int), .int .u64 (s2 : Int), .slice A' n' c', .int .u64 (t2 : Int), .string fd] 26 (0, 0)) ∧ wr.heap[w.heap.size + 1]? = some (.cells #[.int .i64 0, .int .u64 0, .slice none 0 0, .int .u64 0, .string ⟨#[]⟩] 26 (0, 0)) ∧ VOk w.heap.size wr A' n' c' v' ∧ Hid (∀ i, i < j → at_ v' i < 4611686018427387904) ∧ Hid (OutT w A n A' n') ∧ Below w.heap.size w wr) (fun x _ => 64 - (intOf x).toNat)
  case atStart => exact ⟨0, A, n, c, v, rfl, by omega, hn, g0, g1, VF, Lib.hid (fun i hi => absurd hi (by omega)), Lib.hid (fun S h _ => h), bel0⟩
  case round =>
    obtain ⟨j, A', n', c', v', rfl, hj, hn', g0, g1, VF, HJ, HO, bel⟩ := hrel
    obtain ⟨m0, m1, m2, m3, m4⟩ := box5 g0
    have hgs : w.heap.size + 1 < wr.heap.size := (Array.getElem?_eq_some_iff.1 g1).1
    by_cases hlt : j < n'
    · have d1 : decide ((j : Int) < (n' : Int)) = true := decide_eq_true (by omega)
      have HC : Hid (∀ W, Below wr.drew.heap.size wr.drew W → W.cell? ⟨w.heap.size, 2, none⟩ = some (.slice A' n' c') ∧ SeesU W A' n' v') := Lib.hid fun W hW => by
        have hW' : Below wr.heap.size wr W := (Below.refl _ _).drew.trans hW
        exact ⟨(box5 ((hW'.block w.heap.size (by omega)).trans g0)).2.2.1, VF.s.below hW'⟩
      obtain ⟨y, hye⟩ : ∃ y : Nat, (at_ v' j : Int) % 4611686018427387904 = (y : Int) := ⟨at_ v' j % 4611686018427387904, by omega⟩
      have hy := hye
      have hyt : (at_ v' j : Int).tmod 4611686018427387904 = (y : Int) := by rw [Int.tmod_eq_emod_of_nonneg (by omega)]; exact hye
      have hy2 : y < 4611686018427387904 := by omega
      have HY := Lib.hid hy2
      have G0 := Lib.hid g0
      have G1 := Lib.hid g1
      have VV := Lib.hid VF
      have BL := Lib.hid bel
      clear hy2 hye g0 g1 VF bel
      go_wp2_with fail
      refine Facts.wp_region_tail 10 (n := 45) (by kernel_rfl) (by kernel_rfl) (by kernel_rfl) rfl [Facts.Pred.is (Value.pointer (some ⟨w.heap.size, 2, none⟩)), Facts.Pred.is (Value.slice A' n' c'), Facts.Pred.is (Value.int .i64 (j : Int)), Facts.Pred.is (Value.pointer (some ⟨w.heap.size, 2, none⟩)), Facts.Pred.is (Value.slice A' n' c'), Facts.Pred.is (Value.int .i64 (j : Int)), Facts.Pred.is (Value.int .u64 (at_ v' j : Int)), Facts.Pred.is (Value.int .u64 (y : Int)), Pred.withP wr.heap.size n' j y v', Facts.Pred.is (Value.pointer (some ⟨w.heap.size, 2, none⟩))] ?_ ?_
      · refine ⟨?_, ?_, ?_, ?_, ?_, ?_, ?_, ?_, ?_, ?_, trivial⟩
        · refine Facts.step_is (Value.pointer (some ⟨w.heap.size, 2, none⟩)) fun a W hR hold hnew => ?_
          have f2 : a.tmps.getD 2 undef = Value.pointer (some ⟨w.heap.size, 0, none⟩) := hold 2 (by kernel_rfl)
          refine ⟨Facts.wanted_free rfl, ?_, fun _ => rfl⟩
          simp [go_sem, Act.eval, f2]
        · refine Facts.step_is (Value.slice A' n' c') fun a W hR hold hnew => ?_
          have f29 : a.tmps.getD 29 undef = Value.pointer (some ⟨w.heap.size, 2, none⟩) := hnew 0 29 (by kernel_rfl)
          have q2 := (HC.out W hR).1
          refine ⟨Facts.wanted_free rfl, ?_, fun _ => rfl⟩
          simp [go_sem, Act.eval, f29, q2]
        · refine Facts.step_is (Value.int .i64 (j : Int)) fun a W hR hold hnew => ?_
          have f5 : a.tmps.getD 5 undef = Value.int .i64 (j : Int) := hold 5 (by kernel_rfl)
          refine ⟨Facts.wanted_free rfl, ?_, fun _ => rfl⟩
          simp [go_sem, Act.eval, f5]
        · refine Facts.step_is (Value.pointer (some ⟨w.heap.size, 2, none⟩)) fun a W hR hold hnew => ?_
          have f2 : a.tmps.getD 2 undef = Value.pointer (some ⟨w.heap.size, 0, none⟩) := hold 2 (by kernel_rfl)
          refine ⟨Facts.wanted_free rfl, ?_, fun _ => rfl⟩
          simp [go_sem, Act.eval, f2]
        · refine Facts.step_is (Value.slice A' n' c') fun a W hR hold hnew => ?_
          have f32 : a.tmps.getD 32 undef = Value.pointer (some ⟨w.heap.size, 2, none⟩) := hnew 3 32 (by kernel_rfl)
          have q2 := (HC.out W hR).1
          refine ⟨Facts.wanted_free rfl, ?_, fun _ => rfl⟩
          simp [go_sem, Act.eval, f32, q2]
        · refine Facts.step_is (Value.int .i64 (j : Int)) fun a W hR hold hnew => ?_
          have f5 : a.tmps.getD 5 undef = Value.int .i64 (j : Int) := hold 5 (by kernel_rfl)
          refine ⟨Facts.wanted_free rfl, ?_, fun _ => rfl⟩
          simp [go_sem, Act.eval, f5]
        · -- 6: Op.call { value (Operand.func 25), args := #[t33, t34], argT
          refine Facts.step_call fun a W hR hold hnew => ?_
          have f33 : a.tmps.getD 33 undef = Value.slice A' n' c' := hnew 4 33 (by kernel_rfl); have f34 : a.tmps.getD 34 undef = Value.int .i64 (j : Int) := hnew 5 34 (by kernel_rfl)
          refine ⟨Facts.wanted_free rfl, 25, #[Value.slice A' n' c', Value.int .i64 (j : Int)], by simp [go_sem, Act.eval, f33, f34], ?_⟩
          refine (Vec.get_at A' n' c' v' j W (HC.out W hR).2).mono ?_
          rintro e' w7 ⟨rfl, hw7⟩
          subst hw7
          exact ⟨_, rfl, Below.refl _ _, rfl⟩
        · refine Facts.step_is (Value.int .u64 (y : Int)) fun a W hR hold hnew => ?_
          have f35 : a.tmps.getD 35 undef = Value.int .u64 (at_ v' j : Int) := hnew 6 35 (by kernel_rfl)
          refine ⟨Facts.wanted_free rfl, ?_, fun _ => rfl⟩
          simp [go_sem, Act.eval, f35, hyt]
        · -- 8: Op.call { value (Operand.func 24), args := #[t30, t31, t36],
          refine Facts.step_call fun a W hR hold hnew => ?_
          have f30 : a.tmps.getD 30 undef = Value.slice A' n' c' := hnew 1 30 (by kernel_rfl); have f31 : a.tmps.getD 31 undef = Value.int .i64 (j : Int) := hnew 2 31 (by kernel_rfl); have f36 : a.tmps.getD 36 undef = Value.int .u64 (y : Int) := hnew 7 36 (by kernel_rfl)
          refine ⟨Facts.wanted_free rfl, 24, #[Value.slice A' n' c', Value.int .i64 (j : Int), Value.int .u64 (y : Int)], by simp [go_sem, Act.eval, f30, f31, f36], ?_⟩
          refine (with_own A' n' c' v' j y W (HC.out W hR).2 (by omega) (by omega)).mono ?_
          rintro e' w7 ⟨R, k, rc, l, rfl, h2, h3, h4, h5, h6⟩
          exact ⟨_, rfl, h6, R, k, rc, l, rfl, Own.lower h2 hR.size, Nat.le_trans h3 (Nat.max_le.2 ⟨Nat.le_refl _, by omega⟩), h5⟩
        · refine Facts.step_is (Value.pointer (some ⟨w.heap.size, 2, none⟩)) fun a W hR hold hnew => ?_
          have f2 : a.tmps.getD 2 undef = Value.pointer (some ⟨w.heap.size, 0, none⟩) := hold 2 (by kernel_rfl)
          refine ⟨Facts.wanted_free rfl, ?_, fun _ => rfl⟩
          simp [go_sem, Act.eval, f2]
      · intro a w3 hR' hsize hdef hnew hold
        have h37 : ∃ (R : Option Addr) (k rc : Nat) (l : List Nat), a.tmps.getD 37 undef = .slice R k rc ∧ w3.ownsRow wr.heap.size 22 1 (.slice R k rc) k (us l) ∧ k ≤ n' ∧ (∀ i, at_ l i = if i = j then y else at_ v' i) := hnew 8 37 (by omega) (by kernel_rfl)
        obtain ⟨R, k, rc, l, v37, own3, hk3, hl3⟩ := h37
        have f0 : a.tmps.getD 0 undef = Value.agg #[.int .i64 nd, .int .u64 (sr : Int), .slice A n c, .int .u64 (tm : Int), .string fd] := hold 0 (fun i hi => Facts.not_dst (by kernel_rfl) i)
        have f1 : a.tmps.getD 1 undef = Value.int .u8 (how : Int) := hold 1 (fun i hi => Facts.not_dst (by kernel_rfl) i)
        have f2 : a.tmps.getD 2 undef = Value.pointer (some ⟨w.heap.size, 0, none⟩) := hold 2 (fun i hi => Facts.not_dst (by kernel_rfl) i)
        have f3 : a.tmps.getD 3 undef = undef := hold 3 (fun i hi => Facts.not_dst (by kernel_rfl) i)
        have f4 : a.tmps.getD 4 undef = Value.pointer (some ⟨w.heap.size + 1, 0, none⟩) := hold 4 (fun i hi => Facts.not_dst (by kernel_rfl) i)
        have f5 : a.tmps.getD 5 undef = Value.int .i64 (j : Int) := hold 5 (fun i hi => Facts.not_dst (by kernel_rfl) i)
        have f6 : a.tmps.getD 6 undef = Value.int .u8 (how : Int) := hold 6 (fun i hi => Facts.not_dst (by kernel_rfl) i)
        have f7 : a.tmps.getD 7 undef = Value.bool true := hold 7 (fun i hi => Facts.not_dst (by kernel_rfl) i)
        have f8 : a.tmps.getD 8 undef = Value.pointer (some ⟨w.heap.size, 0, none⟩) := hold 8 (fun i hi => Facts.not_dst (by kernel_rfl) i)
        have f9 : a.tmps.getD 9 undef = Value.int .i64 nd := hold 9 (fun i hi => Facts.not_dst (by kernel_rfl) i)
        have f10 : a.tmps.getD 10 undef = Value.int .u64 U := hold 10 (fun i hi => Facts.not_dst (by kernel_rfl) i)
        have f11 : a.tmps.getD 11 undef = Value.int .u64 x11 := hold 11 (fun i hi => Facts.not_dst (by kernel_rfl) i)
        have f12 : a.tmps.getD 12 undef = Value.int .i64 (K : Int) := hold 12 (fun i hi => Facts.not_dst (by kernel_rfl) i)
        have f13 : a.tmps.getD 13 undef = Value.pointer (some ⟨w.heap.size, 0, none⟩) := hold 13 (fun i hi => Facts.not_dst (by kernel_rfl) i)
        have f14 : a.tmps.getD 14 undef = Value.pointer (some ⟨w.heap.size, 1, none⟩) := hold 14 (fun i hi => Facts.not_dst (by kernel_rfl) i)
        have f15 : a.tmps.getD 15 undef = Value.int .u64 (sr : Int) := hold 15 (fun i hi => Facts.not_dst (by kernel_rfl) i)
        have f16 : a.tmps.getD 16 undef = Value.int .u64 x16 := hold 16 (fun i hi => Facts.not_dst (by kernel_rfl) i)
        have f17 : a.tmps.getD 17 undef = Value.pointer (some ⟨w.heap.size, 1, none⟩) := hold 17 (fun i hi => Facts.not_dst (by kernel_rfl) i)
        have f18 : a.tmps.getD 18 undef = Value.pointer (some ⟨w.heap.size, 3, none⟩) := hold 18 (fun i hi => Facts.not_dst (by kernel_rfl) i)
        have f19 : a.tmps.getD 19 undef = Value.int .u64 (tm : Int) := hold 19 (fun i hi => Facts.not_dst (by kernel_rfl) i)
        have f20 : a.tmps.getD 20 undef = Value.int .u64 x20 := hold 20 (fun i hi => Facts.not_dst (by kernel_rfl) i)
        have f21 : a.tmps.getD 21 undef = Value.pointer (some ⟨w.heap.size, 3, none⟩) := hold 21 (fun i hi => Facts.not_dst (by kernel_rfl) i)
        have f22 : a.tmps.getD 22 undef = Value.int .i64 (j : Int) := hold 22 (fun i hi => Facts.not_dst (by kernel_rfl) i)
        have f23 : a.tmps.getD 23 undef = Value.pointer (some ⟨w.heap.size, 2, none⟩) := hold 23 (fun i hi => Facts.not_dst (by kernel_rfl) i)
        have f24 : a.tmps.getD 24 undef = Value.slice A' n' c' := hold 24 (fun i hi => Facts.not_dst (by kernel_rfl) i)
        have f25 : a.tmps.getD 25 undef = Value.int .i64 (n' : Int) := hold 25 (fun i hi => Facts.not_dst (by kernel_rfl) i)
        have f26 : a.tmps.getD 26 undef = Value.bool true := hold 26 (fun i hi => Facts.not_dst (by kernel_rfl) i)
        have f37 : a.tmps.getD 37 undef = Value.slice R k rc := v37
        have f38 : a.tmps.getD 38 undef = Value.pointer (some ⟨w.heap.size, 2, none⟩) := hnew 9 38 (by omega) (by kernel_rfl)
        have f39 : a.tmps.getD 39 undef = undef := hold 39 (fun i hi => Facts.not_dst (by kernel_rfl) i)
        have f40 : a.tmps.getD 40 undef = undef := hold 40 (fun i hi => Facts.not_dst (by kernel_rfl) i)
        have f41 : a.tmps.getD 41 undef = undef := hold 41 (fun i hi => Facts.not_dst (by kernel_rfl) i)
        have f42 : a.tmps.getD 42 undef = undef := hold 42 (fun i hi => Facts.not_dst (by kernel_rfl) i)
        have f43 : a.tmps.getD 43 undef = undef := hold 43 (fun i hi => Facts.not_dst (by kernel_rfl) i)
        have f44 : a.tmps.getD 44 undef = undef := hold 44 (fun i hi => Facts.not_dst (by kernel_rfl) i)
        obtain ⟨tm, df⟩ := a
        simp only [] at hdef hsize f0 f1 f2 f3 f4 f5 f6 f7 f8 f9 f10 f11 f12 f13 f14 f15 f16 f17 f18 f19 f20 f21 f22 f23 f24 f25 f26 f37 f38 f39 f40 f41 f42 f43 f44
        have hlit : tm = #[tm.getD 0 undef, tm.getD 1 undef, tm.getD 2 undef, tm.getD 3 undef, tm.getD 4 undef, tm.getD 5 undef, tm.getD 6 undef, tm.getD 7 undef, tm.getD 8 undef, tm.getD 9 undef, tm.getD 10 undef, tm.getD 11 undef, tm.getD 12 undef, tm.getD 13 undef, tm.getD 14 undef, tm.getD 15 undef, tm.getD 16 undef, tm.getD 17 undef, tm.getD 18 undef, tm.getD 19 undef, tm.getD 20 undef, tm.getD 21 undef, tm.getD 22 undef, tm.getD 23 undef, tm.getD 24 undef, tm.getD 25 undef, tm.getD 26 undef, tm.getD 27 undef, tm.getD 28 undef, tm.getD 29 undef, tm.getD 30 undef, tm.getD 31 undef, tm.getD 32 undef, tm.getD 33 undef, tm.getD 34 undef, tm.getD 35 undef, tm.getD 36 undef, tm.getD 37 undef, tm.getD 38 undef, tm.getD 39 undef, tm.getD 40 undef, tm.getD 41 undef, tm.getD 42 undef, tm.getD 43 undef, tm.getD 44 undef] := (Facts.array_lit tm hsize).trans rfl
        rw [f0, f1, f2, f3, f4, f5, f6, f7, f8, f9, f10, f11, f12, f13, f14, f15, f16, f17, f18, f19, f20, f21, f22, f23, f24, f25, f26, f37, f38, f39, f40, f41, f42, f43, f44] at hlit
        clear f0 f1 f2 f3 f4 f5 f6 f7 f8 f9 f10 f11 f12 f13 f14 f15 f16 f17 f18 f19 f20 f21 f22 f23 f24 f25 f26 f37 f38 f39 f40 f41 f42 f43 f44 hsize hnew hold
        generalize tm.getD 27 undef = x27 at hlit
        generalize tm.getD 28 undef = x28 at hlit
        generalize tm.getD 29 undef = x29 at hlit
        generalize tm.getD 30 undef = x30 at hlit
        generalize tm.getD 31 undef = x31 at hlit
        generalize tm.getD 32 undef = x32 at hlit
        generalize tm.getD 33 undef = x33 at hlit
        generalize tm.getD 34 undef = x34 at hlit
        generalize tm.getD 35 undef = x35 at hlit
        generalize tm.getD 36 undef = x36 at hlit
        subst hlit
        subst hdef
        try simp only []
        simp only [List.drop_succ_cons, List.drop_zero]
        have hb6 : Below wr.heap.size wr w3 := (Below.refl _ _).drew.trans hR'
        have G0' := (hb6.block w.heap.size (by omega)).trans G0.out
        have G1' := (hb6.block (w.heap.size + 1) hgs).trans G1.out
        have f2 := frozen_row0 (i := 2) G0'
        have c2 := (box5 G0').2.2.1
        have hbe : Beside [w.heap.size] w3 (w3.setCell ⟨w.heap.size, 2, none⟩ (.slice R k rc)) := (Beside.refl _ _).setCell (by simp) _
        have NG0 := Lib.hid (show (w3.setCell ⟨w.heap.size, 2, none⟩ (.slice R k rc)).heap[w.heap.size]? = some (.cells #[.int .i64 (K : Int), .int .u64 (s2 : Int), .slice R k rc, .int .u64 (t2 : Int), .string fd] 26 (0, 0)) from (heapSame G0').trans rfl)
        have NG1 := Lib.hid ((hbe.block (w.heap.size + 1) (Array.getElem?_eq_some_iff.1 G1').1 (by simp)).trans G1')
        have hcap := Own.cap own3
        have NV : Hid (VOk w.heap.size (w3.setCell ⟨w.heap.size, 2, none⟩ (.slice R k rc)) R k rc l) := Lib.hid ⟨SeesU.of_own (Own.beside own3 hbe (fun x hx => by simp at hx; omega)), out_own own3 (fun x hx => by simp at hx; omega), fun i => by rw [hl3]; split <;> first | omega | exact VV.out.f i, hcap.1, hcap.2⟩
        have NJ : Hid (∀ i, i < j + 1 → at_ l i < 4611686018427387904) := Lib.hid fun i hi => by
          rw [hl3]
          have := HY.out
          split
          · omega
          · exact HJ.out i (by omega)
        have NO : Hid (OutT w A n R k) := Lib.hid fun S _ hS => out_own own3 (fun z hz => by have := hS z hz; omega)
        have NB := Lib.hid (Below.beside (BL.out.trans (hb6.mono BL.out.size)) hbe (BL.out.trans (hb6.mono BL.out.size)).size (by simp))
        clear G0' G1' hbe own3 hl3 hR' hb6 hcap HC VV BL HJ HY hy hyt
        go_wp2_with fail
        go_roundw
        case rel => exact ⟨j + 1, R, k, rc, l, rfl, by omega, by omega, NG0.out, NG1.out, NV.out, NJ.out, NO.out, NB.out⟩
        case measure => simp [intOf]; omega
    · have VV := Lib.hid VF
      have BL := Lib.hid bel
      have G0 := Lib.hid g0
      have hge : n' ≤ j := by omega
      have hlow : Hid (∀ i, at_ v' i ≤ 9223372036854775807) := Lib.hid fun i => by
        by_cases hi : i < n'
        · have := HJ.out i (by omega); omega
        · rw [at_ge (by rw [VF.s.1]; omega)]; exact Nat.zero_le _
      have NM := Lib.hid (named_full fd wr (by omega))
      clear VF bel g0 HJ
      go_wp2_with fail
      refine NM.out.mono ?_
      rintro e w2 ⟨rfl, hb2⟩
      have B2 := Lib.hid (BL.out.trans (hb2.mono BL.out.size))
      have G0' := (hb2.block w.heap.size (Array.getElem?_eq_some_iff.1 G0.out).1).trans G0.out
      have G1' := (hb2.block (w.heap.size + 1) hgs).trans g1
      have S2 := Lib.hid (VV.out.s.below hb2)
      obtain ⟨m0, m1, m2, m3, m4⟩ := box5 G0'
      have f4 := frozen_row0 (i := 4) G0'
      clear hb2 g1 G0
      obtain ⟨b, hb⟩ : ∃ b, b = okName fd.data.toList := ⟨_, rfl⟩
      rw [← hb]
      have HB := Lib.hid hb
      clear hb
      cases b
      case true =>
        have RT : Hid (Right ⟨(K : Int), s2, v', t2, fd⟩) := Lib.hid ⟨by simp, by simp; omega, by simp only []; omega, ⟨by simp only []; rw [VV.out.s.1]; exact hn', hlow.out⟩, by simp only []; omega, by simp only [foldB, ← HB.out, Bool.or_true]⟩
        go_wp2_with (first
          | (refine wpList_getRow rfl 26 (.tmp 2) rfl w.heap.size 26 #[.int .i64 (K : Int), .int .u64 (s2 : Int), .slice A' n' c', .int .u64 (t2 : Int), .string fd] (0, 0) _ rfl G0' Tryd.underlying26 rfl (by kernel_rfl) ?_)
          | (refine wpList_putRow rfl 26 (.tmp 4) (.tmp 44) rfl (w.heap.size + 1) 26 #[.int .i64 0, .int .u64 0, .slice none 0 0, .int .u64 0, .string ⟨#[]⟩] #[.int .i64 (K : Int), .int .u64 (s2 : Int), .slice A' n' c', .int .u64 (t2 : Int), .string fd] rfl rfl G1' (by kernel_rfl) rfl (by simp [Value.oneCell']) ?_))
        intro W' hW' hbe
        have BEL := Lib.hid (Below.beside B2.out hbe B2.out.size (by simp))
        have SF := Lib.hid (S2.out.beside hbe (Out.less VV.out.o (fun x hx => by simp at hx; simp [hx])))
        obtain ⟨c0, c1, c2, c3, c4⟩ := box5 hW'
        clear hbe hW'
        go_wp2
        refine bodyPost_ret (v := .agg #[.int .i64 (K : Int), .int .u64 (s2 : Int), .slice A' n' c', .int .u64 (t2 : Int), .string fd]) (by simp [results, Tryd.results7, go_sem, c0, c1, c2, c3, c4]) rfl ?_
        exact ⟨⟨(K : Int), s2, v', t2, fd⟩, A', n', c', rfl, RT.out, ⟨SF.out, VV.out.f, VV.out.h, VV.out.m, by omega⟩, hn', HO, BEL.out⟩
      case false =>
        have RT : Hid (Right ⟨(K : Int), s2, v', t2, ⟨#[]⟩⟩) := Lib.hid ⟨by simp, by simp; omega, by simp only []; omega, ⟨by simp only []; rw [VV.out.s.1]; exact hn', hlow.out⟩, by simp only []; omega, rfl⟩
        have hbf : Beside [w.heap.size] w2 (w2.setCell ⟨w.heap.size, 4, none⟩ (.string ⟨#[]⟩)) := (Beside.refl _ _).setCell (by simp) _
        have G0f : (w2.setCell ⟨w.heap.size, 4, none⟩ (.string ⟨#[]⟩)).heap[w.heap.size]? = some (.cells #[.int .i64 (K : Int), .int .u64 (s2 : Int), .slice A' n' c', .int .u64 (t2 : Int), .string ⟨#[]⟩] 26 (0, 0)) := (heapSame G0').trans rfl
        have G1f := (hbf.block (w.heap.size + 1) (Array.getElem?_eq_some_iff.1 G1').1 (by simp)).trans G1'
        have B2 := Lib.hid (Below.beside B2.out hbf B2.out.size (by simp))
        have S2 := Lib.hid (S2.out.beside hbf (Out.less VV.out.o (fun x hx => by simp at hx; simp [hx])))
        clear hbf
        go_wp2_with (first
          | (refine wpList_getRow rfl 26 (.tmp 2) rfl w.heap.size 26 #[.int .i64 (K : Int), .int .u64 (s2 : Int), .slice A' n' c', .int .u64 (t2 : Int), .string ⟨#[]⟩] (0, 0) _ rfl G0f Tryd.underlying26 rfl (by kernel_rfl) ?_)
          | (refine wpList_putRow rfl 26 (.tmp 4) (.tmp 44) rfl (w.heap.size + 1) 26 #[.int .i64 0, .int .u64 0, .slice none 0 0, .int .u64 0, .string ⟨#[]⟩] #[.int .i64 (K : Int), .int .u64 (s2 : Int), .slice A' n' c', .int .u64 (t2 : Int), .string ⟨#[]⟩] rfl rfl G1f (by kernel_rfl) rfl (by simp [Value.oneCell']) ?_))
        intro W' hW' hbe
        have BEL := Lib.hid (Below.beside B2.out hbe B2.out.size (by simp))
        have SF := Lib.hid (S2.out.beside hbe (Out.less VV.out.o (fun x hx => by simp at hx; simp [hx])))
        obtain ⟨c0, c1, c2, c3, c4⟩ := box5 hW'
        clear hbe hW'
        go_wp2
        refine bodyPost_ret (v := .agg #[.int .i64 (K : Int), .int .u64 (s2 : Int), .slice A' n' c', .int .u64 (t2 : Int), .string ⟨#[]⟩]) (by simp [results, Tryd.results7, go_sem, c0, c1, c2, c3, c4]) rfl ?_
        exact ⟨⟨(K : Int), s2, v', t2, ⟨#[]⟩⟩, A', n', c', rfl, RT.out, ⟨SF.out, VV.out.f, VV.out.h, VV.out.m, by omega⟩, hn', HO, BEL.out⟩

/-- Of a small how nothing changes. -/
theorem near_no (m : Mn) (how : Nat) (A : Option Addr) (n c : Nat) (w : World) (hh : how < 64) (tv : Took2 w A n c m.floor) :
    Calls Tryd.prog 7 #[m.val A n c, .int .u8 (how : Int)] w fun e w' => e = .returned (m.val A n c) ∧ Took2 w' A n c m.floor ∧ Below w.heap.size w w' := by
  obtain ⟨nd, sr, v, tm, fd⟩ := m
  simp only [] at tv
  unfold Mn.val Mn.row
  simp only []
  have hd : decide ((64 : Int) ≤ (how : Int)) = false := decide_eq_false (by omega)
  have bel0 : Below w.heap.size w ((w.alloc (.cells #[.int .i64 nd, .int .u64 (sr : Int), .slice A n c, .int .u64 (tm : Int), .string fd] 26)).alloc (.cells #[.int .i64 0, .int .u64 0, .slice none 0 0, .int .u64 0, .string ⟨#[]⟩] 26)) := ((Below.refl _ _).alloc (Nat.le_refl _) _).alloc (by simp) _
  have g0 : ((w.alloc (.cells #[.int .i64 nd, .int .u64 (sr : Int), .slice A n c, .int .u64 (tm : Int), .string fd] 26)).alloc (.cells #[.int .i64 0, .int .u64 0, .slice none 0 0, .int .u64 0, .string ⟨#[]⟩] 26)).heap[w.heap.size]? = some (.cells #[.int .i64 nd, .int .u64 (sr : Int), .slice A n c, .int .u64 (tm : Int), .string fd] 26 (0, 0)) := by
    rw [Below.heap_alloc _ _ _ (by simp)]
    exact heap_alloc_new w _
  have g1 : ((w.alloc (.cells #[.int .i64 nd, .int .u64 (sr : Int), .slice A n c, .int .u64 (tm : Int), .string fd] 26)).alloc (.cells #[.int .i64 0, .int .u64 0, .slice none 0 0, .int .u64 0, .string ⟨#[]⟩] 26)).heap[w.heap.size + 1]? = some (.cells #[.int .i64 0, .int .u64 0, .slice none 0 0, .int .u64 0, .string ⟨#[]⟩] 26 (0, 0)) := by
    have := heap_alloc_new (w.alloc (.cells #[.int .i64 nd, .int .u64 (sr : Int), .slice A n c, .int .u64 (tm : Int), .string fd] 26)) (.cells #[.int .i64 0, .int .u64 0, .slice none 0 0, .int .u64 0, .string ⟨#[]⟩] 26)
    simpa using this
  have TV := Lib.hid tv
  clear tv
  go_enter Tryd.func7, Tryd.ntmps7
  go_upto_region 11 with fail
  generalize (w.alloc (.cells #[.int .i64 nd, .int .u64 (sr : Int), .slice A n c, .int .u64 (tm : Int), .string fd] 26)).alloc (.cells #[.int .i64 0, .int .u64 0, .slice none 0 0, .int .u64 0, .string ⟨#[]⟩] 26) = w2 at bel0 g0 g1 ⊢
  go_wp2_with (first
    | (refine wpList_getRow rfl 26 (.tmp 2) rfl w.heap.size 26 #[.int .i64 nd, .int .u64 (sr : Int), .slice A n c, .int .u64 (tm : Int), .string fd] (0, 0) _ rfl g0 Tryd.underlying26 rfl (by kernel_rfl) ?_)
    | (refine wpList_putRow rfl 26 (.tmp 4) (.tmp 44) rfl (w.heap.size + 1) 26 #[.int .i64 0, .int .u64 0, .slice none 0 0, .int .u64 0, .string ⟨#[]⟩] #[.int .i64 nd, .int .u64 (sr : Int), .slice A n c, .int .u64 (tm : Int), .string fd] rfl rfl g1 (by kernel_rfl) rfl (by simp [Value.oneCell']) ?_))
  intro W' hW' hbe
  have BEL := Lib.hid (Below.beside bel0 hbe bel0.size (by simp))
  obtain ⟨c0, c1, c2, c3, c4⟩ := box5 hW'
  clear hbe hW' g0 g1
  go_wp2
  refine bodyPost_ret (v := .agg #[.int .i64 nd, .int .u64 (sr : Int), .slice A n c, .int .u64 (tm : Int), .string fd]) (by simp [results, Tryd.results7, go_sem, c0, c1, c2, c3, c4]) rfl ?_
  exact ⟨rfl, TV.out.below BEL.out, BEL.out⟩
end Go.Proofs.YtffhepdhkpldlaaDoor.Man
