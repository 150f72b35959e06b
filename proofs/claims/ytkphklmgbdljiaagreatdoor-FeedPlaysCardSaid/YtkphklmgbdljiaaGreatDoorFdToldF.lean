/- The law's told, over what its calls give. -/
import Derived.Test.YtkphklmgbdljiaaGreatDoorFdRead
import Derived.Test.YtkphklmgbdljiaaGreatDoorBSameAll
import Derived.Deep.RegionHeld3
import Derived.Deep.CutRange
namespace Go.Proofs.YtkphklmgbdljiaaGreatDoor.Fd
open Go Go.RowKit Go.Proofs.YtkphklmgbdljiaaGreatDoor.Words Go.Proofs.YtkphklmgbdljiaaGreatDoor.Enc Go.Proofs.YtkphklmgbdljiaaGreatDoor.Evt Go.Proofs.YtkphklmgbdljiaaGreatDoor.Made Go.Proofs.YtkphklmgbdljiaaGreatDoor.Dsk Go.Proofs.YtkphklmgbdljiaaGreatDoor.Sht Go.Proofs.YtkphklmgbdljiaaGreatDoor.Seg
set_option linter.unusedVariables false
set_option linter.unusedSimpArgs false

theorem sees_cut {B : List Nat} {w : World} {A : Option Addr} {n : Nat} {R : List Ev} (h : SeesEv B w A n R) {a c : Nat} (ha : a ≤ n) (hn : n ≤ c) : SeesEv B w (if c = a then A else Option.map (fun x => x.add (a * 8)) A) (n - a) (R.drop a) := by
  by_cases hc : c = a
  · have hna : n = a := by omega
    rw [if_pos hc, hna, Nat.sub_self, List.drop_eq_nil_of_le (by rw [h.len]; omega)]
    exact SeesEv.nil _ _ _
  · rw [if_neg hc]
    obtain ⟨S, h1, h2, h3, h4, h5⟩ := h
    refine ⟨S.drop a, by rw [List.map_drop, h1], by rw [List.length_drop, h2], Seg_cut h3 (fun b o _ e => by rw [e]; simp [add_plain]), fun h0 => ?_, fun r hr => h5 r (List.mem_of_mem_drop hr)⟩
    intro a1 e
    cases A with
    | none => cases e
    | some a0 =>
      injection e with e
      subst e
      have := h4 (by omega) a0 rfl
      simp only [Addr.add]
      split <;> exact this
/-- What the answers of a feed are, for the law. -/
structure Tells9 (w : World) (f floor k time : Nat) (L : List Ev) : Prop where
  fl : ∀ W, Below w.heap.size w W → Calls Tryz.prog 16 #[.pointer (some ⟨f, 0, none⟩)] W fun e w' => e = .returned (.int .u64 (floor : Int)) ∧ Below W.heap.size W w'
  nx : ∀ W, Below w.heap.size w W → Calls Tryz.prog 17 #[.pointer (some ⟨f, 0, none⟩)] W fun e w' => e = .returned (.int .u64 ((k + 1 : Nat) : Int)) ∧ Below W.heap.size W w'
  al : ∀ W, Below w.heap.size w W → Calls Tryz.prog 22 #[.pointer (some ⟨f, 0, none⟩)] W fun e w' => ∃ A n c, e = .returned (.slice A n c) ∧ SeesEv [] w' A n (L.drop floor) ∧ n ≤ c ∧ Below W.heap.size W w'
  tm : ∀ W, Below w.heap.size w W → Calls Tryz.prog 21 #[.pointer (some ⟨f, 0, none⟩)] W fun e w' => e = .returned (.int .u64 (time : Int)) ∧ Below W.heap.size W w'
  ge : ∀ (n E : Nat) (W : World), Below w.heap.size w W → (n = 0 ∧ E = 2 ∨ k < n ∧ E = 2 ∨ 0 < n ∧ n ≤ floor ∧ E = 13) → Calls Tryz.prog 18 #[.pointer (some ⟨f, 0, none⟩), .int .u64 (n : Int)] W fun e w' => e = .returned (.tuple #[zeroEv, .int .i64 (E : Int)]) ∧ Below W.heap.size W w'
  re : ∀ (n E : Nat) (W : World), Below w.heap.size w W → (n = 0 ∧ E = 2 ∨ k < n ∧ E = 2 ∨ 0 < n ∧ n ≤ floor ∧ E = 13) → Calls Tryz.prog 19 #[.pointer (some ⟨f, 0, none⟩), .int .u64 (n : Int), .int .i64 3] W fun e w' => e = .returned (.tuple #[.slice none 0 0, .int .i64 (E : Int)]) ∧ Below W.heap.size W w'
  go : ∀ (n : Nat) (ev : Ev) (W : World), Below w.heap.size w W → floor < n → n ≤ k → L[n - 1]? = some ev → Calls Tryz.prog 18 #[.pointer (some ⟨f, 0, none⟩), .int .u64 (n : Int)] W (GetGives [] ev W)
  ro : ∀ (n : Nat) (W : World), Below w.heap.size w W → floor < n → n ≤ k → Calls Tryz.prog 19 #[.pointer (some ⟨f, 0, none⟩), .int .u64 (n : Int), .int .i64 3] W (RangeGives [] ((L.drop (n - 1)).take 3) W)

set_option maxRecDepth 100000 in
set_option maxHeartbeats 4000000 in
theorem told_any (f floor k time tl : Nat) (L : List Ev) (Al : Option Addr) (cl : Nat) (w : World) (T : Tells9 w f floor k time L) (hfl : floor ≤ k) (hk : k ≤ 60) (hs : SeesEv [] w Al k L) (hkc : k ≤ cl) (hr : ∀ e ∈ L, Right e ∧ e.num < 18446744073709551616) (ht : k = floor → tl = time) (hlast : floor < k → ∃ le, L[k - 1]? = some le ∧ le.time = time) :
    Calls Tryz.prog 13 #[.pointer (some ⟨f, 0, none⟩), .slice Al k cl, .int .i64 (floor : Int), .int .u64 (tl : Int)] w fun e w' => e = .returned (.bool true) ∧ Below w.heap.size w w' := by
  have HT := Lib.hid T
  have HS := Lib.hid hs
  have HR := Lib.hid hr
  have HL := Lib.hid hlast
  have HTL := Lib.hid ht
  have F1 : ∀ W, Below w.heap.size w W → Calls Tryz.prog 16 #[.pointer (some ⟨f, 0, none⟩)] W fun e w' => e = .returned (.int .u64 (floor : Int)) ∧ Hid (Below w.heap.size w w') := fun W hW => by
    refine (HT.out.fl W hW).mono ?_
    rintro e w' ⟨rfl, hb⟩
    exact ⟨rfl, Lib.hid (hW.trans (hb.mono hW.size))⟩
  have N1 : ∀ W, Below w.heap.size w W → Calls Tryz.prog 17 #[.pointer (some ⟨f, 0, none⟩)] W fun e w' => e = .returned (.int .u64 ((k + 1 : Nat) : Int)) ∧ Hid (Below w.heap.size w w') := fun W hW => by
    refine (HT.out.nx W hW).mono ?_
    rintro e w' ⟨rfl, hb⟩
    exact ⟨rfl, Lib.hid (hW.trans (hb.mono hW.size))⟩
  have T1 : ∀ W, Below w.heap.size w W → Calls Tryz.prog 21 #[.pointer (some ⟨f, 0, none⟩)] W fun e w' => e = .returned (.int .u64 (time : Int)) ∧ Hid (Below w.heap.size w w') := fun W hW => by
    refine (HT.out.tm W hW).mono ?_
    rintro e w' ⟨rfl, hb⟩
    exact ⟨rfl, Lib.hid (hW.trans (hb.mono hW.size))⟩
  have A1 : ∀ W, Below w.heap.size w W → Calls Tryz.prog 22 #[.pointer (some ⟨f, 0, none⟩)] W fun e w' => ∃ A n c, e = .returned (.slice A n c) ∧ Hid (Below w.heap.size w w') ∧ Hid (∀ (A2 : Option Addr) (n2 c2 : Nat) (W2 : World), n2 = k - floor → A2 = (if cl = floor then Al else Option.map (fun x => x.add (floor * 8)) Al) → Below w'.heap.size w' W2 → Calls Tryz.prog 34 #[.slice A n c, .slice A2 n2 c2] W2 fun e w'' => e = .returned (.bool true) ∧ Hid (Below w.heap.size w w'')) := fun W hW => by
    refine (HT.out.al W hW).mono ?_
    rintro e w' ⟨A, n, c, rfl, hsa, hnc, hb⟩
    have b1 := hW.trans (hb.mono hW.size)
    refine ⟨A, n, c, rfl, Lib.hid b1, Lib.hid fun A2 n2 c2 W2 hn2 hA2 hW2 => ?_⟩
    have hn : n = k - floor := by have h1 := hsa.len; have h2 := HS.out.len; rw [List.length_drop] at h1; omega
    rw [hn] at hsa ⊢
    rw [hn2, hA2]
    have b2 := b1.trans (hW2.mono b1.size)
    refine (sameAll_any [] [] A (if cl = floor then Al else Option.map (fun x => x.add (floor * 8)) Al) (k - floor) c c2 (L.drop floor) W2 (hsa.below hW2) (sees_cut (HS.out.below b2) hfl hkc) (fun e he => HR.out e (List.mem_of_mem_drop he)) (by omega)).mono ?_
    rintro e w'' ⟨rfl, hb3⟩
    exact ⟨rfl, Lib.hid (b2.trans (hb3.mono b2.size))⟩
  have hw1 : IntKind.u64.wrap ((k : Int) + 1) = ((k + 1 : Nat) : Int) := by rw [IntKind.wrap_u64]; omega
  have hw2 : IntKind.u64.wrap (k : Int) = (k : Int) := by rw [IntKind.wrap_u64]; omega
  have hw3 : IntKind.u64.wrap (floor : Int) = (floor : Int) := by rw [IntKind.wrap_u64]; omega
  have hfc : floor ≤ cl := by omega
  clear T hs hr hlast ht
  have hsf := store_float Tryz.prog
  go_enter Tryz.func13, Tryz.ntmps13
  go_upto_region 1 with fail
  go_cut [42] from 16 to 42 (fun s42 w' => s42 = .bool false ∧ Hid (Below w.heap.size w w'))
  case first =>
    by_cases hcf : cl = floor
    case pos =>
      subst hcf
      go_region_held3 (fun _ => True) (trivial)
       (first
        | (go_at_call 16
           refine (F1 _ ?h1).mono ?_
           case h1 => first | exact Below.refl _ _ | exact (Below.refl _ _).drew
           rintro e wa ⟨rfl, HB1⟩)
        | (go_at_call 17
           refine (N1 _ ?h1).mono ?_
           case h1 => first | exact HB1.out | exact HB1.out.drew
           rintro e wb ⟨rfl, HB2⟩)
        | (go_at_call 22
           refine (A1 _ ?h1).mono ?_
           case h1 => first | exact HB2.out | exact HB2.out.drew
           rintro e wc ⟨Aa, na, ca, rfl, HB3, HSA⟩)
        | (go_at_call 34
           refine (HSA.out _ _ _ _ ?hn ?hA ?h1).mono ?_
           case hn => first | rfl | omega | simp
           case hA => first | exact (if_pos rfl).symm | exact (if_pos trivial).symm | simp
           case h1 => first | exact Below.refl _ _ | exact (Below.refl _ _).drew
           rintro e wd ⟨rfl, HB4⟩))
      go_wp2_with fail
      go_meet
      case rel => exact ⟨rfl, HB4⟩
    case neg =>
      go_region_held3 (fun _ => True) (trivial)
       (first
        | (go_at_call 16
           refine (F1 _ ?h1).mono ?_
           case h1 => first | exact Below.refl _ _ | exact (Below.refl _ _).drew
           rintro e wa ⟨rfl, HB1⟩)
        | (go_at_call 17
           refine (N1 _ ?h1).mono ?_
           case h1 => first | exact HB1.out | exact HB1.out.drew
           rintro e wb ⟨rfl, HB2⟩)
        | (go_at_call 22
           refine (A1 _ ?h1).mono ?_
           case h1 => first | exact HB2.out | exact HB2.out.drew
           rintro e wc ⟨Aa, na, ca, rfl, HB3, HSA⟩)
        | (go_at_call 34
           refine (HSA.out _ _ _ _ ?hn ?hA ?h1).mono ?_
           case hn => first | rfl | omega | simp
           case hA => exact (if_neg hcf).symm
           case h1 => first | exact Below.refl _ _ | exact (Below.refl _ _).drew
           rintro e wd ⟨rfl, HB4⟩))
      go_wp2_with fail
      go_meet
      case rel => exact ⟨rfl, HB4⟩
  case rest =>
  obtain ⟨rfl, HB4⟩ := hcut
  go_upto_region 3 with fail
  go_cut [70] from 16 to 146 (fun s70 w' => s70 = .bool false ∧ Hid (Below w.heap.size w w'))
  case first =>
    have HTM := Lib.hid (fun W (hW : Below wc.drew.heap.size wc.drew W) => HT.out.tm W (HB4.out.drew.trans (hW.mono HB4.out.size)))
    by_cases hfk : floor < k
    case pos =>
      obtain ⟨b, o, r0, hAl, hr1, htx, p0, p1, p2, p3, p4, p5, p6, p7⟩ := HS.out.get (j := k - 1) (by omega)
      have hrt : r0.e.time = time := by
        obtain ⟨le, h1, h2⟩ := HL.out hfk
        rw [hr1] at h1
        injection h1 with h1
        rw [h1]; exact h2
      rw [hrt] at p2
      have hbl : b < w.heap.size := World.block_lt_of_cell? _ _ p2
      clear p0 p1 p3 p4 p5 p6 p7 htx hr1 hrt r0
      subst hAl
      have hk1 : IntKind.i64.wrap ((k : Int) - 1) = ((k - 1 : Nat) : Int) := by rw [IntKind.wrap_i64]; omega
      have hk0 : (0 : Int) ≤ ((k - 1 : Nat) : Int) := by omega
      have hk2 : ((k - 1 : Nat) : Int) < (k : Int) := by omega
      have hk3 : k - 1 < k := by omega
      have hd1 : decide ((floor : Int) < (k : Int)) = true := decide_eq_true (by omega)
      have hd2 : ((k : Int) == (floor : Int)) = false := by rw [beq_eq_false_iff_ne]; omega
      have hne : ¬ k = floor := by omega
      rw [Nat.mul_comm 8 (k - 1)] at p2
      generalize k - 1 = k1 at hk1 hk0 hk2 hk3 p2
      have HC := Lib.hid (fun W (hW : Below wc.drew.heap.size wc.drew W) => ((HB4.out.drew.trans (hW.mono HB4.out.size)).cell (p := ⟨b, o + k1 * 8 + 2, none⟩) hbl).trans p2)
      clear p2
      refine Facts.wp_region_preds (n := 147) (by kernel_rfl) (by kernel_rfl) rfl [Facts.Pred.is (Value.slice (some ⟨b, o, none⟩) k cl), Facts.Pred.is (Value.int .i64 (k : Int)), Facts.Pred.is (Value.int .i64 (floor : Int)), Facts.Pred.is (Value.bool true), Facts.Pred.is (Value.bool true), Facts.Pred.is (Value.pointer (some ⟨f, 0, none⟩)), Facts.Pred.is (Value.int .u64 (time : Int)), Facts.Pred.is (Value.slice (some ⟨b, o, none⟩) k cl), Facts.Pred.is (Value.slice (some ⟨b, o, none⟩) k cl), Facts.Pred.is (Value.int .i64 (k : Int)), Facts.Pred.is (Value.int .i64 (k1 : Int)), Facts.Pred.is (Value.pointer (some ⟨b, o + k1 * 8, none⟩)), Facts.Pred.is (Value.pointer (some ⟨b, o + k1 * 8 + 2, none⟩)), Facts.Pred.is (Value.int .u64 (time : Int)), Facts.Pred.is (Value.bool false), Facts.Pred.is (Value.bool false), Facts.Pred.is (Value.bool false), Facts.Pred.is (Value.slice (some ⟨b, o, none⟩) k cl), Facts.Pred.is (Value.int .i64 (k : Int)), Facts.Pred.is (Value.int .i64 (floor : Int)), Facts.Pred.is (Value.bool false), Facts.Pred.is (Value.bool false), Facts.Pred.is undef, Facts.Pred.is undef, Facts.Pred.is undef, Facts.Pred.is undef, Facts.Pred.is (Value.bool false), Facts.Pred.is (Value.bool false)] ?rg ?nx
      case rg =>
        refine ⟨?_, ?_, ?_, ?_, ?_, ?_, ?_, ?_, ?_, ?_, ?_, ?_, ?_, ?_, ?_, ?_, ?_, ?_, ?_, ?_, ?_, ?_, ?_, ?_, ?_, ?_, ?_, ?_, trivial⟩
        · refine Facts.step_is (Value.slice (some ⟨b, o, none⟩) k cl) fun a W hR hold hnew => ?_
          have f1 : a.tmps.getD 1 undef = Value.slice (some ⟨b, o, none⟩) k cl := hold 1 (by kernel_rfl)
          refine ⟨Facts.wanted_free rfl, ?_, fun _ => rfl⟩
          simp [go_sem, Act.eval, f1]
        · refine Facts.step_is (Value.int .i64 (k : Int)) fun a W hR hold hnew => ?_
          have f43 : a.tmps.getD 43 undef = Value.slice (some ⟨b, o, none⟩) k cl := hnew 0 43 (by kernel_rfl)
          refine ⟨Facts.wanted_free rfl, ?_, fun _ => rfl⟩
          simp [go_sem, Act.eval, f43]
        · refine Facts.step_is (Value.int .i64 (floor : Int)) fun a W hR hold hnew => ?_
          have f2 : a.tmps.getD 2 undef = Value.int .i64 (floor : Int) := hold 2 (by kernel_rfl)
          refine ⟨Facts.wanted_free rfl, ?_, fun _ => rfl⟩
          simp [go_sem, Act.eval, f2]
        · refine Facts.step_is (Value.bool true) fun a W hR hold hnew => ?_
          have f44 : a.tmps.getD 44 undef = Value.int .i64 (k : Int) := hnew 1 44 (by kernel_rfl)
          have f45 : a.tmps.getD 45 undef = Value.int .i64 (floor : Int) := hnew 2 45 (by kernel_rfl)
          refine ⟨Facts.wanted_free rfl, ?_, fun _ => rfl⟩
          simp [go_sem, Act.eval, f44, f45, hd1, hfk]
        · refine Facts.step_is (Value.bool true) fun a W hR hold hnew => ?_
          have f46 : a.tmps.getD 46 undef = Value.bool true := hnew 3 46 (by kernel_rfl)
          refine ⟨Facts.wanted_free rfl, ?_, fun _ => rfl⟩
          simp [go_sem, Act.eval, f46]
        · refine Facts.step_is (Value.pointer (some ⟨f, 0, none⟩)) fun a W hR hold hnew => ?_
          have f0 : a.tmps.getD 0 undef = Value.pointer (some ⟨f, 0, none⟩) := hold 0 (by kernel_rfl)
          have g47 : a.tmps.getD 47 undef = .bool true := hnew 4 47 (by kernel_rfl)
          refine ⟨Facts.wanted_by rfl (by kernel_rfl) g47, ?_, fun _ => rfl⟩
          simp [go_sem, Act.eval, f0]
        · -- 6: Op.call { value (Operand.func 21), args := #[t48], argTypes 
          refine Facts.step_call fun a W hR hold hnew => ?_
          have f48 : a.tmps.getD 48 undef = Value.pointer (some ⟨f, 0, none⟩) := hnew 5 48 (by kernel_rfl); have g47 : a.tmps.getD 47 undef = .bool true := hnew 4 47 (by kernel_rfl)
          refine ⟨Facts.wanted_by rfl (by kernel_rfl) g47, 21, #[Value.pointer (some ⟨f, 0, none⟩)], by simp [go_sem, Act.eval, f48], ?_⟩
          refine (HTM.out W hR).mono ?_
          rintro e8 w8 ⟨rfl, hb8⟩
          exact ⟨_, rfl, hb8, rfl⟩
        · refine Facts.step_is (Value.slice (some ⟨b, o, none⟩) k cl) fun a W hR hold hnew => ?_
          have f1 : a.tmps.getD 1 undef = Value.slice (some ⟨b, o, none⟩) k cl := hold 1 (by kernel_rfl)
          have g47 : a.tmps.getD 47 undef = .bool true := hnew 4 47 (by kernel_rfl)
          refine ⟨Facts.wanted_by rfl (by kernel_rfl) g47, ?_, fun _ => rfl⟩
          simp [go_sem, Act.eval, f1]
        · refine Facts.step_is (Value.slice (some ⟨b, o, none⟩) k cl) fun a W hR hold hnew => ?_
          have f1 : a.tmps.getD 1 undef = Value.slice (some ⟨b, o, none⟩) k cl := hold 1 (by kernel_rfl)
          have g47 : a.tmps.getD 47 undef = .bool true := hnew 4 47 (by kernel_rfl)
          refine ⟨Facts.wanted_by rfl (by kernel_rfl) g47, ?_, fun _ => rfl⟩
          simp [go_sem, Act.eval, f1]
        · refine Facts.step_is (Value.int .i64 (k : Int)) fun a W hR hold hnew => ?_
          have f51 : a.tmps.getD 51 undef = Value.slice (some ⟨b, o, none⟩) k cl := hnew 8 51 (by kernel_rfl)
          have g47 : a.tmps.getD 47 undef = .bool true := hnew 4 47 (by kernel_rfl)
          refine ⟨Facts.wanted_by rfl (by kernel_rfl) g47, ?_, fun _ => rfl⟩
          simp [go_sem, Act.eval, f51]
        · refine Facts.step_is (Value.int .i64 (k1 : Int)) fun a W hR hold hnew => ?_
          have f52 : a.tmps.getD 52 undef = Value.int .i64 (k : Int) := hnew 9 52 (by kernel_rfl)
          have g47 : a.tmps.getD 47 undef = .bool true := hnew 4 47 (by kernel_rfl)
          refine ⟨Facts.wanted_by rfl (by kernel_rfl) g47, ?_, fun _ => rfl⟩
          simp [go_sem, Act.eval, f52, hk1]
        · refine Facts.step_is (Value.pointer (some ⟨b, o + k1 * 8, none⟩)) fun a W hR hold hnew => ?_
          have f50 : a.tmps.getD 50 undef = Value.slice (some ⟨b, o, none⟩) k cl := hnew 7 50 (by kernel_rfl)
          have f53 : a.tmps.getD 53 undef = Value.int .i64 (k1 : Int) := hnew 10 53 (by kernel_rfl)
          have g47 : a.tmps.getD 47 undef = .bool true := hnew 4 47 (by kernel_rfl)
          refine ⟨Facts.wanted_by rfl (by kernel_rfl) g47, ?_, fun _ => rfl⟩
          simp [go_sem, Act.eval, f50, f53, hk0, hk2, hk3]
        · refine Facts.step_is (Value.pointer (some ⟨b, o + k1 * 8 + 2, none⟩)) fun a W hR hold hnew => ?_
          have f54 : a.tmps.getD 54 undef = Value.pointer (some ⟨b, o + k1 * 8, none⟩) := hnew 11 54 (by kernel_rfl)
          have g47 : a.tmps.getD 47 undef = .bool true := hnew 4 47 (by kernel_rfl)
          refine ⟨Facts.wanted_by rfl (by kernel_rfl) g47, ?_, fun _ => rfl⟩
          simp [go_sem, Act.eval, f54]
        · refine Facts.step_is (Value.int .u64 (time : Int)) fun a W hR hold hnew => ?_
          have f55 : a.tmps.getD 55 undef = Value.pointer (some ⟨b, o + k1 * 8 + 2, none⟩) := hnew 12 55 (by kernel_rfl)
          have g47 : a.tmps.getD 47 undef = .bool true := hnew 4 47 (by kernel_rfl)
          have q1 := HC.out W hR
          refine ⟨Facts.wanted_by rfl (by kernel_rfl) g47, ?_, fun _ => rfl⟩
          simp [go_sem, Act.eval, f55, q1]
        · refine Facts.step_is (Value.bool false) fun a W hR hold hnew => ?_
          have f49 : a.tmps.getD 49 undef = Value.int .u64 (time : Int) := hnew 6 49 (by kernel_rfl)
          have f56 : a.tmps.getD 56 undef = Value.int .u64 (time : Int) := hnew 13 56 (by kernel_rfl)
          have g47 : a.tmps.getD 47 undef = .bool true := hnew 4 47 (by kernel_rfl)
          refine ⟨Facts.wanted_by rfl (by kernel_rfl) g47, ?_, fun _ => rfl⟩
          simp [go_sem, Act.eval, f49, f56]
        · refine Facts.step_is (Value.bool false) fun a W hR hold hnew => ?_
          have f47 : a.tmps.getD 47 undef = Value.bool true := hnew 4 47 (by kernel_rfl)
          have f57 : a.tmps.getD 57 undef = Value.bool false := hnew 14 57 (by kernel_rfl)
          refine ⟨Facts.wanted_free rfl, ?_, fun _ => rfl⟩
          simp [go_sem, Act.eval, f47, f57]
        · refine Facts.step_is (Value.bool false) fun a W hR hold hnew => ?_
          have f58 : a.tmps.getD 58 undef = Value.bool false := hnew 15 58 (by kernel_rfl)
          refine ⟨Facts.wanted_free rfl, ?_, fun _ => rfl⟩
          simp [go_sem, Act.eval, f58]
        · refine Facts.step_is (Value.slice (some ⟨b, o, none⟩) k cl) fun a W hR hold hnew => ?_
          have f1 : a.tmps.getD 1 undef = Value.slice (some ⟨b, o, none⟩) k cl := hold 1 (by kernel_rfl)
          have g59 : a.tmps.getD 59 undef = .bool false := hnew 16 59 (by kernel_rfl)
          refine ⟨Facts.wanted_by rfl (by kernel_rfl) g59, ?_, fun _ => rfl⟩
          simp [go_sem, Act.eval, f1]
        · refine Facts.step_is (Value.int .i64 (k : Int)) fun a W hR hold hnew => ?_
          have f60 : a.tmps.getD 60 undef = Value.slice (some ⟨b, o, none⟩) k cl := hnew 17 60 (by kernel_rfl)
          have g59 : a.tmps.getD 59 undef = .bool false := hnew 16 59 (by kernel_rfl)
          refine ⟨Facts.wanted_by rfl (by kernel_rfl) g59, ?_, fun _ => rfl⟩
          simp [go_sem, Act.eval, f60]
        · refine Facts.step_is (Value.int .i64 (floor : Int)) fun a W hR hold hnew => ?_
          have f2 : a.tmps.getD 2 undef = Value.int .i64 (floor : Int) := hold 2 (by kernel_rfl)
          have g59 : a.tmps.getD 59 undef = .bool false := hnew 16 59 (by kernel_rfl)
          refine ⟨Facts.wanted_by rfl (by kernel_rfl) g59, ?_, fun _ => rfl⟩
          simp [go_sem, Act.eval, f2]
        · refine Facts.step_is (Value.bool false) fun a W hR hold hnew => ?_
          have f61 : a.tmps.getD 61 undef = Value.int .i64 (k : Int) := hnew 18 61 (by kernel_rfl)
          have f62 : a.tmps.getD 62 undef = Value.int .i64 (floor : Int) := hnew 19 62 (by kernel_rfl)
          have g59 : a.tmps.getD 59 undef = .bool false := hnew 16 59 (by kernel_rfl)
          refine ⟨Facts.wanted_by rfl (by kernel_rfl) g59, ?_, fun _ => rfl⟩
          simp [go_sem, Act.eval, f61, f62, hd2, hne]
        · refine Facts.step_is (Value.bool false) fun a W hR hold hnew => ?_
          have f63 : a.tmps.getD 63 undef = Value.bool false := hnew 20 63 (by kernel_rfl)
          have g59 : a.tmps.getD 59 undef = .bool false := hnew 16 59 (by kernel_rfl)
          refine ⟨Facts.wanted_by rfl (by kernel_rfl) g59, ?_, fun _ => rfl⟩
          simp [go_sem, Act.eval, f63]
        · -- 22: Op.move t0
          refine Sht.step_skip (fun a W hnew => ?_) (fun _ => rfl)
          have g64 : a.tmps.getD 64 undef = .bool false := hnew 21 64 (by kernel_rfl)
          exact Sht.wanted_not rfl (by kernel_rfl) g64
        · -- 23: Op.call { value (Operand.func 21), args := #[t65], argTypes 
          refine Sht.step_skip (fun a W hnew => ?_) (fun _ => rfl)
          have g64 : a.tmps.getD 64 undef = .bool false := hnew 21 64 (by kernel_rfl)
          exact Sht.wanted_not rfl (by kernel_rfl) g64
        · -- 24: Op.move t3
          refine Sht.step_skip (fun a W hnew => ?_) (fun _ => rfl)
          have g64 : a.tmps.getD 64 undef = .bool false := hnew 21 64 (by kernel_rfl)
          exact Sht.wanted_not rfl (by kernel_rfl) g64
        · -- 25: Op.binOp BinOp.neq 30 t66 t67 30
          refine Sht.step_skip (fun a W hnew => ?_) (fun _ => rfl)
          have g64 : a.tmps.getD 64 undef = .bool false := hnew 21 64 (by kernel_rfl)
          exact Sht.wanted_not rfl (by kernel_rfl) g64
        · refine Facts.step_is (Value.bool false) fun a W hR hold hnew => ?_
          have f64 : a.tmps.getD 64 undef = Value.bool false := hnew 21 64 (by kernel_rfl)
          have g59 : a.tmps.getD 59 undef = .bool false := hnew 16 59 (by kernel_rfl)
          refine ⟨Facts.wanted_by rfl (by kernel_rfl) g59, ?_, fun _ => rfl⟩
          simp [go_sem, Act.eval, f64]
        · refine Facts.step_is (Value.bool false) fun a W hR hold hnew => ?_
          have f59 : a.tmps.getD 59 undef = Value.bool false := hnew 16 59 (by kernel_rfl)
          have f69 : a.tmps.getD 69 undef = Value.bool false := hnew 26 69 (by kernel_rfl)
          refine ⟨Facts.wanted_free rfl, ?_, fun _ => rfl⟩
          simp [go_sem, Act.eval, f59, f69]
      intro a w5 hR' hsize hdef hnew hold
      have f0 : a.tmps.getD 0 undef = Value.pointer (some ⟨f, 0, none⟩) := hold 0 (Facts.not_dst (by kernel_rfl))
      have f1 : a.tmps.getD 1 undef = Value.slice (some ⟨b, o, none⟩) k cl := hold 1 (Facts.not_dst (by kernel_rfl))
      have f2 : a.tmps.getD 2 undef = Value.int .i64 (floor : Int) := hold 2 (Facts.not_dst (by kernel_rfl))
      have f3 : a.tmps.getD 3 undef = Value.int .u64 (tl : Int) := hold 3 (Facts.not_dst (by kernel_rfl))
      have f8 : a.tmps.getD 8 undef = Value.bool false := hold 8 (Facts.not_dst (by kernel_rfl))
      have f70 : a.tmps.getD 70 undef = Value.bool false := hnew 27 70 (by kernel_rfl)
      have f4 : a.tmps.getD 4 undef = undef := hold 4 (Facts.not_dst (by kernel_rfl))
      have f5 : a.tmps.getD 5 undef = undef := hold 5 (Facts.not_dst (by kernel_rfl))
      have f6 : a.tmps.getD 6 undef = undef := hold 6 (Facts.not_dst (by kernel_rfl))
      have f7 : a.tmps.getD 7 undef = undef := hold 7 (Facts.not_dst (by kernel_rfl))
      have f9 : a.tmps.getD 9 undef = undef := hold 9 (Facts.not_dst (by kernel_rfl))
      have f10 : a.tmps.getD 10 undef = undef := hold 10 (Facts.not_dst (by kernel_rfl))
      have f11 : a.tmps.getD 11 undef = undef := hold 11 (Facts.not_dst (by kernel_rfl))
      have f12 : a.tmps.getD 12 undef = undef := hold 12 (Facts.not_dst (by kernel_rfl))
      have f13 : a.tmps.getD 13 undef = undef := hold 13 (Facts.not_dst (by kernel_rfl))
      have f14 : a.tmps.getD 14 undef = undef := hold 14 (Facts.not_dst (by kernel_rfl))
      have f15 : a.tmps.getD 15 undef = undef := hold 15 (Facts.not_dst (by kernel_rfl))
      obtain ⟨tm, df⟩ := a
      simp only [] at hdef hsize f0 f1 f2 f3 f8 f70 f4 f5 f6 f7 f9 f10 f11 f12 f13 f14 f15
      have hlit : tm = #[tm.getD 0 undef, tm.getD 1 undef, tm.getD 2 undef, tm.getD 3 undef, tm.getD 4 undef, tm.getD 5 undef, tm.getD 6 undef, tm.getD 7 undef, tm.getD 8 undef, tm.getD 9 undef, tm.getD 10 undef, tm.getD 11 undef, tm.getD 12 undef, tm.getD 13 undef, tm.getD 14 undef, tm.getD 15 undef, tm.getD 16 undef, tm.getD 17 undef, tm.getD 18 undef, tm.getD 19 undef, tm.getD 20 undef, tm.getD 21 undef, tm.getD 22 undef, tm.getD 23 undef, tm.getD 24 undef, tm.getD 25 undef, tm.getD 26 undef, tm.getD 27 undef, tm.getD 28 undef, tm.getD 29 undef, tm.getD 30 undef, tm.getD 31 undef, tm.getD 32 undef, tm.getD 33 undef, tm.getD 34 undef, tm.getD 35 undef, tm.getD 36 undef, tm.getD 37 undef, tm.getD 38 undef, tm.getD 39 undef, tm.getD 40 undef, tm.getD 41 undef, tm.getD 42 undef, tm.getD 43 undef, tm.getD 44 undef, tm.getD 45 undef, tm.getD 46 undef, tm.getD 47 undef, tm.getD 48 undef, tm.getD 49 undef, tm.getD 50 undef, tm.getD 51 undef, tm.getD 52 undef, tm.getD 53 undef, tm.getD 54 undef, tm.getD 55 undef, tm.getD 56 undef, tm.getD 57 undef, tm.getD 58 undef, tm.getD 59 undef, tm.getD 60 undef, tm.getD 61 undef, tm.getD 62 undef, tm.getD 63 undef, tm.getD 64 undef, tm.getD 65 undef, tm.getD 66 undef, tm.getD 67 undef, tm.getD 68 undef, tm.getD 69 undef, tm.getD 70 undef, tm.getD 71 undef, tm.getD 72 undef, tm.getD 73 undef, tm.getD 74 undef, tm.getD 75 undef, tm.getD 76 undef, tm.getD 77 undef, tm.getD 78 undef, tm.getD 79 undef, tm.getD 80 undef, tm.getD 81 undef, tm.getD 82 undef, tm.getD 83 undef, tm.getD 84 undef, tm.getD 85 undef, tm.getD 86 undef, tm.getD 87 undef, tm.getD 88 undef, tm.getD 89 undef, tm.getD 90 undef, tm.getD 91 undef, tm.getD 92 undef, tm.getD 93 undef, tm.getD 94 undef, tm.getD 95 undef, tm.getD 96 undef, tm.getD 97 undef, tm.getD 98 undef, tm.getD 99 undef, tm.getD 100 undef, tm.getD 101 undef, tm.getD 102 undef, tm.getD 103 undef, tm.getD 104 undef, tm.getD 105 undef, tm.getD 106 undef, tm.getD 107 undef, tm.getD 108 undef, tm.getD 109 undef, tm.getD 110 undef, tm.getD 111 undef, tm.getD 112 undef, tm.getD 113 undef, tm.getD 114 undef, tm.getD 115 undef, tm.getD 116 undef, tm.getD 117 undef, tm.getD 118 undef, tm.getD 119 undef, tm.getD 120 undef, tm.getD 121 undef, tm.getD 122 undef, tm.getD 123 undef, tm.getD 124 undef, tm.getD 125 undef, tm.getD 126 undef, tm.getD 127 undef, tm.getD 128 undef, tm.getD 129 undef, tm.getD 130 undef, tm.getD 131 undef, tm.getD 132 undef, tm.getD 133 undef, tm.getD 134 undef, tm.getD 135 undef, tm.getD 136 undef, tm.getD 137 undef, tm.getD 138 undef, tm.getD 139 undef, tm.getD 140 undef, tm.getD 141 undef, tm.getD 142 undef, tm.getD 143 undef, tm.getD 144 undef, tm.getD 145 undef, tm.getD 146 undef] := (Facts.array_lit tm hsize).trans rfl
      rw [f0, f1, f2, f3, f8, f70, f4, f5, f6, f7, f9, f10, f11, f12, f13, f14, f15] at hlit
      clear f0 f1 f2 f3 f8 f70 f4 f5 f6 f7 f9 f10 f11 f12 f13 f14 f15 hsize hnew hold
      generalize tm.getD 16 undef = x16 at hlit
      generalize tm.getD 17 undef = x17 at hlit
      generalize tm.getD 18 undef = x18 at hlit
      generalize tm.getD 19 undef = x19 at hlit
      generalize tm.getD 20 undef = x20 at hlit
      generalize tm.getD 21 undef = x21 at hlit
      generalize tm.getD 22 undef = x22 at hlit
      generalize tm.getD 23 undef = x23 at hlit
      generalize tm.getD 24 undef = x24 at hlit
      generalize tm.getD 25 undef = x25 at hlit
      generalize tm.getD 26 undef = x26 at hlit
      generalize tm.getD 27 undef = x27 at hlit
      generalize tm.getD 28 undef = x28 at hlit
      generalize tm.getD 29 undef = x29 at hlit
      generalize tm.getD 30 undef = x30 at hlit
      generalize tm.getD 31 undef = x31 at hlit
      generalize tm.getD 32 undef = x32 at hlit
      generalize tm.getD 33 undef = x33 at hlit
      generalize tm.getD 34 undef = x34 at hlit
      generalize tm.getD 35 undef = x35 at hlit
      generalize tm.getD 36 undef = x36 at hlit
      generalize tm.getD 37 undef = x37 at hlit
      generalize tm.getD 38 undef = x38 at hlit
      generalize tm.getD 39 undef = x39 at hlit
      generalize tm.getD 40 undef = x40 at hlit
      generalize tm.getD 41 undef = x41 at hlit
      generalize tm.getD 42 undef = x42 at hlit
      generalize tm.getD 43 undef = x43 at hlit
      generalize tm.getD 44 undef = x44 at hlit
      generalize tm.getD 45 undef = x45 at hlit
      generalize tm.getD 46 undef = x46 at hlit
      generalize tm.getD 47 undef = x47 at hlit
      generalize tm.getD 48 undef = x48 at hlit
      generalize tm.getD 49 undef = x49 at hlit
      generalize tm.getD 50 undef = x50 at hlit
      generalize tm.getD 51 undef = x51 at hlit
      generalize tm.getD 52 undef = x52 at hlit
      generalize tm.getD 53 undef = x53 at hlit
      generalize tm.getD 54 undef = x54 at hlit
      generalize tm.getD 55 undef = x55 at hlit
      generalize tm.getD 56 undef = x56 at hlit
      generalize tm.getD 57 undef = x57 at hlit
      generalize tm.getD 58 undef = x58 at hlit
      generalize tm.getD 59 undef = x59 at hlit
      generalize tm.getD 60 undef = x60 at hlit
      generalize tm.getD 61 undef = x61 at hlit
      generalize tm.getD 62 undef = x62 at hlit
      generalize tm.getD 63 undef = x63 at hlit
      generalize tm.getD 64 undef = x64 at hlit
      generalize tm.getD 65 undef = x65 at hlit
      generalize tm.getD 66 undef = x66 at hlit
      generalize tm.getD 67 undef = x67 at hlit
      generalize tm.getD 68 undef = x68 at hlit
      generalize tm.getD 69 undef = x69 at hlit
      generalize tm.getD 71 undef = x71 at hlit
      generalize tm.getD 72 undef = x72 at hlit
      generalize tm.getD 73 undef = x73 at hlit
      generalize tm.getD 74 undef = x74 at hlit
      generalize tm.getD 75 undef = x75 at hlit
      generalize tm.getD 76 undef = x76 at hlit
      generalize tm.getD 77 undef = x77 at hlit
      generalize tm.getD 78 undef = x78 at hlit
      generalize tm.getD 79 undef = x79 at hlit
      generalize tm.getD 80 undef = x80 at hlit
      generalize tm.getD 81 undef = x81 at hlit
      generalize tm.getD 82 undef = x82 at hlit
      generalize tm.getD 83 undef = x83 at hlit
      generalize tm.getD 84 undef = x84 at hlit
      generalize tm.getD 85 undef = x85 at hlit
      generalize tm.getD 86 undef = x86 at hlit
      generalize tm.getD 87 undef = x87 at hlit
      generalize tm.getD 88 undef = x88 at hlit
      generalize tm.getD 89 undef = x89 at hlit
      generalize tm.getD 90 undef = x90 at hlit
      generalize tm.getD 91 undef = x91 at hlit
      generalize tm.getD 92 undef = x92 at hlit
      generalize tm.getD 93 undef = x93 at hlit
      generalize tm.getD 94 undef = x94 at hlit
      generalize tm.getD 95 undef = x95 at hlit
      generalize tm.getD 96 undef = x96 at hlit
      generalize tm.getD 97 undef = x97 at hlit
      generalize tm.getD 98 undef = x98 at hlit
      generalize tm.getD 99 undef = x99 at hlit
      generalize tm.getD 100 undef = x100 at hlit
      generalize tm.getD 101 undef = x101 at hlit
      generalize tm.getD 102 undef = x102 at hlit
      generalize tm.getD 103 undef = x103 at hlit
      generalize tm.getD 104 undef = x104 at hlit
      generalize tm.getD 105 undef = x105 at hlit
      generalize tm.getD 106 undef = x106 at hlit
      generalize tm.getD 107 undef = x107 at hlit
      generalize tm.getD 108 undef = x108 at hlit
      generalize tm.getD 109 undef = x109 at hlit
      generalize tm.getD 110 undef = x110 at hlit
      generalize tm.getD 111 undef = x111 at hlit
      generalize tm.getD 112 undef = x112 at hlit
      generalize tm.getD 113 undef = x113 at hlit
      generalize tm.getD 114 undef = x114 at hlit
      generalize tm.getD 115 undef = x115 at hlit
      generalize tm.getD 116 undef = x116 at hlit
      generalize tm.getD 117 undef = x117 at hlit
      generalize tm.getD 118 undef = x118 at hlit
      generalize tm.getD 119 undef = x119 at hlit
      generalize tm.getD 120 undef = x120 at hlit
      generalize tm.getD 121 undef = x121 at hlit
      generalize tm.getD 122 undef = x122 at hlit
      generalize tm.getD 123 undef = x123 at hlit
      generalize tm.getD 124 undef = x124 at hlit
      generalize tm.getD 125 undef = x125 at hlit
      generalize tm.getD 126 undef = x126 at hlit
      generalize tm.getD 127 undef = x127 at hlit
      generalize tm.getD 128 undef = x128 at hlit
      generalize tm.getD 129 undef = x129 at hlit
      generalize tm.getD 130 undef = x130 at hlit
      generalize tm.getD 131 undef = x131 at hlit
      generalize tm.getD 132 undef = x132 at hlit
      generalize tm.getD 133 undef = x133 at hlit
      generalize tm.getD 134 undef = x134 at hlit
      generalize tm.getD 135 undef = x135 at hlit
      generalize tm.getD 136 undef = x136 at hlit
      generalize tm.getD 137 undef = x137 at hlit
      generalize tm.getD 138 undef = x138 at hlit
      generalize tm.getD 139 undef = x139 at hlit
      generalize tm.getD 140 undef = x140 at hlit
      generalize tm.getD 141 undef = x141 at hlit
      generalize tm.getD 142 undef = x142 at hlit
      generalize tm.getD 143 undef = x143 at hlit
      generalize tm.getD 144 undef = x144 at hlit
      generalize tm.getD 145 undef = x145 at hlit
      generalize tm.getD 146 undef = x146 at hlit
      subst hlit
      subst hdef
      try simp only []
      have HB5 := Lib.hid (HB4.out.drew.trans (hR'.mono HB4.out.size))
      clear hR'
      go_wp2_with fail
      go_meet
      case rel => exact ⟨rfl, HB5⟩
    case neg =>
      have hkf : floor = k := by omega
      subst hkf
      have htl := HTL.out rfl
      subst htl
      have hd1 : decide ((floor : Int) < (floor : Int)) = false := decide_eq_false (by omega)
      have hd2 : ((floor : Int) == (floor : Int)) = true := by simp
      refine Facts.wp_region_preds (n := 147) (by kernel_rfl) (by kernel_rfl) rfl [Facts.Pred.is (Value.slice Al floor cl), Facts.Pred.is (Value.int .i64 (floor : Int)), Facts.Pred.is (Value.int .i64 (floor : Int)), Facts.Pred.is (Value.bool false), Facts.Pred.is (Value.bool false), Facts.Pred.is undef, Facts.Pred.is undef, Facts.Pred.is undef, Facts.Pred.is undef, Facts.Pred.is undef, Facts.Pred.is undef, Facts.Pred.is undef, Facts.Pred.is undef, Facts.Pred.is undef, Facts.Pred.is undef, Facts.Pred.is (Value.bool false), Facts.Pred.is (Value.bool false), Facts.Pred.is (Value.slice Al floor cl), Facts.Pred.is (Value.int .i64 (floor : Int)), Facts.Pred.is (Value.int .i64 (floor : Int)), Facts.Pred.is (Value.bool true), Facts.Pred.is (Value.bool true), Facts.Pred.is (Value.pointer (some ⟨f, 0, none⟩)), Facts.Pred.is (Value.int .u64 (tl : Int)), Facts.Pred.is (Value.int .u64 (tl : Int)), Facts.Pred.is (Value.bool false), Facts.Pred.is (Value.bool false), Facts.Pred.is (Value.bool false)] ?rgb ?nxb
      case rgb =>
        refine ⟨?_, ?_, ?_, ?_, ?_, ?_, ?_, ?_, ?_, ?_, ?_, ?_, ?_, ?_, ?_, ?_, ?_, ?_, ?_, ?_, ?_, ?_, ?_, ?_, ?_, ?_, ?_, ?_, trivial⟩
        · refine Facts.step_is (Value.slice Al floor cl) fun a W hR hold hnew => ?_
          have f1 : a.tmps.getD 1 undef = Value.slice Al floor cl := hold 1 (by kernel_rfl)
          refine ⟨Facts.wanted_free rfl, ?_, fun _ => rfl⟩
          simp [go_sem, Act.eval, f1]
        · refine Facts.step_is (Value.int .i64 (floor : Int)) fun a W hR hold hnew => ?_
          have f43 : a.tmps.getD 43 undef = Value.slice Al floor cl := hnew 0 43 (by kernel_rfl)
          refine ⟨Facts.wanted_free rfl, ?_, fun _ => rfl⟩
          simp [go_sem, Act.eval, f43]
        · refine Facts.step_is (Value.int .i64 (floor : Int)) fun a W hR hold hnew => ?_
          have f2 : a.tmps.getD 2 undef = Value.int .i64 (floor : Int) := hold 2 (by kernel_rfl)
          refine ⟨Facts.wanted_free rfl, ?_, fun _ => rfl⟩
          simp [go_sem, Act.eval, f2]
        · refine Facts.step_is (Value.bool false) fun a W hR hold hnew => ?_
          have f44 : a.tmps.getD 44 undef = Value.int .i64 (floor : Int) := hnew 1 44 (by kernel_rfl)
          have f45 : a.tmps.getD 45 undef = Value.int .i64 (floor : Int) := hnew 2 45 (by kernel_rfl)
          refine ⟨Facts.wanted_free rfl, ?_, fun _ => rfl⟩
          simp [go_sem, Act.eval, f44, f45, hd1]
        · refine Facts.step_is (Value.bool false) fun a W hR hold hnew => ?_
          have f46 : a.tmps.getD 46 undef = Value.bool false := hnew 3 46 (by kernel_rfl)
          refine ⟨Facts.wanted_free rfl, ?_, fun _ => rfl⟩
          simp [go_sem, Act.eval, f46]
        · -- 5: Op.move t0
          refine Sht.step_skip (fun a W hnew => ?_) (fun _ => rfl)
          have g47 : a.tmps.getD 47 undef = .bool false := hnew 4 47 (by kernel_rfl)
          exact Sht.wanted_not rfl (by kernel_rfl) g47
        · -- 6: Op.call { value (Operand.func 21), args := #[t48], argTypes 
          refine Sht.step_skip (fun a W hnew => ?_) (fun _ => rfl)
          have g47 : a.tmps.getD 47 undef = .bool false := hnew 4 47 (by kernel_rfl)
          exact Sht.wanted_not rfl (by kernel_rfl) g47
        · -- 7: Op.move t1
          refine Sht.step_skip (fun a W hnew => ?_) (fun _ => rfl)
          have g47 : a.tmps.getD 47 undef = .bool false := hnew 4 47 (by kernel_rfl)
          exact Sht.wanted_not rfl (by kernel_rfl) g47
        · -- 8: Op.move t1
          refine Sht.step_skip (fun a W hnew => ?_) (fun _ => rfl)
          have g47 : a.tmps.getD 47 undef = .bool false := hnew 4 47 (by kernel_rfl)
          exact Sht.wanted_not rfl (by kernel_rfl) g47
        · -- 9: Op.call { builtin len, args := #[t51], argTypes := #[31] }
          refine Sht.step_skip (fun a W hnew => ?_) (fun _ => rfl)
          have g47 : a.tmps.getD 47 undef = .bool false := hnew 4 47 (by kernel_rfl)
          exact Sht.wanted_not rfl (by kernel_rfl) g47
        · -- 10: Op.binOp BinOp.sub 3 t52 (const (1:i64)) 3
          refine Sht.step_skip (fun a W hnew => ?_) (fun _ => rfl)
          have g47 : a.tmps.getD 47 undef = .bool false := hnew 4 47 (by kernel_rfl)
          exact Sht.wanted_not rfl (by kernel_rfl) g47
        · -- 11: Op.indexAddr 31 t50 t53
          refine Sht.step_skip (fun a W hnew => ?_) (fun _ => rfl)
          have g47 : a.tmps.getD 47 undef = .bool false := hnew 4 47 (by kernel_rfl)
          exact Sht.wanted_not rfl (by kernel_rfl) g47
        · -- 12: Op.fieldAddr 37 t54 2
          refine Sht.step_skip (fun a W hnew => ?_) (fun _ => rfl)
          have g47 : a.tmps.getD 47 undef = .bool false := hnew 4 47 (by kernel_rfl)
          exact Sht.wanted_not rfl (by kernel_rfl) g47
        · -- 13: Op.load 30 t55
          refine Sht.step_skip (fun a W hnew => ?_) (fun _ => rfl)
          have g47 : a.tmps.getD 47 undef = .bool false := hnew 4 47 (by kernel_rfl)
          exact Sht.wanted_not rfl (by kernel_rfl) g47
        · -- 14: Op.binOp BinOp.neq 30 t49 t56 30
          refine Sht.step_skip (fun a W hnew => ?_) (fun _ => rfl)
          have g47 : a.tmps.getD 47 undef = .bool false := hnew 4 47 (by kernel_rfl)
          exact Sht.wanted_not rfl (by kernel_rfl) g47
        · refine Facts.step_is (Value.bool false) fun a W hR hold hnew => ?_
          have f47 : a.tmps.getD 47 undef = Value.bool false := hnew 4 47 (by kernel_rfl)
          refine ⟨Facts.wanted_free rfl, ?_, fun _ => rfl⟩
          simp [go_sem, Act.eval, f47]
        · refine Facts.step_is (Value.bool false) fun a W hR hold hnew => ?_
          have f58 : a.tmps.getD 58 undef = Value.bool false := hnew 15 58 (by kernel_rfl)
          refine ⟨Facts.wanted_free rfl, ?_, fun _ => rfl⟩
          simp [go_sem, Act.eval, f58]
        · refine Facts.step_is (Value.slice Al floor cl) fun a W hR hold hnew => ?_
          have f1 : a.tmps.getD 1 undef = Value.slice Al floor cl := hold 1 (by kernel_rfl)
          have g59 : a.tmps.getD 59 undef = .bool false := hnew 16 59 (by kernel_rfl)
          refine ⟨Facts.wanted_by rfl (by kernel_rfl) g59, ?_, fun _ => rfl⟩
          simp [go_sem, Act.eval, f1]
        · refine Facts.step_is (Value.int .i64 (floor : Int)) fun a W hR hold hnew => ?_
          have f60 : a.tmps.getD 60 undef = Value.slice Al floor cl := hnew 17 60 (by kernel_rfl)
          have g59 : a.tmps.getD 59 undef = .bool false := hnew 16 59 (by kernel_rfl)
          refine ⟨Facts.wanted_by rfl (by kernel_rfl) g59, ?_, fun _ => rfl⟩
          simp [go_sem, Act.eval, f60]
        · refine Facts.step_is (Value.int .i64 (floor : Int)) fun a W hR hold hnew => ?_
          have f2 : a.tmps.getD 2 undef = Value.int .i64 (floor : Int) := hold 2 (by kernel_rfl)
          have g59 : a.tmps.getD 59 undef = .bool false := hnew 16 59 (by kernel_rfl)
          refine ⟨Facts.wanted_by rfl (by kernel_rfl) g59, ?_, fun _ => rfl⟩
          simp [go_sem, Act.eval, f2]
        · refine Facts.step_is (Value.bool true) fun a W hR hold hnew => ?_
          have f61 : a.tmps.getD 61 undef = Value.int .i64 (floor : Int) := hnew 18 61 (by kernel_rfl)
          have f62 : a.tmps.getD 62 undef = Value.int .i64 (floor : Int) := hnew 19 62 (by kernel_rfl)
          have g59 : a.tmps.getD 59 undef = .bool false := hnew 16 59 (by kernel_rfl)
          refine ⟨Facts.wanted_by rfl (by kernel_rfl) g59, ?_, fun _ => rfl⟩
          simp [go_sem, Act.eval, f61, f62, hd2]
        · refine Facts.step_is (Value.bool true) fun a W hR hold hnew => ?_
          have f63 : a.tmps.getD 63 undef = Value.bool true := hnew 20 63 (by kernel_rfl)
          have g59 : a.tmps.getD 59 undef = .bool false := hnew 16 59 (by kernel_rfl)
          refine ⟨Facts.wanted_by rfl (by kernel_rfl) g59, ?_, fun _ => rfl⟩
          simp [go_sem, Act.eval, f63]
        · refine Facts.step_is (Value.pointer (some ⟨f, 0, none⟩)) fun a W hR hold hnew => ?_
          have f0 : a.tmps.getD 0 undef = Value.pointer (some ⟨f, 0, none⟩) := hold 0 (by kernel_rfl)
          have g64 : a.tmps.getD 64 undef = .bool true := hnew 21 64 (by kernel_rfl)
          refine ⟨Facts.wanted_by rfl (by kernel_rfl) g64, ?_, fun _ => rfl⟩
          simp [go_sem, Act.eval, f0]
        · -- 23: Op.call { value (Operand.func 21), args := #[t65], argTypes 
          refine Facts.step_call fun a W hR hold hnew => ?_
          have f65 : a.tmps.getD 65 undef = Value.pointer (some ⟨f, 0, none⟩) := hnew 22 65 (by kernel_rfl); have g64 : a.tmps.getD 64 undef = .bool true := hnew 21 64 (by kernel_rfl)
          refine ⟨Facts.wanted_by rfl (by kernel_rfl) g64, 21, #[Value.pointer (some ⟨f, 0, none⟩)], by simp [go_sem, Act.eval, f65], ?_⟩
          refine (HTM.out W hR).mono ?_
          rintro e8 w8 ⟨rfl, hb8⟩
          exact ⟨_, rfl, hb8, rfl⟩
        · refine Facts.step_is (Value.int .u64 (tl : Int)) fun a W hR hold hnew => ?_
          have f3 : a.tmps.getD 3 undef = Value.int .u64 (tl : Int) := hold 3 (by kernel_rfl)
          have g64 : a.tmps.getD 64 undef = .bool true := hnew 21 64 (by kernel_rfl)
          refine ⟨Facts.wanted_by rfl (by kernel_rfl) g64, ?_, fun _ => rfl⟩
          simp [go_sem, Act.eval, f3]
        · refine Facts.step_is (Value.bool false) fun a W hR hold hnew => ?_
          have f66 : a.tmps.getD 66 undef = Value.int .u64 (tl : Int) := hnew 23 66 (by kernel_rfl)
          have f67 : a.tmps.getD 67 undef = Value.int .u64 (tl : Int) := hnew 24 67 (by kernel_rfl)
          have g64 : a.tmps.getD 64 undef = .bool true := hnew 21 64 (by kernel_rfl)
          refine ⟨Facts.wanted_by rfl (by kernel_rfl) g64, ?_, fun _ => rfl⟩
          simp [go_sem, Act.eval, f66, f67]
        · refine Facts.step_is (Value.bool false) fun a W hR hold hnew => ?_
          have f64 : a.tmps.getD 64 undef = Value.bool true := hnew 21 64 (by kernel_rfl)
          have f68 : a.tmps.getD 68 undef = Value.bool false := hnew 25 68 (by kernel_rfl)
          have g59 : a.tmps.getD 59 undef = .bool false := hnew 16 59 (by kernel_rfl)
          refine ⟨Facts.wanted_by rfl (by kernel_rfl) g59, ?_, fun _ => rfl⟩
          simp [go_sem, Act.eval, f64, f68]
        · refine Facts.step_is (Value.bool false) fun a W hR hold hnew => ?_
          have f59 : a.tmps.getD 59 undef = Value.bool false := hnew 16 59 (by kernel_rfl)
          have f69 : a.tmps.getD 69 undef = Value.bool false := hnew 26 69 (by kernel_rfl)
          refine ⟨Facts.wanted_free rfl, ?_, fun _ => rfl⟩
          simp [go_sem, Act.eval, f59, f69]
      intro a w5 hR' hsize hdef hnew hold
      have f0 : a.tmps.getD 0 undef = Value.pointer (some ⟨f, 0, none⟩) := hold 0 (Facts.not_dst (by kernel_rfl))
      have f1 : a.tmps.getD 1 undef = Value.slice Al floor cl := hold 1 (Facts.not_dst (by kernel_rfl))
      have f2 : a.tmps.getD 2 undef = Value.int .i64 (floor : Int) := hold 2 (Facts.not_dst (by kernel_rfl))
      have f3 : a.tmps.getD 3 undef = Value.int .u64 (tl : Int) := hold 3 (Facts.not_dst (by kernel_rfl))
      have f8 : a.tmps.getD 8 undef = Value.bool false := hold 8 (Facts.not_dst (by kernel_rfl))
      have f70 : a.tmps.getD 70 undef = Value.bool false := hnew 27 70 (by kernel_rfl)
      have f4 : a.tmps.getD 4 undef = undef := hold 4 (Facts.not_dst (by kernel_rfl))
      have f5 : a.tmps.getD 5 undef = undef := hold 5 (Facts.not_dst (by kernel_rfl))
      have f6 : a.tmps.getD 6 undef = undef := hold 6 (Facts.not_dst (by kernel_rfl))
      have f7 : a.tmps.getD 7 undef = undef := hold 7 (Facts.not_dst (by kernel_rfl))
      have f9 : a.tmps.getD 9 undef = undef := hold 9 (Facts.not_dst (by kernel_rfl))
      have f10 : a.tmps.getD 10 undef = undef := hold 10 (Facts.not_dst (by kernel_rfl))
      have f11 : a.tmps.getD 11 undef = undef := hold 11 (Facts.not_dst (by kernel_rfl))
      have f12 : a.tmps.getD 12 undef = undef := hold 12 (Facts.not_dst (by kernel_rfl))
      have f13 : a.tmps.getD 13 undef = undef := hold 13 (Facts.not_dst (by kernel_rfl))
      have f14 : a.tmps.getD 14 undef = undef := hold 14 (Facts.not_dst (by kernel_rfl))
      have f15 : a.tmps.getD 15 undef = undef := hold 15 (Facts.not_dst (by kernel_rfl))
      obtain ⟨tm, df⟩ := a
      simp only [] at hdef hsize f0 f1 f2 f3 f8 f70 f4 f5 f6 f7 f9 f10 f11 f12 f13 f14 f15
      have hlit : tm = #[tm.getD 0 undef, tm.getD 1 undef, tm.getD 2 undef, tm.getD 3 undef, tm.getD 4 undef, tm.getD 5 undef, tm.getD 6 undef, tm.getD 7 undef, tm.getD 8 undef, tm.getD 9 undef, tm.getD 10 undef, tm.getD 11 undef, tm.getD 12 undef, tm.getD 13 undef, tm.getD 14 undef, tm.getD 15 undef, tm.getD 16 undef, tm.getD 17 undef, tm.getD 18 undef, tm.getD 19 undef, tm.getD 20 undef, tm.getD 21 undef, tm.getD 22 undef, tm.getD 23 undef, tm.getD 24 undef, tm.getD 25 undef, tm.getD 26 undef, tm.getD 27 undef, tm.getD 28 undef, tm.getD 29 undef, tm.getD 30 undef, tm.getD 31 undef, tm.getD 32 undef, tm.getD 33 undef, tm.getD 34 undef, tm.getD 35 undef, tm.getD 36 undef, tm.getD 37 undef, tm.getD 38 undef, tm.getD 39 undef, tm.getD 40 undef, tm.getD 41 undef, tm.getD 42 undef, tm.getD 43 undef, tm.getD 44 undef, tm.getD 45 undef, tm.getD 46 undef, tm.getD 47 undef, tm.getD 48 undef, tm.getD 49 undef, tm.getD 50 undef, tm.getD 51 undef, tm.getD 52 undef, tm.getD 53 undef, tm.getD 54 undef, tm.getD 55 undef, tm.getD 56 undef, tm.getD 57 undef, tm.getD 58 undef, tm.getD 59 undef, tm.getD 60 undef, tm.getD 61 undef, tm.getD 62 undef, tm.getD 63 undef, tm.getD 64 undef, tm.getD 65 undef, tm.getD 66 undef, tm.getD 67 undef, tm.getD 68 undef, tm.getD 69 undef, tm.getD 70 undef, tm.getD 71 undef, tm.getD 72 undef, tm.getD 73 undef, tm.getD 74 undef, tm.getD 75 undef, tm.getD 76 undef, tm.getD 77 undef, tm.getD 78 undef, tm.getD 79 undef, tm.getD 80 undef, tm.getD 81 undef, tm.getD 82 undef, tm.getD 83 undef, tm.getD 84 undef, tm.getD 85 undef, tm.getD 86 undef, tm.getD 87 undef, tm.getD 88 undef, tm.getD 89 undef, tm.getD 90 undef, tm.getD 91 undef, tm.getD 92 undef, tm.getD 93 undef, tm.getD 94 undef, tm.getD 95 undef, tm.getD 96 undef, tm.getD 97 undef, tm.getD 98 undef, tm.getD 99 undef, tm.getD 100 undef, tm.getD 101 undef, tm.getD 102 undef, tm.getD 103 undef, tm.getD 104 undef, tm.getD 105 undef, tm.getD 106 undef, tm.getD 107 undef, tm.getD 108 undef, tm.getD 109 undef, tm.getD 110 undef, tm.getD 111 undef, tm.getD 112 undef, tm.getD 113 undef, tm.getD 114 undef, tm.getD 115 undef, tm.getD 116 undef, tm.getD 117 undef, tm.getD 118 undef, tm.getD 119 undef, tm.getD 120 undef, tm.getD 121 undef, tm.getD 122 undef, tm.getD 123 undef, tm.getD 124 undef, tm.getD 125 undef, tm.getD 126 undef, tm.getD 127 undef, tm.getD 128 undef, tm.getD 129 undef, tm.getD 130 undef, tm.getD 131 undef, tm.getD 132 undef, tm.getD 133 undef, tm.getD 134 undef, tm.getD 135 undef, tm.getD 136 undef, tm.getD 137 undef, tm.getD 138 undef, tm.getD 139 undef, tm.getD 140 undef, tm.getD 141 undef, tm.getD 142 undef, tm.getD 143 undef, tm.getD 144 undef, tm.getD 145 undef, tm.getD 146 undef] := (Facts.array_lit tm hsize).trans rfl
      rw [f0, f1, f2, f3, f8, f70, f4, f5, f6, f7, f9, f10, f11, f12, f13, f14, f15] at hlit
      clear f0 f1 f2 f3 f8 f70 f4 f5 f6 f7 f9 f10 f11 f12 f13 f14 f15 hsize hnew hold
      generalize tm.getD 16 undef = x16 at hlit
      generalize tm.getD 17 undef = x17 at hlit
      generalize tm.getD 18 undef = x18 at hlit
      generalize tm.getD 19 undef = x19 at hlit
      generalize tm.getD 20 undef = x20 at hlit
      generalize tm.getD 21 undef = x21 at hlit
      generalize tm.getD 22 undef = x22 at hlit
      generalize tm.getD 23 undef = x23 at hlit
      generalize tm.getD 24 undef = x24 at hlit
      generalize tm.getD 25 undef = x25 at hlit
      generalize tm.getD 26 undef = x26 at hlit
      generalize tm.getD 27 undef = x27 at hlit
      generalize tm.getD 28 undef = x28 at hlit
      generalize tm.getD 29 undef = x29 at hlit
      generalize tm.getD 30 undef = x30 at hlit
      generalize tm.getD 31 undef = x31 at hlit
      generalize tm.getD 32 undef = x32 at hlit
      generalize tm.getD 33 undef = x33 at hlit
      generalize tm.getD 34 undef = x34 at hlit
      generalize tm.getD 35 undef = x35 at hlit
      generalize tm.getD 36 undef = x36 at hlit
      generalize tm.getD 37 undef = x37 at hlit
      generalize tm.getD 38 undef = x38 at hlit
      generalize tm.getD 39 undef = x39 at hlit
      generalize tm.getD 40 undef = x40 at hlit
      generalize tm.getD 41 undef = x41 at hlit
      generalize tm.getD 42 undef = x42 at hlit
      generalize tm.getD 43 undef = x43 at hlit
      generalize tm.getD 44 undef = x44 at hlit
      generalize tm.getD 45 undef = x45 at hlit
      generalize tm.getD 46 undef = x46 at hlit
      generalize tm.getD 47 undef = x47 at hlit
      generalize tm.getD 48 undef = x48 at hlit
      generalize tm.getD 49 undef = x49 at hlit
      generalize tm.getD 50 undef = x50 at hlit
      generalize tm.getD 51 undef = x51 at hlit
      generalize tm.getD 52 undef = x52 at hlit
      generalize tm.getD 53 undef = x53 at hlit
      generalize tm.getD 54 undef = x54 at hlit
      generalize tm.getD 55 undef = x55 at hlit
      generalize tm.getD 56 undef = x56 at hlit
      generalize tm.getD 57 undef = x57 at hlit
      generalize tm.getD 58 undef = x58 at hlit
      generalize tm.getD 59 undef = x59 at hlit
      generalize tm.getD 60 undef = x60 at hlit
      generalize tm.getD 61 undef = x61 at hlit
      generalize tm.getD 62 undef = x62 at hlit
      generalize tm.getD 63 undef = x63 at hlit
      generalize tm.getD 64 undef = x64 at hlit
      generalize tm.getD 65 undef = x65 at hlit
      generalize tm.getD 66 undef = x66 at hlit
      generalize tm.getD 67 undef = x67 at hlit
      generalize tm.getD 68 undef = x68 at hlit
      generalize tm.getD 69 undef = x69 at hlit
      generalize tm.getD 71 undef = x71 at hlit
      generalize tm.getD 72 undef = x72 at hlit
      generalize tm.getD 73 undef = x73 at hlit
      generalize tm.getD 74 undef = x74 at hlit
      generalize tm.getD 75 undef = x75 at hlit
      generalize tm.getD 76 undef = x76 at hlit
      generalize tm.getD 77 undef = x77 at hlit
      generalize tm.getD 78 undef = x78 at hlit
      generalize tm.getD 79 undef = x79 at hlit
      generalize tm.getD 80 undef = x80 at hlit
      generalize tm.getD 81 undef = x81 at hlit
      generalize tm.getD 82 undef = x82 at hlit
      generalize tm.getD 83 undef = x83 at hlit
      generalize tm.getD 84 undef = x84 at hlit
      generalize tm.getD 85 undef = x85 at hlit
      generalize tm.getD 86 undef = x86 at hlit
      generalize tm.getD 87 undef = x87 at hlit
      generalize tm.getD 88 undef = x88 at hlit
      generalize tm.getD 89 undef = x89 at hlit
      generalize tm.getD 90 undef = x90 at hlit
      generalize tm.getD 91 undef = x91 at hlit
      generalize tm.getD 92 undef = x92 at hlit
      generalize tm.getD 93 undef = x93 at hlit
      generalize tm.getD 94 undef = x94 at hlit
      generalize tm.getD 95 undef = x95 at hlit
      generalize tm.getD 96 undef = x96 at hlit
      generalize tm.getD 97 undef = x97 at hlit
      generalize tm.getD 98 undef = x98 at hlit
      generalize tm.getD 99 undef = x99 at hlit
      generalize tm.getD 100 undef = x100 at hlit
      generalize tm.getD 101 undef = x101 at hlit
      generalize tm.getD 102 undef = x102 at hlit
      generalize tm.getD 103 undef = x103 at hlit
      generalize tm.getD 104 undef = x104 at hlit
      generalize tm.getD 105 undef = x105 at hlit
      generalize tm.getD 106 undef = x106 at hlit
      generalize tm.getD 107 undef = x107 at hlit
      generalize tm.getD 108 undef = x108 at hlit
      generalize tm.getD 109 undef = x109 at hlit
      generalize tm.getD 110 undef = x110 at hlit
      generalize tm.getD 111 undef = x111 at hlit
      generalize tm.getD 112 undef = x112 at hlit
      generalize tm.getD 113 undef = x113 at hlit
      generalize tm.getD 114 undef = x114 at hlit
      generalize tm.getD 115 undef = x115 at hlit
      generalize tm.getD 116 undef = x116 at hlit
      generalize tm.getD 117 undef = x117 at hlit
      generalize tm.getD 118 undef = x118 at hlit
      generalize tm.getD 119 undef = x119 at hlit
      generalize tm.getD 120 undef = x120 at hlit
      generalize tm.getD 121 undef = x121 at hlit
      generalize tm.getD 122 undef = x122 at hlit
      generalize tm.getD 123 undef = x123 at hlit
      generalize tm.getD 124 undef = x124 at hlit
      generalize tm.getD 125 undef = x125 at hlit
      generalize tm.getD 126 undef = x126 at hlit
      generalize tm.getD 127 undef = x127 at hlit
      generalize tm.getD 128 undef = x128 at hlit
      generalize tm.getD 129 undef = x129 at hlit
      generalize tm.getD 130 undef = x130 at hlit
      generalize tm.getD 131 undef = x131 at hlit
      generalize tm.getD 132 undef = x132 at hlit
      generalize tm.getD 133 undef = x133 at hlit
      generalize tm.getD 134 undef = x134 at hlit
      generalize tm.getD 135 undef = x135 at hlit
      generalize tm.getD 136 undef = x136 at hlit
      generalize tm.getD 137 undef = x137 at hlit
      generalize tm.getD 138 undef = x138 at hlit
      generalize tm.getD 139 undef = x139 at hlit
      generalize tm.getD 140 undef = x140 at hlit
      generalize tm.getD 141 undef = x141 at hlit
      generalize tm.getD 142 undef = x142 at hlit
      generalize tm.getD 143 undef = x143 at hlit
      generalize tm.getD 144 undef = x144 at hlit
      generalize tm.getD 145 undef = x145 at hlit
      generalize tm.getD 146 undef = x146 at hlit
      subst hlit
      subst hdef
      try simp only []
      have HB5 := Lib.hid (HB4.out.drew.trans (hR'.mono HB4.out.size))
      clear hR'
      go_wp2_with fail
      go_meet
      case rel => exact ⟨rfl, HB5⟩
  case rest =>
  obtain ⟨rfl, HB5⟩ := hcut
  go_wp2_with fail
  go_loopw [9] (fun v wr => ∃ n : Nat, v = .int .u64 (n : Int) ∧ n ≤ k + 2 ∧ Hid (Below w.heap.size w wr)) (fun v _ => (k + 2) - (intOf v).toNat)
  case atStart => exact ⟨0, by first | rfl | simp, Nat.zero_le _, HB5⟩
  case round =>
    obtain ⟨n, rfl, hn, HB⟩ := hrel
    by_cases hlt : n ≤ k + 1
    · have hn1 : IntKind.u64.wrap ((n : Int) + 1) = ((n + 1 : Nat) : Int) := by rw [IntKind.wrap_u64]; omega
      have hn2w : IntKind.i64.wrap (n : Int) = (n : Int) := by rw [IntKind.wrap_i64]; omega
      have hn3w : IntKind.i64.wrap ((n : Int) + 2) = ((n + 2 : Nat) : Int) := by rw [IntKind.wrap_i64]; omega
      by_cases hz : n = 0
      · have hzb : ((n : Int) == 0) = true := by rw [beq_iff_eq]; omega
        have HZ := Lib.hid hz
        have hn60 : n ≤ 60 := by omega
        have hnk : n ≤ k := by omega
        clear hz
        have hlt2 : decide ((n : Int) ≤ ((k + 1 : Nat) : Int)) = true := decide_eq_true (by omega)
        go_wp2_with fail
        refine (HT.out.ge n 2 wr HB.out (.inl ⟨HZ.out, rfl⟩)).mono ?_
        rintro e w1 ⟨rfl, hb1⟩
        unfold zeroEv
        have b1 := HB.out.trans (hb1.mono HB.out.size)
        have g2 : (w1.alloc (.cells zeroRow 37)).heap[w1.heap.size]? = _ := heap_alloc_new w1 (.cells zeroRow 37)
        have b2 := b1.alloc b1.size (.cells zeroRow 37)
        have hz1 := b1.size
        unfold zeroRow at g2 b2
        have G2 := Lib.hid g2
        have B2 := Lib.hid b2
        clear g2 b2 hb1 b1
        go_wp2_with (first
          | (refine wpList_putRow rfl 37 (.tmp 10) (.tmp 83) rfl w1.heap.size 37 zeroRow zeroRow rfl rfl ?g1 (by kernel_rfl) rfl (by simp [zeroRow, Value.oneCell']) ?_))
        case g1 => unfold zeroRow; exact G2.out
        intro W3 hW3 hbe3
        have B3 := Lib.hid (Below.beside B2.out hbe3 B2.out.size (by simp; omega))
        clear hbe3 hW3 B2 G2
        go_wp2_with fail
        refine (HT.out.re n 2 W3 B3.out (.inl ⟨HZ.out, rfl⟩)).mono ?_
        rintro e w4 ⟨rfl, hb4⟩
        have B4 := Lib.hid (B3.out.trans (hb4.mono B3.out.size))
        clear hb4 B3
        by_cases hend : k < n + 2
        all_goals
          have hend2 : decide ((k : Int) < ((n + 2 : Nat) : Int)) = decide (k < n + 2) := by simp only [decide_eq_decide]; omega
          simp only [hend, decide_true, decide_false] at hend2
          go_wp2_with fail
          go_quiet (fail)
          go_wp2
          go_roundw
          case rel => exact ⟨n + 1, by first | rfl | (rw [hn1]), by omega, Lib.hid (B4.out.trans ((below_drewN' w4 _).mono B4.out.size))⟩
          case measure =>
            try rw [hn1]
            simp [intOf] <;> omega
      · have hzb : ((n : Int) == 0) = false := by rw [beq_eq_false_iff_ne]; omega
        by_cases hg : k < n
        · have hgb : decide ((k : Int) < (n : Int)) = true := decide_eq_true (by omega)
          have hlt2 : decide ((n : Int) ≤ ((k + 1 : Nat) : Int)) = true := decide_eq_true (by omega)
          go_wp2_with fail
          refine (HT.out.ge n 2 wr HB.out (.inr (.inl ⟨hg, rfl⟩))).mono ?_
          rintro e w1 ⟨rfl, hb1⟩
          unfold zeroEv
          have b1 := HB.out.trans (hb1.mono HB.out.size)
          have g2 : (w1.alloc (.cells zeroRow 37)).heap[w1.heap.size]? = _ := heap_alloc_new w1 (.cells zeroRow 37)
          have b2 := b1.alloc b1.size (.cells zeroRow 37)
          have hz1 := b1.size
          unfold zeroRow at g2 b2
          have G2 := Lib.hid g2
          have B2 := Lib.hid b2
          clear g2 b2 hb1 b1
          go_wp2_with (first
            | (refine wpList_putRow rfl 37 (.tmp 10) (.tmp 83) rfl w1.heap.size 37 zeroRow zeroRow rfl rfl ?g1 (by kernel_rfl) rfl (by simp [zeroRow, Value.oneCell']) ?_))
          case g1 => unfold zeroRow; exact G2.out
          intro W3 hW3 hbe3
          have B3 := Lib.hid (Below.beside B2.out hbe3 B2.out.size (by simp; omega))
          clear hbe3 hW3 B2 G2
          go_wp2_with fail
          refine (HT.out.re n 2 W3 B3.out (.inr (.inl ⟨hg, rfl⟩))).mono ?_
          rintro e w4 ⟨rfl, hb4⟩
          have B4 := Lib.hid (B3.out.trans (hb4.mono B3.out.size))
          clear hb4 B3
          have hend : k < n + 2 := by omega
          all_goals
            have hend2 : decide ((k : Int) < ((n + 2 : Nat) : Int)) = decide (k < n + 2) := by simp only [decide_eq_decide]; omega
            simp only [hend, decide_true, decide_false] at hend2
            go_wp2_with fail
            go_quiet (fail)
            go_wp2
            go_roundw
            case rel => exact ⟨n + 1, by first | rfl | (rw [hn1]), by omega, Lib.hid (B4.out.trans ((below_drewN' w4 _).mono B4.out.size))⟩
            case measure =>
              try rw [hn1]
              simp [intOf] <;> omega
        · have hgb : decide ((k : Int) < (n : Int)) = false := decide_eq_false (by omega)
          by_cases hl : n ≤ floor
          · have hlb : decide ((n : Int) ≤ (floor : Int)) = true := decide_eq_true (by omega)
            have hlt2 : decide ((n : Int) ≤ ((k + 1 : Nat) : Int)) = true := decide_eq_true (by omega)
            go_wp2_with fail
            refine (HT.out.ge n 13 wr HB.out (.inr (.inr ⟨by omega, hl, rfl⟩))).mono ?_
            rintro e w1 ⟨rfl, hb1⟩
            unfold zeroEv
            have b1 := HB.out.trans (hb1.mono HB.out.size)
            have g2 : (w1.alloc (.cells zeroRow 37)).heap[w1.heap.size]? = _ := heap_alloc_new w1 (.cells zeroRow 37)
            have b2 := b1.alloc b1.size (.cells zeroRow 37)
            have hz1 := b1.size
            unfold zeroRow at g2 b2
            have G2 := Lib.hid g2
            have B2 := Lib.hid b2
            clear g2 b2 hb1 b1
            go_wp2_with (first
              | (refine wpList_putRow rfl 37 (.tmp 10) (.tmp 83) rfl w1.heap.size 37 zeroRow zeroRow rfl rfl ?g1 (by kernel_rfl) rfl (by simp [zeroRow, Value.oneCell']) ?_))
            case g1 => unfold zeroRow; exact G2.out
            intro W3 hW3 hbe3
            have B3 := Lib.hid (Below.beside B2.out hbe3 B2.out.size (by simp; omega))
            clear hbe3 hW3 B2 G2
            go_wp2_with fail
            refine (HT.out.re n 13 W3 B3.out (.inr (.inr ⟨by omega, hl, rfl⟩))).mono ?_
            rintro e w4 ⟨rfl, hb4⟩
            have B4 := Lib.hid (B3.out.trans (hb4.mono B3.out.size))
            clear hb4 B3
            by_cases hend : k < n + 2
            all_goals
              have hend2 : decide ((k : Int) < ((n + 2 : Nat) : Int)) = decide (k < n + 2) := by simp only [decide_eq_decide]; omega
              simp only [hend, decide_true, decide_false] at hend2
              go_wp2_with fail
              go_quiet (fail)
              go_wp2
              go_roundw
              case rel => exact ⟨n + 1, by first | rfl | (rw [hn1]), by omega, Lib.hid (B4.out.trans ((below_drewN' w4 _).mono B4.out.size))⟩
              case measure =>
                try rw [hn1]
                simp [intOf] <;> omega
          · have hlb : decide ((n : Int) ≤ (floor : Int)) = false := decide_eq_false (by omega)
            have hin : floor < n ∧ n ≤ k := ⟨by omega, by omega⟩
            have hlt2 : decide ((n : Int) ≤ ((k + 1 : Nat) : Int)) = true := decide_eq_true (by omega)
            obtain ⟨b, o, r0, hAl, _⟩ := HS.out.get (j := 0) (by omega)
            subst hAl
            go_wp2_with fail
            obtain ⟨j, hj⟩ : ∃ j, j = n - 1 := ⟨_, rfl⟩
            obtain ⟨ev, hev⟩ : ∃ ev, L[n - 1]? = some ev := ⟨_, List.getElem?_eq_getElem (by have := HS.out.len; omega)⟩
            refine (HT.out.go n ev wr HB.out hin.1 hin.2 hev).mono ?_
            rintro e w1 ⟨r, rfl, hre, htx, hb1⟩
            have b1 := HB.out.trans (hb1.mono HB.out.size)
            have g2 : (w1.alloc (.cells zeroRow 37)).heap[w1.heap.size]? = _ := heap_alloc_new w1 (.cells zeroRow 37)
            have b2 := b1.alloc b1.size (.cells zeroRow 37)
            have t2 := htx.next (B' := [w1.heap.size]) (Beside.of_below ((Below.refl w1.heap.size w1).alloc (Nat.le_refl _) (.cells zeroRow 37)) _) (fun k hk => by simp at hk; subst hk; exact .inr (Nat.le_refl _))
            have hz1 := b1.size
            unfold zeroRow at g2 b2 t2
            have G2 := Lib.hid g2
            have B2 := Lib.hid b2
            have T2x := Lib.hid t2
            have HRE := Lib.hid hre
            have HEV := Lib.hid hev
            have HJ := Lib.hid hj
            have HIN := Lib.hid hin
            clear g2 b2 hb1 b1 htx t2 hre hev hj hin
            go_wp2_with (first
              | (refine wpList_putRow rfl 37 (.tmp 10) (.tmp 83) rfl w1.heap.size 37 zeroRow (r.e.row r.A r.n r.c) rfl rfl ?g1 (by kernel_rfl) rfl (by simp [Ev.row, Value.oneCell']) ?_))
            case g1 => unfold zeroRow; exact G2.out
            intro W3 hW3 hbe3
            have B3 := Lib.hid (Below.beside B2.out hbe3 B2.out.size (by simp; omega))
            have T3 : Sees W3 r.A r.n r.e.text := T2x.out.1.beside hbe3 (fun hn a ha hm => T2x.out.2.2.2 hn a ha hm)
            unfold Ev.row at hW3
            have HW3 := Lib.hid hW3
            have hl3 : w1.heap.size < W3.heap.size := (Array.getElem?_eq_some_iff.1 hW3).1
            have HT3 := Lib.hid T3
            clear hbe3 hW3 B2 G2 T2x T3
            obtain ⟨b9, hb9⟩ : ∃ b9, b9 = w1.heap.size := ⟨_, rfl⟩
            rw [← hb9] at HW3 hl3 ⊢
            clear hb9 hz1
            go_wp2_with fail
            refine (HT.out.ro n W3 B3.out HIN.out.1 HIN.out.2).mono ?_
            rintro e w4 ⟨A2, n2, c2, rfl, hs2, hnc2, hb4⟩
            have hre := HRE.out
            have hev := HEV.out
            have hj := HJ.out
            have hin := HIN.out
            have b4 := B3.out.trans (hb4.mono B3.out.size)
            obtain ⟨k0, k1x, k2x, k3x, k4x, k5x, k6x, k7x⟩ := box8 ((hb4.block b9 hl3).trans HW3.out)
            obtain ⟨bz, oz, r2, hAz, hR2, ht2, m0, m1, m2, m3, m4, m5, m6, m7⟩ := (HS.out.below b4).get (j := j) (by omega)
            injection hAz with hAz
            injection hAz with hbz hoz
            subst hbz
            subst hoz
            rw [hj, hev] at hR2
            have her : r2.e = r.e := by rw [hre]; exact (Option.some.inj hR2).symm
            have hs3 := ht2.1
            rw [her] at hs3 m0 m1 m2 m3 m4 m6 m7
            rw [Nat.mul_comm 8 j] at m0 m1 m2 m3 m4 m5 m6 m7
            have hrr := HR.out ev (List.mem_of_getElem? hev)
            rw [← hre] at hrr
            have hl9 : b9 < w4.heap.size := Nat.lt_of_lt_of_le hl3 hb4.size
            have hlb : b < w4.heap.size := World.block_lt_of_cell? _ _ m0
            have KEEPC : ∀ w', Below w4.heap.size w4 w' → w'.cell? ⟨b9, 0, none⟩ = some (.int .i64 r.e.writer) ∧ w'.cell? ⟨b9, 1, none⟩ = some (.int .u64 (r.e.seq : Int)) ∧ w'.cell? ⟨b9, 2, none⟩ = some (.int .u64 (r.e.time : Int)) ∧ w'.cell? ⟨b9, 3, none⟩ = some (.int .u8 (r.e.kind : Int)) ∧ w'.cell? ⟨b9, 4, none⟩ = some (.string r.e.key) ∧ w'.cell? ⟨b9, 5, none⟩ = some (.slice r.A r.n r.c) ∧ w'.cell? ⟨b9, 6, none⟩ = some (.float .f64 r.e.num) ∧ w'.cell? ⟨b9, 7, none⟩ = some (.int .i64 r.e.node) ∧ w'.cell? ⟨b, o + j * 8, none⟩ = some (.int .i64 r.e.writer) ∧ w'.cell? ⟨b, o + j * 8 + 1, none⟩ = some (.int .u64 (r.e.seq : Int)) ∧ w'.cell? ⟨b, o + j * 8 + 2, none⟩ = some (.int .u64 (r.e.time : Int)) ∧ w'.cell? ⟨b, o + j * 8 + 3, none⟩ = some (.int .u8 (r.e.kind : Int)) ∧ w'.cell? ⟨b, o + j * 8 + 4, none⟩ = some (.string r.e.key) ∧ w'.cell? ⟨b, o + j * 8 + 5, none⟩ = some (.slice r2.A r2.n r2.c) ∧ w'.cell? ⟨b, o + j * 8 + 6, none⟩ = some (.float .f64 r.e.num) ∧ w'.cell? ⟨b, o + j * 8 + 7, none⟩ = some (.int .i64 r.e.node) := fun w' hW => ⟨(hW.cell (p := ⟨b9, 0, none⟩) hl9).trans k0, (hW.cell (p := ⟨b9, 1, none⟩) hl9).trans k1x, (hW.cell (p := ⟨b9, 2, none⟩) hl9).trans k2x, (hW.cell (p := ⟨b9, 3, none⟩) hl9).trans k3x, (hW.cell (p := ⟨b9, 4, none⟩) hl9).trans k4x, (hW.cell (p := ⟨b9, 5, none⟩) hl9).trans k5x, (hW.cell (p := ⟨b9, 6, none⟩) hl9).trans k6x, (hW.cell (p := ⟨b9, 7, none⟩) hl9).trans k7x, (hW.cell (p := ⟨b, o + j * 8, none⟩) hlb).trans m0, (hW.cell (p := ⟨b, o + j * 8 + 1, none⟩) hlb).trans m1, (hW.cell (p := ⟨b, o + j * 8 + 2, none⟩) hlb).trans m2, (hW.cell (p := ⟨b, o + j * 8 + 3, none⟩) hlb).trans m3, (hW.cell (p := ⟨b, o + j * 8 + 4, none⟩) hlb).trans m4, (hW.cell (p := ⟨b, o + j * 8 + 5, none⟩) hlb).trans m5, (hW.cell (p := ⟨b, o + j * 8 + 6, none⟩) hlb).trans m6, (hW.cell (p := ⟨b, o + j * 8 + 7, none⟩) hlb).trans m7⟩
            have SAME : ∀ W, Below w4.heap.size w4 W → Calls Tryz.prog 35 #[r.e.val r.A r.n r.c, r.e.val r2.A r2.n r2.c] W fun e w' => e = .returned (.bool true) ∧ Hid (Below w4.heap.size w4 w') ∧ w'.cell? ⟨b9, 0, none⟩ = some (.int .i64 r.e.writer) ∧ w'.cell? ⟨b9, 1, none⟩ = some (.int .u64 (r.e.seq : Int)) ∧ w'.cell? ⟨b9, 2, none⟩ = some (.int .u64 (r.e.time : Int)) ∧ w'.cell? ⟨b9, 3, none⟩ = some (.int .u8 (r.e.kind : Int)) ∧ w'.cell? ⟨b9, 4, none⟩ = some (.string r.e.key) ∧ w'.cell? ⟨b9, 5, none⟩ = some (.slice r.A r.n r.c) ∧ w'.cell? ⟨b9, 6, none⟩ = some (.float .f64 r.e.num) ∧ w'.cell? ⟨b9, 7, none⟩ = some (.int .i64 r.e.node) ∧ w'.cell? ⟨b, o + j * 8, none⟩ = some (.int .i64 r.e.writer) ∧ w'.cell? ⟨b, o + j * 8 + 1, none⟩ = some (.int .u64 (r.e.seq : Int)) ∧ w'.cell? ⟨b, o + j * 8 + 2, none⟩ = some (.int .u64 (r.e.time : Int)) ∧ w'.cell? ⟨b, o + j * 8 + 3, none⟩ = some (.int .u8 (r.e.kind : Int)) ∧ w'.cell? ⟨b, o + j * 8 + 4, none⟩ = some (.string r.e.key) ∧ w'.cell? ⟨b, o + j * 8 + 5, none⟩ = some (.slice r2.A r2.n r2.c) ∧ w'.cell? ⟨b, o + j * 8 + 6, none⟩ = some (.float .f64 r.e.num) ∧ w'.cell? ⟨b, o + j * 8 + 7, none⟩ = some (.int .i64 r.e.node) := fun W hW => by
              refine (refSame_any r.e r.e r.A r2.A r.n r.c r2.n r2.c W ((HT3.out.below hb4).below hW) (hs3.below hW) hrr.2 hrr.2 hrr.1 hrr.1).mono ?_
              rintro e w' ⟨rfl, hb⟩
              exact ⟨by simp, Lib.hid (hW.trans (hb.mono hW.size)), KEEPC w' (hW.trans (hb.mono hW.size))⟩
            unfold Ev.val at SAME
            have hLk := HS.out.len
            obtain ⟨m, hm⟩ : ∃ m, m = min (k - j) 3 := ⟨_, rfl⟩
            have hn2 : n2 = m := by have h1 := hs2.len; rw [List.length_take, List.length_drop] at h1; omega
            subst hn2
            have hcj : ¬ cl = j := by omega
            have SALL := Lib.hid (fun (A9 : Option Addr) (n9 c9 : Nat) (W : World) (hA9 : A9 = some ⟨b, o + j * 8, none⟩) (hn9 : n9 = n2) (hW : Below w4.heap.size w4 W) => (by
              have h1 := sees_cut (a := j) (c := cl) (HS.out.below b4) (by omega) hkc
              rw [if_neg hcj] at h1
              simp only [Option.map_some, add_plain] at h1
              have h2 := h1.take (k := n2) (by omega)
              have h3 : (L.drop j).take n2 = (L.drop j).take 3 := by
                rcases Nat.le_total 3 (k - j) with h | h
                · rw [show n2 = 3 by omega]
                · rw [List.take_of_length_le (by rw [List.length_drop]; omega), List.take_of_length_le (by rw [List.length_drop]; omega)]
              rw [h3] at h2
              rw [hA9, hn9]
              rw [← hj] at hs2
              refine (sameAll_any [] [] A2 (some ⟨b, o + j * 8, none⟩) n2 c2 c9 ((L.drop j).take 3) W (hs2.below hW) (h2.below hW) (fun e he => HR.out e (List.mem_of_mem_drop (List.mem_of_mem_take he))) (by omega)).mono ?_
              rintro e w' ⟨rfl, hb⟩
              exact ⟨rfl, hW.trans (hb.mono hW.size)⟩ : Calls Tryz.prog 34 #[.slice A2 n2 c2, .slice A9 n9 c9] W fun e w' => e = .returned (.bool true) ∧ Below w4.heap.size w4 w'))
            have hjw : IntKind.u64.wrap ((n : Int) - 1) = (j : Int) := by rw [IntKind.wrap_u64]; omega
            have hj0 : (0 : Int) ≤ (j : Int) := by omega
            have hjk : (j : Int) < (k : Int) := by omega
            have hjk2 : j < k := by omega
            have hjn1 : (j : Int) ≤ (n : Int) + 2 := by omega
            have hjn2 : j ≤ n + 2 := by omega
            have hjn3 : (0 : Int) ≤ (n : Int) + 2 := by omega
            have HM := Lib.hid hm
            have HB4x := Lib.hid b4
            clear KEEPC hin hs2 hnc2 hb4 b4 hR2 her hs3 hrr hLk hm hj hev hre ht2
            go_wp2_with fail
            go_region_held3 (fun w' => w'.cell? ⟨b9, 0, none⟩ = some (.int .i64 r.e.writer) ∧ w'.cell? ⟨b9, 1, none⟩ = some (.int .u64 (r.e.seq : Int)) ∧ w'.cell? ⟨b9, 2, none⟩ = some (.int .u64 (r.e.time : Int)) ∧ w'.cell? ⟨b9, 3, none⟩ = some (.int .u8 (r.e.kind : Int)) ∧ w'.cell? ⟨b9, 4, none⟩ = some (.string r.e.key) ∧ w'.cell? ⟨b9, 5, none⟩ = some (.slice r.A r.n r.c) ∧ w'.cell? ⟨b9, 6, none⟩ = some (.float .f64 r.e.num) ∧ w'.cell? ⟨b9, 7, none⟩ = some (.int .i64 r.e.node) ∧
                w'.cell? ⟨b, o + j * 8, none⟩ = some (.int .i64 r.e.writer) ∧ w'.cell? ⟨b, o + j * 8 + 1, none⟩ = some (.int .u64 (r.e.seq : Int)) ∧ w'.cell? ⟨b, o + j * 8 + 2, none⟩ = some (.int .u64 (r.e.time : Int)) ∧ w'.cell? ⟨b, o + j * 8 + 3, none⟩ = some (.int .u8 (r.e.kind : Int)) ∧ w'.cell? ⟨b, o + j * 8 + 4, none⟩ = some (.string r.e.key) ∧ w'.cell? ⟨b, o + j * 8 + 5, none⟩ = some (.slice r2.A r2.n r2.c) ∧ w'.cell? ⟨b, o + j * 8 + 6, none⟩ = some (.float .f64 r.e.num) ∧ w'.cell? ⟨b, o + j * 8 + 7, none⟩ = some (.int .i64 r.e.node)) (go_keep)
              (first
                | (go_at_call 35
                   refine (SAME _ ?h1).mono ?_
                   case h1 => first | exact Below.refl _ _ | exact (Below.refl _ _).drew
                   rintro e w6 ⟨rfl, HB6, k0, k1x, k2x, k3x, k4x, k5x, k6x, k7x, m0, m1, m2, m3, m4, m5, m6, m7⟩))
            by_cases hend : k < n + 2
            all_goals
              have hend2 : decide ((k : Int) < ((n + 2 : Nat) : Int)) = decide (k < n + 2) := by simp only [decide_eq_decide]; omega
              simp only [hend, decide_true, decide_false] at hend2
              go_wp2_with fail
              refine (SALL.out _ _ _ _ (by rfl) (by have := HM.out; have := HJ.out; omega) HB6.out).mono ?_
              rintro e w8 ⟨rfl, hb8⟩
              have HB8 := Lib.hid (HB4x.out.trans (hb8.mono HB4x.out.size))
              clear hb8
              go_wp2
              go_roundw
              case rel => exact ⟨n + 1, by first | rfl | (rw [hn1]), by omega, HB8⟩
              case measure =>
                try rw [hn1]
                simp [intOf] <;> omega
    · have hlt2 : decide ((n : Int) ≤ ((k + 1 : Nat) : Int)) = false := decide_eq_false (by omega)
      go_wp2
      go_ret
      exact ⟨rfl, HB.out⟩
end Go.Proofs.YtkphklmgbdljiaaGreatDoor.Fd
