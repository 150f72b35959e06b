/- A fold's bytes; the document's Encode. -/
import Derived.Test.YtmogoopkjkdkgaaGreatVTp11
import Derived.Test.YtmogoopkjkdkgaaGreatVTp21
import Derived.Test.YtmogoopkjkdkgaaGreatVTp22
import Derived.Test.YtmogoopkjkdkgaaGreatVTp24
import Derived.Test.YtmogoopkjkdkgaaGreatVTp25
namespace Go.Proofs.YtmogoopkjkdkgaaGreat.Fol
open Go Go.RowKit Go.Proofs.YtmogoopkjkdkgaaGreat.Words Go.Proofs.YtmogoopkjkdkgaaGreat.Enc Go.Proofs.YtmogoopkjkdkgaaGreat.Q Go.Proofs.YtmogoopkjkdkgaaGreat.Evt Go.Proofs.YtmogoopkjkdkgaaGreat.Made
set_option linter.unusedVariables false
set_option linter.unusedSimpArgs false

/-- A key's bytes, and what it has. -/
def celL (p : Key × Cel) : List UInt8 := enc p.1.length ++ p.1 ++ [b8 p.2.kind] ++ (if p.2.kind = 1 then enc p.2.text.length ++ p.2.text else fix (qb p.2.num))
def celsL (L : List (Key × Cel)) : List UInt8 := L.flatMap celL
def headF (F : Fo) : List UInt8 := Vec.layL F.H ++ enc F.time ++ enc F.wr ++ fix (maskN F.J 64) ++ fix (maskN F.R 64) ++ fix F.mark ++ enc F.L.length
/-- A fold's bytes. -/
def foldL (F : Fo) : List UInt8 := headF F ++ celsL F.L
theorem celsL_take (L : List (Key × Cel)) (j : Nat) {p : Key × Cel} (h : L[j]? = some p) : celsL (L.take (j + 1)) = celsL (L.take j) ++ celL p := by
  rw [List.take_add_one, h]
  simp [celsL]
theorem celsL_le (L : List (Key × Cel)) (j : Nat) : (celsL (L.take j)).length ≤ (celsL L).length := by
  have h : celsL L = celsL (L.take j) ++ celsL (L.drop j) := by unfold celsL; rw [← List.flatMap_append, List.take_append_drop]
  rw [h, List.length_append]; omega
theorem ok_small {F : Fo} (h : Ok F) : Vec.Small F.H := ⟨by rw [h.h]; exact Nat.le_refl _, fun i => by
  unfold Vec.at_
  rw [List.getD_eq_getElem?_getD]
  cases hi : F.H[i]? with
  | none => exact Nat.zero_le _
  | some x => have := h.hs x (List.mem_of_getElem? hi); show x ≤ 9223372036854775807; omega⟩
theorem sees_ofV {w : World} {S : List Nat} {A : Option Addr} {l : List UInt8} (h : SeesV w S A (cs l)) : Sees w A l.length l :=
  ⟨rfl, fun hn => by
    obtain ⟨b, o, hA, _, hc⟩ := h (fun e => by rw [← cs_length, e] at hn; simp at hn)
    exact ⟨b, o, hA, fun j u hu => hc j _ (cs_get hu)⟩⟩
/-- A row of bytes that the call owns. -/
def GivesR (w : World) (l : List UInt8) (e : Ending) (w' : World) : Prop := ∃ A c, e = .returned (.slice A l.length c) ∧ w'.ownsRow w.heap.size 5 1 (.slice A l.length c) l.length (cs l) ∧ Below w.heap.size w w'
theorem gives_of {n : Nat} {l : List UInt8} {w : World} {e : Ending} {w' : World} (h : New w.heap.size n l w e w') : GivesR w l e w' := by
  obtain ⟨A, c, rfl, ho, hb⟩ := h
  have hn : n = l.length := by have := ho.1; rw [cs_length, Nat.mul_one] at this; exact this.symm
  subst hn
  exact ⟨A, c, rfl, ho, hb⟩
def PRowE (l : List UInt8) : Facts.Pred := ⟨fun v w => ∃ A c, v = .slice A l.length c ∧ Sees w A l.length l, fun _ _ _ ⟨A, c, h, hs⟩ hb => ⟨A, c, h, hs.below hb⟩⟩
def POwnE (base : Nat) (l : List UInt8) : Facts.Pred := ⟨fun v w => ∃ A c, v = .slice A l.length c ∧ w.ownsRow base 5 1 (.slice A l.length c) l.length (cs l), fun _ _ _ ⟨A, c, h, ho⟩ hb => ⟨A, c, h, Own.below ho hb (Nat.le_refl _)⟩⟩
theorem b8_toNat {K : Nat} (h : K < 256) : ((b8 K).toNat : Int) = (K : Int) := by
  unfold b8
  rw [UInt8.toNat_ofNat_of_lt' (by exact h)]
theorem run_conv (key : ByteArray) (W : World) : (convert 9 29 (.string key)).run Tryz.prog W = .ok (.slice (some ⟨W.heap.size, 0, none⟩) key.size (grownCap W key.size 0 5)) (Lib.bytesWorld W 5 key) :=
  Lib.run_convert_string_bytes (P := Tryz.prog) W 9 29 5 key Tryz.underlying9 Tryz.underlying29 Tryz.underlying5
theorem sees_key {W : World} {key : ByteArray} {A : Option Addr} {ky : List UInt8} (hk : key.data.toList = ky) (h : Sees W A key.size key.data.toList) : Sees W A ky.length ky := by
  subst hk
  have e : key.size = key.data.toList.length := by simp
  rw [e] at h
  exact h

section
variable {La Ja Ra Ha : Option Addr} {lc Jc Rc Hc T W0 M : Nat} {L : List (Key × RC)} {F : Fo} {S : List Nat}
theorem rlay (A : Option Addr) (c : Nat) (l : List UInt8) (x : Int) (w : World) (hs : Sees w A l.length l) (hn : l.length ≤ 1000000000) (hx0 : 0 ≤ x) (hx : x < 18446744073709551616) :
    Calls Tryz.prog 55 #[.slice A l.length c, .int .u64 x] w (GivesR w (l ++ enc x.toNat)) := (refLay_any A _ c l x w hs hn hx0 hx).mono fun _ _ h => gives_of h
theorem rfixed (A : Option Addr) (c : Nat) (l : List UInt8) (x : Int) (w : World) (hs : Sees w A l.length l) (hn : l.length ≤ 1000000000) (hx0 : 0 ≤ x) (hx : x < 18446744073709551616) :
    Calls Tryz.prog 56 #[.slice A l.length c, .int .u64 x] w (GivesR w (l ++ fix x.toNat)) := (refFixed_any A _ c l x w hs hn hx0 hx).mono fun _ _ h => gives_of h
theorem rtext (A : Option Addr) (c : Nat) (l : List UInt8) (Q : Option Addr) (k : Nat) (q : List UInt8) (w : World) (hs : Sees w A l.length l) (hq : Sees w Q q.length q) (hn : l.length ≤ 1000000000) (hm : q.length ≤ 1000000000) :
    Calls Tryz.prog 58 #[.slice A l.length c, .slice Q q.length k] w (GivesR w (l ++ enc q.length ++ q)) := (refText_any A _ c l Q _ k q w hs hq hn hm).mono fun _ _ h => gives_of h

set_option maxRecDepth 100000 in
set_option maxHeartbeats 4000000 in
theorem refEnc_any (w : World) (r : RefAt w S La lc L ⟨Ja, Jc, Ra, Rc, Ha, Hc, T, W0, M⟩ F) (ok : Ok F) (hf : (foldL F).length ≤ 100000000) :
    Calls Tryz.prog 23 #[.agg (rv La L.length lc ⟨Ja, Jc, Ra, Rc, Ha, Hc, T, W0, M⟩)] w (GivesR w (foldL F)) := by
  obtain ⟨i, hi, hz, hsz, hby⟩ := info_parts info8
  have hT : T = F.time := r.T
  have hW : W0 = F.wr := r.W
  have hM : M = F.mark := r.M
  have hT64 : T < 18446744073709551616 := by rw [hT]; have := ok.time; omega
  have hW64 : W0 ≤ 63 := by rw [hW]; exact ok.wr
  have hM64 : M < 18446744073709551616 := by rw [hM]; exact ok.mark
  have hLl : L.length = F.L.length := by rw [← r.cells, mapV_len]
  obtain ⟨n', hnl⟩ : ∃ n', n' = L.length := ⟨_, rfl⟩
  unfold rv
  rw [← hnl]
  simp only []
  obtain ⟨B, hB⟩ : ∃ B, B = w.heap.size := ⟨_, rfl⟩
  obtain ⟨u, hu⟩ : ∃ u, u = w.alloc (.cells #[.slice La n' lc, .slice Ja 64 Jc, .slice Ra 64 Rc, .slice Ha 64 Hc, .int .u64 (T : Int), .int .i64 (W0 : Int), .int .u64 (M : Int)] 60) := ⟨_, rfl⟩
  have bu : Below w.heap.size w u := by rw [hu]; exact (Below.refl _ _).alloc (Nat.le_refl _) _
  have hus : u.heap.size = B + 1 := by rw [hu, hB]; simp
  have gB : u.heap[B]? = some (.cells #[.slice La n' lc, .slice Ja 64 Jc, .slice Ra 64 Rc, .slice Ha 64 Hc, .int .u64 (T : Int), .int .i64 (W0 : Int), .int .u64 (M : Int)] 60 (0, 0)) := by rw [hu, hB]; exact heap_alloc_new w _
  have CELLS := Lib.hid (fun (W : World) (hW : Below u.heap.size u W) => (rv_cells (h := ⟨Ja, Jc, Ra, Rc, Ha, Hc, T, W0, M⟩) ((hW.block B (by omega)).trans gB) : (W.cell? ⟨B, 0, none⟩ = some (.slice La n' lc) ∧ W.cell? ⟨B, 1, none⟩ = some (.slice Ja 64 Jc) ∧ W.cell? ⟨B, 2, none⟩ = some (.slice Ra 64 Rc) ∧ W.cell? ⟨B, 3, none⟩ = some (.slice Ha 64 Hc) ∧ W.cell? ⟨B, 4, none⟩ = some (.int .u64 (T : Int)) ∧ W.cell? ⟨B, 5, none⟩ = some (.int .i64 (W0 : Int)) ∧ W.cell? ⟨B, 6, none⟩ = some (.int .u64 (M : Int)))))
  obtain ⟨l0, hl0⟩ : ∃ l, l = Vec.layL F.H := ⟨_, rfl⟩
  obtain ⟨l1, hl1⟩ : ∃ l, l = l0 ++ enc T := ⟨_, rfl⟩
  obtain ⟨l2, hl2⟩ : ∃ l, l = l1 ++ enc W0 := ⟨_, rfl⟩
  obtain ⟨jm, hjm⟩ : ∃ m, m = maskN F.J 64 := ⟨_, rfl⟩
  obtain ⟨rm, hrm⟩ : ∃ m, m = maskN F.R 64 := ⟨_, rfl⟩
  have hj64 : jm < 18446744073709551616 := by rw [hjm]; exact maskN_lt F.J 64
  have hr64 : rm < 18446744073709551616 := by rw [hrm]; exact maskN_lt F.R 64
  obtain ⟨l3, hl3⟩ : ∃ l, l = l2 ++ fix jm := ⟨_, rfl⟩
  obtain ⟨l4, hl4⟩ : ∃ l, l = l3 ++ fix rm := ⟨_, rfl⟩
  obtain ⟨l5, hl5⟩ : ∃ l, l = l4 ++ fix M := ⟨_, rfl⟩
  obtain ⟨l6, hl6⟩ : ∃ l, l = l5 ++ enc n' := ⟨_, rfl⟩
  have hhead : l6 = headF F := by
    rw [hl6, hl5, hl4, hl3, hl2, hl1, hl0, hjm, hrm, hT, hW, hM, hnl, hLl]; rfl
  have hle6 : l6.length ≤ 100000000 := by
    have : (foldL F).length = (headF F).length + (celsL F.L).length := by unfold foldL; rw [List.length_append]
    rw [hhead]; omega
  have hle5 : l5.length ≤ 100000000 := by have := congrArg List.length hl6; rw [List.length_append] at this; omega
  have hle4 : l4.length ≤ 100000000 := by have := congrArg List.length hl5; rw [List.length_append] at this; omega
  have hle3 : l3.length ≤ 100000000 := by have := congrArg List.length hl4; rw [List.length_append] at this; omega
  have hle2 : l2.length ≤ 100000000 := by have := congrArg List.length hl3; rw [List.length_append] at this; omega
  have hle1 : l1.length ≤ 100000000 := by have := congrArg List.length hl2; rw [List.length_append] at this; omega
  have hle0 : l0.length ≤ 100000000 := by have := congrArg List.length hl1; rw [List.length_append] at this; omega
  have hn6 : n' ≤ 100000000 := by
    have : (celsL F.L).length ≤ 100000000 := by have h : (foldL F).length = (headF F).length + (celsL F.L).length := by unfold foldL; rw [List.length_append]
                                                omega
    have h2 : F.L.length ≤ (celsL F.L).length := by
      unfold celsL
      induction F.L with
      | nil => simp
      | cons p q ih => rw [List.flatMap_cons, List.length_append, List.length_cons]; have : 1 ≤ (celL p).length := by unfold celL; simp only [List.length_append, List.length_cons]; omega
                       omega
    omega
  have LV := Lib.hid (fun (W : World) (hW : Below u.heap.size u W) => (by
    have sH : SeesV W S Ha (Vec.us F.H) := (r.H.below bu).below hW
    have sU : Vec.SeesU W Ha 64 F.H := ⟨ok.h, fun hne => by
      obtain ⟨b, o, hA, _, hc⟩ := sH (by intro e; have := congrArg List.length e; rw [Vec.us_length, ok.h] at this; simp at this)
      exact ⟨b, o, hA, fun j x hj => hc j _ (by unfold Vec.us; rw [List.getElem?_map, hj]; rfl)⟩⟩
    refine (Vec.refLayV_any none Ha 0 0 64 Hc [] F.H W (Sees.nil _ _) sU (ok_small ok) (by omega)).mono ?_
    intro e w' h
    have := gives_of h
    rw [List.nil_append, ← hl0] at this
    exact this : Calls Tryz.prog 54 #[.slice none 0 0, .slice Ha 64 Hc] W (GivesR W l0)))
  have NJ := Lib.hid (fun (W : World) (hW : Below u.heap.size u W) => (by
    have := nodes_any Ja Jc F.J S W ((r.J.below bu).below hW) ok.j
    rw [← hjm] at this
    exact this : Calls Tryz.prog 57 #[.slice Ja 64 Jc] W fun e w' => e = .returned (.int .u64 (jm : Int)) ∧ w' = W))
  have NR := Lib.hid (fun (W : World) (hW : Below u.heap.size u W) => (by
    have := nodes_any Ra Rc F.R S W ((r.R.below bu).below hW) ok.r
    rw [← hrm] at this
    exact this : Calls Tryz.prog 57 #[.slice Ra 64 Rc] W fun e w' => e = .returned (.int .u64 (rm : Int)) ∧ w' = W))
  have L1 := Lib.hid (fun (W : World) A c (hs : Sees W A l0.length l0) => (by have := rlay A c l0 (T : Int) W hs (by omega) (by omega) (by omega); rw [Int.toNat_natCast, ← hl1] at this; exact this : Calls Tryz.prog 55 #[.slice A l0.length c, .int .u64 (T : Int)] W (GivesR W l1)))
  have L2 := Lib.hid (fun (W : World) A c (hs : Sees W A l1.length l1) => (by have := rlay A c l1 (W0 : Int) W hs (by omega) (by omega) (by omega); rw [Int.toNat_natCast, ← hl2] at this; exact this : Calls Tryz.prog 55 #[.slice A l1.length c, .int .u64 (W0 : Int)] W (GivesR W l2)))
  have L3 := Lib.hid (fun (W : World) A c (hs : Sees W A l2.length l2) => (by have := rfixed A c l2 (jm : Int) W hs (by omega) (by omega) (by omega); rw [Int.toNat_natCast, ← hl3] at this; exact this : Calls Tryz.prog 56 #[.slice A l2.length c, .int .u64 (jm : Int)] W (GivesR W l3)))
  have L4 := Lib.hid (fun (W : World) A c (hs : Sees W A l3.length l3) => (by have := rfixed A c l3 (rm : Int) W hs (by omega) (by omega) (by omega); rw [Int.toNat_natCast, ← hl4] at this; exact this : Calls Tryz.prog 56 #[.slice A l3.length c, .int .u64 (rm : Int)] W (GivesR W l4)))
  have L5 := Lib.hid (fun (W : World) A c (hs : Sees W A l4.length l4) => (by have := rfixed A c l4 (M : Int) W hs (by omega) (by omega) (by omega); rw [Int.toNat_natCast, ← hl5] at this; exact this : Calls Tryz.prog 56 #[.slice A l4.length c, .int .u64 (M : Int)] W (GivesR W l5)))
  have L6 := Lib.hid (fun (W : World) A c (hs : Sees W A l5.length l5) => (by have := rlay A c l5 (n' : Int) W hs (by omega) (by omega) (by omega); rw [Int.toNat_natCast, ← hl6] at this; exact this : Calls Tryz.prog 55 #[.slice A l5.length c, .int .u64 (n' : Int)] W (GivesR W l6)))
  have HHEAD := Lib.hid (And.intro hhead hle6)
  have HR := Lib.hid (r.below bu)
  have HOK := Lib.hid ok
  have HF := Lib.hid hf
  have HN := Lib.hid (And.intro hnl hn6)
  have HU := Lib.hid hu
  have HB := Lib.hid hB
  have HUS := Lib.hid hus
  have BU := Lib.hid bu
  have hWu : IntKind.u64.wrap (W0 : Int) = (W0 : Int) := wrap_in W0 (by omega)
  have hnu : IntKind.u64.wrap (n' : Int) = (n' : Int) := wrap_in n' (by omega)
  clear hl0 hl1 hl2 hl3 hl4 hl5 hl6 hjm hrm hhead hle0 hle1 hle2 hle3 hle4 hle5 hle6 hT hW hM hLl hnl hj64 hr64 r ok hf gB bu hn6 hu hB
  go_enter Tryz.func23, Tryz.ntmps23
  obtain ⟨c0, c1, c2, c3, c4, c5, c6⟩ := CELLS.out u (Below.refl _ _)
  go_upto_region 1 with fail
  rw [← HU.out, ← HB.out]
  go_wp2_with fail
  refine (LV.out _ (Below.refl _ _)).mono ?_
  rintro e w1 ⟨A1, k1, rfl, own1, hb1⟩
  have B1 := Lib.hid hb1
  have S1 := Lib.hid (Sees.of_own own1)
  clear own1 hb1 c0 c1 c2 c3 c4 c5 c6
  go_wp2_with fail
  have HC := Lib.hid (fun (W : World) (hW : Below w1.drew.heap.size w1.drew W) => (⟨CELLS.out W (B1.out.trans (((Below.refl _ _).drew.trans hW).mono B1.out.size)), S1.out.below ((Below.refl _ _).drew.trans hW)⟩ : (W.cell? ⟨B, 0, none⟩ = some (.slice La n' lc) ∧ W.cell? ⟨B, 1, none⟩ = some (.slice Ja 64 Jc) ∧ W.cell? ⟨B, 2, none⟩ = some (.slice Ra 64 Rc) ∧ W.cell? ⟨B, 3, none⟩ = some (.slice Ha 64 Hc) ∧ W.cell? ⟨B, 4, none⟩ = some (.int .u64 (T : Int)) ∧ W.cell? ⟨B, 5, none⟩ = some (.int .i64 (W0 : Int)) ∧ W.cell? ⟨B, 6, none⟩ = some (.int .u64 (M : Int))) ∧ Sees W A1 l0.length l0))
  refine Facts.wp_region_preds (n := 85) (by kernel_rfl) (by kernel_rfl) rfl [Facts.Pred.is (.slice A1 l0.length k1), Facts.Pred.is (.pointer (some ⟨B, 4, none⟩)), Facts.Pred.is (.pointer (some ⟨B, 4, none⟩)), Facts.Pred.is (.int .u64 (T : Int)), PRowE (l1), Facts.Pred.is (.pointer (some ⟨B, 4, none⟩)), Facts.Pred.is (.pointer (some ⟨B, 5, none⟩)), Facts.Pred.is (.int .i64 (W0 : Int)), Facts.Pred.is (.int .u64 (W0 : Int)), PRowE (l2), PRowE (l2)] ?_ ?_
  · refine ⟨?_, ?_, ?_, ?_, ?_, ?_, ?_, ?_, ?_, ?_, ?_, trivial⟩
    · refine Facts.step_is (.slice A1 l0.length k1) fun a W hR hold hnew => ?_
      have f3 : a.tmps.getD 3 undef = .slice A1 l0.length k1 := hold 3 (by kernel_rfl)
      refine ⟨Facts.wanted_free rfl, ?_, fun _ => rfl⟩; simp [go_sem, Act.eval, f3]
    · refine Facts.step_is (.pointer (some ⟨B, 4, none⟩)) fun a W hR hold hnew => ?_
      have f1 : a.tmps.getD 1 undef = .pointer (some ⟨B, 0, none⟩) := hold 1 (by kernel_rfl)
      refine ⟨Facts.wanted_free rfl, ?_, fun _ => rfl⟩; simp [go_sem, Act.eval, f1]
    · refine Facts.step_is (.pointer (some ⟨B, 4, none⟩)) fun a W hR hold hnew => ?_
      have f9 : a.tmps.getD 9 undef = .pointer (some ⟨B, 4, none⟩) := hnew 1 9 (by kernel_rfl)
      refine ⟨Facts.wanted_free rfl, ?_, fun _ => rfl⟩; simp [go_sem, Act.eval, f9]
    · refine Facts.step_is (.int .u64 (T : Int)) fun a W hR hold hnew => ?_
      have f10 : a.tmps.getD 10 undef = .pointer (some ⟨B, 4, none⟩) := hnew 2 10 (by kernel_rfl)
      have q := (HC.out W hR).1.2.2.2.2.1
      refine ⟨Facts.wanted_free rfl, ?_, fun _ => rfl⟩; simp [go_sem, Act.eval, f10, q]
    · refine Facts.step_call fun a W hR hold hnew => ?_
      have f8 : a.tmps.getD 8 undef = .slice A1 l0.length k1 := hnew 0 8 (by kernel_rfl)
      have f11 : a.tmps.getD 11 undef = .int .u64 (T : Int) := hnew 3 11 (by kernel_rfl)
      have q := (HC.out W hR).2
      refine ⟨Facts.wanted_free rfl, 55, #[.slice A1 l0.length k1, .int .u64 (T : Int)], by simp [go_sem, Act.eval, f8, f11], ?_⟩
      refine (L1.out W A1 k1 q).mono ?_
      rintro e w8 h8
      obtain ⟨A8, c8, rfl, own8, hb8⟩ := h8
      exact ⟨_, rfl, hb8, A8, c8, rfl, Sees.of_own own8⟩
    · refine Facts.step_is (.pointer (some ⟨B, 4, none⟩)) fun a W hR hold hnew => ?_
      have f1 : a.tmps.getD 1 undef = .pointer (some ⟨B, 0, none⟩) := hold 1 (by kernel_rfl)
      refine ⟨Facts.wanted_free rfl, ?_, fun _ => rfl⟩; simp [go_sem, Act.eval, f1]
    · refine Facts.step_is (.pointer (some ⟨B, 5, none⟩)) fun a W hR hold hnew => ?_
      have f13 : a.tmps.getD 13 undef = .pointer (some ⟨B, 4, none⟩) := hnew 5 13 (by kernel_rfl)
      refine ⟨Facts.wanted_free rfl, ?_, fun _ => rfl⟩; simp [go_sem, Act.eval, f13]
    · refine Facts.step_is (.int .i64 (W0 : Int)) fun a W hR hold hnew => ?_
      have f14 : a.tmps.getD 14 undef = .pointer (some ⟨B, 5, none⟩) := hnew 6 14 (by kernel_rfl)
      have q := (HC.out W hR).1.2.2.2.2.2.1
      refine ⟨Facts.wanted_free rfl, ?_, fun _ => rfl⟩; simp [go_sem, Act.eval, f14, q]
    · refine Facts.step_is (.int .u64 (W0 : Int)) fun a W hR hold hnew => ?_
      have f15 : a.tmps.getD 15 undef = .int .i64 (W0 : Int) := hnew 7 15 (by kernel_rfl)
      refine ⟨Facts.wanted_free rfl, ?_, fun _ => rfl⟩; simp [go_sem, Act.eval, f15, hWu]
    · refine Facts.step_call fun a W hR hold hnew => ?_
      have h12 : ∃ A' c', a.tmps.getD 12 undef = .slice A' (l1).length c' ∧ Sees W A' (l1).length (l1) := hnew 4 12 (by kernel_rfl)
      obtain ⟨A12, c12, f12, s12⟩ := h12
      have f16 : a.tmps.getD 16 undef = .int .u64 (W0 : Int) := hnew 8 16 (by kernel_rfl)
      refine ⟨Facts.wanted_free rfl, 55, #[.slice A12 l1.length c12, .int .u64 (W0 : Int)], by simp [go_sem, Act.eval, f12, f16], ?_⟩
      refine (L2.out W A12 c12 s12).mono ?_
      rintro e w8 h8
      obtain ⟨A8, c8, rfl, own8, hb8⟩ := h8
      exact ⟨_, rfl, hb8, A8, c8, rfl, Sees.of_own own8⟩
    · refine Facts.step_some fun a W hR hold hnew => ?_
      have h17 : ∃ A' c', a.tmps.getD 17 undef = .slice A' (l2).length c' ∧ Sees W A' (l2).length (l2) := hnew 9 17 (by kernel_rfl)
      obtain ⟨A17, c17, f17, s17⟩ := h17
      exact ⟨Facts.wanted_free rfl, .slice A17 l2.length c17, by simp [go_sem, Act.eval, f17], A17, c17, rfl, s17⟩
  · intro a w2 hR' hsize hdef hnew hold
    have h3 : ∃ A' c', a.tmps.getD 3 undef = .slice A' (l2).length c' ∧ Sees w2 A' (l2).length (l2) := hnew 10 3 (by kernel_rfl)
    obtain ⟨A3, c3, f3, s3⟩ := h3
    have f1 : a.tmps.getD 1 undef = Value.pointer (some ⟨B, 0, none⟩) := hold 1 (Facts.not_dst (by kernel_rfl))
    have f2 : a.tmps.getD 2 undef = Value.slice none 0 0 := hold 2 (Facts.not_dst (by kernel_rfl))
    obtain ⟨tm, df⟩ := a
    simp only [] at hdef hsize f1 f2 f3
    obtain ⟨xq, hxq, hlit⟩ := Facts.lits tm hsize Facts.idx85 Facts.idx85_eq
    rw [hxq] at f1 f2 f3
    simp only [Facts.idx85, List.map_cons, List.map_nil, f1, f2, f3] at hlit
    clear f1 f2 f3 hsize hnew hold hxq
    subst hlit
    subst hdef
    try simp only []
    have B2 := Lib.hid (B1.out.trans (((Below.refl _ _).drew.trans hR').mono B1.out.size))
    have S2 := Lib.hid s3
    clear hR' s3 HC
    go_wp2_with fail
    have HC := Lib.hid (fun (W : World) (hW : Below w2.drew.heap.size w2.drew W) => (⟨CELLS.out W (B2.out.trans (((Below.refl _ _).drew.trans hW).mono B2.out.size)), S2.out.below ((Below.refl _ _).drew.trans hW), B2.out.trans (((Below.refl _ _).drew.trans hW).mono B2.out.size)⟩ : (W.cell? ⟨B, 0, none⟩ = some (.slice La n' lc) ∧ W.cell? ⟨B, 1, none⟩ = some (.slice Ja 64 Jc) ∧ W.cell? ⟨B, 2, none⟩ = some (.slice Ra 64 Rc) ∧ W.cell? ⟨B, 3, none⟩ = some (.slice Ha 64 Hc) ∧ W.cell? ⟨B, 4, none⟩ = some (.int .u64 (T : Int)) ∧ W.cell? ⟨B, 5, none⟩ = some (.int .i64 (W0 : Int)) ∧ W.cell? ⟨B, 6, none⟩ = some (.int .u64 (M : Int))) ∧ Sees W A3 l2.length l2 ∧ Below u.heap.size u W))
    refine Facts.wp_region_preds (n := 85) (by kernel_rfl) (by kernel_rfl) rfl [Facts.Pred.is (.slice A3 l2.length c3), Facts.Pred.is (.pointer (some ⟨B, 1, none⟩)), Facts.Pred.is (.slice Ja 64 Jc), Facts.Pred.is (.int .u64 (jm : Int)), PRowE (l3), Facts.Pred.is (.pointer (some ⟨B, 2, none⟩)), Facts.Pred.is (.slice Ra 64 Rc), Facts.Pred.is (.int .u64 (rm : Int)), PRowE (l4), Facts.Pred.is (.pointer (some ⟨B, 6, none⟩)), Facts.Pred.is (.int .u64 (M : Int)), PRowE (l5), PRowE (l5)] ?_ ?_
    · refine ⟨?_, ?_, ?_, ?_, ?_, ?_, ?_, ?_, ?_, ?_, ?_, ?_, ?_, trivial⟩
      · refine Facts.step_is (.slice A3 l2.length c3) fun a W hR hold hnew => ?_
        have f3 : a.tmps.getD 3 undef = .slice A3 l2.length c3 := hold 3 (by kernel_rfl)
        refine ⟨Facts.wanted_free rfl, ?_, fun _ => rfl⟩; simp [go_sem, Act.eval, f3]
      · refine Facts.step_is (.pointer (some ⟨B, 1, none⟩)) fun a W hR hold hnew => ?_
        have f1 : a.tmps.getD 1 undef = .pointer (some ⟨B, 0, none⟩) := hold 1 (by kernel_rfl)
        refine ⟨Facts.wanted_free rfl, ?_, fun _ => rfl⟩; simp [go_sem, Act.eval, f1]
      · refine Facts.step_is (.slice Ja 64 Jc) fun a W hR hold hnew => ?_
        have f19 : a.tmps.getD 19 undef = .pointer (some ⟨B, 1, none⟩) := hnew 1 19 (by kernel_rfl)
        have q := (HC.out W hR).1.2.1
        refine ⟨Facts.wanted_free rfl, ?_, fun _ => rfl⟩; simp [go_sem, Act.eval, f19, q]
      · refine Facts.step_call fun a W hR hold hnew => ?_
        have f20 : a.tmps.getD 20 undef = .slice Ja 64 Jc := hnew 2 20 (by kernel_rfl)
        refine ⟨Facts.wanted_free rfl, 57, #[.slice Ja 64 Jc], by simp [go_sem, Act.eval, f20], ?_⟩
        refine (NJ.out W (HC.out W hR).2.2).mono ?_
        rintro e w8 ⟨rfl, rfl⟩
        exact ⟨_, rfl, Below.refl _ _, rfl⟩
      · refine Facts.step_call fun a W hR hold hnew => ?_
        have f18 : a.tmps.getD 18 undef = .slice A3 l2.length c3 := hnew 0 18 (by kernel_rfl)
        have f21 : a.tmps.getD 21 undef = .int .u64 (jm : Int) := hnew 3 21 (by kernel_rfl)
        have q := (HC.out W hR).2.1
        refine ⟨Facts.wanted_free rfl, 56, #[.slice A3 l2.length c3, .int .u64 (jm : Int)], by simp [go_sem, Act.eval, f18, f21], ?_⟩
        refine (L3.out W A3 c3 q).mono ?_
        rintro e w8 h8
        obtain ⟨A8, c8, rfl, own8, hb8⟩ := h8
        exact ⟨_, rfl, hb8, A8, c8, rfl, Sees.of_own own8⟩
      · refine Facts.step_is (.pointer (some ⟨B, 2, none⟩)) fun a W hR hold hnew => ?_
        have f1 : a.tmps.getD 1 undef = .pointer (some ⟨B, 0, none⟩) := hold 1 (by kernel_rfl)
        refine ⟨Facts.wanted_free rfl, ?_, fun _ => rfl⟩; simp [go_sem, Act.eval, f1]
      · refine Facts.step_is (.slice Ra 64 Rc) fun a W hR hold hnew => ?_
        have f23 : a.tmps.getD 23 undef = .pointer (some ⟨B, 2, none⟩) := hnew 5 23 (by kernel_rfl)
        have q := (HC.out W hR).1.2.2.1
        refine ⟨Facts.wanted_free rfl, ?_, fun _ => rfl⟩; simp [go_sem, Act.eval, f23, q]
      · refine Facts.step_call fun a W hR hold hnew => ?_
        have f24 : a.tmps.getD 24 undef = .slice Ra 64 Rc := hnew 6 24 (by kernel_rfl)
        refine ⟨Facts.wanted_free rfl, 57, #[.slice Ra 64 Rc], by simp [go_sem, Act.eval, f24], ?_⟩
        refine (NR.out W (HC.out W hR).2.2).mono ?_
        rintro e w8 ⟨rfl, rfl⟩
        exact ⟨_, rfl, Below.refl _ _, rfl⟩
      · refine Facts.step_call fun a W hR hold hnew => ?_
        have h22 : ∃ A' c', a.tmps.getD 22 undef = .slice A' (l3).length c' ∧ Sees W A' (l3).length (l3) := hnew 4 22 (by kernel_rfl)
        obtain ⟨A22, c22, f22, s22⟩ := h22
        have f25 : a.tmps.getD 25 undef = .int .u64 (rm : Int) := hnew 7 25 (by kernel_rfl)
        refine ⟨Facts.wanted_free rfl, 56, #[.slice A22 l3.length c22, .int .u64 (rm : Int)], by simp [go_sem, Act.eval, f22, f25], ?_⟩
        refine (L4.out W A22 c22 s22).mono ?_
        rintro e w8 h8
        obtain ⟨A8, c8, rfl, own8, hb8⟩ := h8
        exact ⟨_, rfl, hb8, A8, c8, rfl, Sees.of_own own8⟩
      · refine Facts.step_is (.pointer (some ⟨B, 6, none⟩)) fun a W hR hold hnew => ?_
        have f1 : a.tmps.getD 1 undef = .pointer (some ⟨B, 0, none⟩) := hold 1 (by kernel_rfl)
        refine ⟨Facts.wanted_free rfl, ?_, fun _ => rfl⟩; simp [go_sem, Act.eval, f1]
      · refine Facts.step_is (.int .u64 (M : Int)) fun a W hR hold hnew => ?_
        have f27 : a.tmps.getD 27 undef = .pointer (some ⟨B, 6, none⟩) := hnew 9 27 (by kernel_rfl)
        have q := (HC.out W hR).1.2.2.2.2.2.2
        refine ⟨Facts.wanted_free rfl, ?_, fun _ => rfl⟩; simp [go_sem, Act.eval, f27, q]
      · refine Facts.step_call fun a W hR hold hnew => ?_
        have h26 : ∃ A' c', a.tmps.getD 26 undef = .slice A' (l4).length c' ∧ Sees W A' (l4).length (l4) := hnew 8 26 (by kernel_rfl)
        obtain ⟨A26, c26, f26, s26⟩ := h26
        have f28 : a.tmps.getD 28 undef = .int .u64 (M : Int) := hnew 10 28 (by kernel_rfl)
        refine ⟨Facts.wanted_free rfl, 56, #[.slice A26 l4.length c26, .int .u64 (M : Int)], by simp [go_sem, Act.eval, f26, f28], ?_⟩
        refine (L5.out W A26 c26 s26).mono ?_
        rintro e w8 h8
        obtain ⟨A8, c8, rfl, own8, hb8⟩ := h8
        exact ⟨_, rfl, hb8, A8, c8, rfl, Sees.of_own own8⟩
      · refine Facts.step_some fun a W hR hold hnew => ?_
        have h29 : ∃ A' c', a.tmps.getD 29 undef = .slice A' (l5).length c' ∧ Sees W A' (l5).length (l5) := hnew 11 29 (by kernel_rfl)
        obtain ⟨A29, c29, f29, s29⟩ := h29
        exact ⟨Facts.wanted_free rfl, .slice A29 l5.length c29, by simp [go_sem, Act.eval, f29], A29, c29, rfl, s29⟩
    · intro a w3 hR' hsize hdef hnew hold
      have h3 : ∃ A' c', a.tmps.getD 3 undef = .slice A' (l5).length c' ∧ Sees w3 A' (l5).length (l5) := hnew 12 3 (by kernel_rfl)
      obtain ⟨A3, c3, f3, s3⟩ := h3
      have f1 : a.tmps.getD 1 undef = Value.pointer (some ⟨B, 0, none⟩) := hold 1 (Facts.not_dst (by kernel_rfl))
      have f2 : a.tmps.getD 2 undef = Value.slice none 0 0 := hold 2 (Facts.not_dst (by kernel_rfl))
      obtain ⟨tm, df⟩ := a
      simp only [] at hdef hsize f1 f2 f3
      obtain ⟨xq, hxq, hlit⟩ := Facts.lits tm hsize Facts.idx85 Facts.idx85_eq
      rw [hxq] at f1 f2 f3
      simp only [Facts.idx85, List.map_cons, List.map_nil, f1, f2, f3] at hlit
      clear f1 f2 f3 hsize hnew hold hxq
      subst hlit
      subst hdef
      try simp only []
      have B3 := Lib.hid (B2.out.trans (((Below.refl _ _).drew.trans hR').mono B2.out.size))
      have S3 := Lib.hid s3
      clear hR' s3 HC
      obtain ⟨c0, c1, c2, c3, c4, c5, c6⟩ := CELLS.out w3 B3.out
      go_wp2_with fail
      refine (L6.out _ _ _ S3.out).mono ?_
      rintro e w4 ⟨A4, k4, rfl, own4, hb4⟩
      have B4 := Lib.hid (B3.out.trans (hb4.mono B3.out.size))
      have OWN4 := Lib.hid (Own.lower (base' := B + 1) own4 (by have h1 := B3.out.size; have h2 := HUS.out; omega))
      clear own4 hb4 c0 c1 c2 c3 c4 c5 c6 L1 L2 L3 L4 L5 L6 LV NJ NR
      go_wp2_with fail
      go_loopw [3, 4] (fun x y wr => ∃ (P : Option Addr) (c j : Nat) (l : List UInt8), x = .slice P l.length c ∧ y = .int .i64 (j : Int) ∧ j ≤ n' ∧ Hid (l = l6 ++ celsL (F.L.take j)) ∧ Hid (wr.ownsRow (B + 1) 5 1 (.slice P l.length c) l.length (cs l)) ∧ Hid (Below u.heap.size u wr)) (fun _ y _ => n' - (intOf y).toNat)
      case atStart => exact ⟨A4, k4, 0, l6, rfl, rfl, Nat.zero_le _, Lib.hid (by simp [celsL]), Lib.hid OWN4.out, B4⟩
      case round =>
        obtain ⟨P, c, j, l, rfl, rfl, hj, HL, HS, HB4⟩ := hrel
        obtain ⟨c0, c1, c2, c3, c4, c5, c6⟩ := CELLS.out wr HB4.out
        by_cases hlt : j < n'
        · have hd : decide ((j : Int) < (n' : Int)) = true := decide_eq_true (by omega)
          obtain ⟨p, hp⟩ : ∃ p, L[j]? = some p := ⟨_, List.getElem?_eq_getElem (by rw [← HN.out.1]; exact hlt)⟩
          obtain ⟨lb, lo, hLa, -⟩ := HR.out.rows.get (rowsR_get hp (k := 0) (v := keyV p.1) (by omega) rfl)
          have LCEL := Lib.hid (fun (W : World) (hW : Below u.heap.size u W) (k : Nat) (v : Value) (hk : k < 4) (hv : (rcCells p)[k]? = some v) => (by
            obtain ⟨b, o, h1, h2⟩ := (HR.out.below hW).rows.get (rowsR_get hp (k := k) (v := v) hk hv)
            rw [hLa] at h1
            cases h1
            rw [Nat.add_assoc]
            exact h2 : W.cell? ⟨lb, lo + j * 4 + k, none⟩ = some v))
          have hpF : F.L[j]? = some (p.1, p.2.cel) := by rw [← HR.out.cells, mapV_get, hp]; rfl
          have hco := HOK.out.cel _ (List.mem_of_getElem? hpF)
          have htx := HR.out.texts p (List.mem_of_getElem? hp)
          obtain ⟨hk64, htl, _, hkind⟩ := hco
          simp only at hk64
          have hst := celsL_take F.L j hpF
          have hleT : (l6 ++ celsL (F.L.take (j + 1))).length ≤ 100000000 := by
            have := celsL_le F.L (j + 1)
            have h2 := HF.out
            unfold foldL at h2
            rw [← HHEAD.out.1, List.length_append] at h2
            rw [List.length_append]; omega
          rw [hst, ← List.append_assoc, ← HL.out] at hleT
          have hnext : ∀ l', l' = l ++ celL (p.1, p.2.cel) → l' = l6 ++ celsL (F.L.take (j + 1)) := fun l' h => by rw [h, hst, ← List.append_assoc, ← HL.out]
          obtain ⟨ky, m⟩ := p
          obtain ⟨K, A, tc, tx, nm⟩ := m
          try simp only [RC.cel] at hst
          try simp only [RC.cel] at hnext
          try simp only [RC.cel] at hleT
          try simp only [RC.cel] at hk64
          try simp only [RC.cel] at htl
          try simp only [RC.cel] at hkind
          try simp only [] at htx
          obtain ⟨key, hkey⟩ : ∃ key : ByteArray, key = ⟨ky.toArray⟩ := ⟨_, rfl⟩
          have hkd : key.data.toList = ky := by rw [hkey]
          obtain ⟨la, hla⟩ : ∃ la, la = l ++ enc ky.length ++ ky := ⟨_, rfl⟩
          obtain ⟨lb2, hlb2⟩ : ∃ lb2, lb2 = la ++ [b8 K] := ⟨_, rfl⟩
          obtain ⟨lz, hlz⟩ : ∃ lz, lz = l ++ celL (ky, ⟨K, tx, qb nm⟩) := ⟨_, rfl⟩
          have hlz2 : lz = lb2 ++ (if K = 1 then enc tx.length ++ tx else fix (qb (qb nm))) := by rw [hlz, hlb2, hla]; unfold celL; simp only [List.append_assoc]
          rw [← hlz] at hleT
          have hleB : lb2.length ≤ 100000000 := by have := congrArg List.length hlz2; rw [List.length_append] at this; omega
          have hleA : la.length ≤ 100000000 := by have := congrArg List.length hlb2; rw [List.length_append] at this; omega
          have hleL : l.length ≤ 100000000 := by have := congrArg List.length hla; rw [List.length_append, List.length_append] at this; omega
          have hnx := hnext lz hlz
          have TX := Lib.hid (fun (W : World) P' c' Q k (hs : Sees W P' l.length l) (hq : Sees W Q ky.length ky) => (by have := rtext P' c' l Q k ky W hs hq (by omega) (by omega); rw [← hla] at this; exact this : Calls Tryz.prog 58 #[.slice P' l.length c', .slice Q ky.length k] W (GivesR W la)))
          have hK256 : K < 256 := by rcases hkind with h | h <;> omega
          have HC := Lib.hid (fun (W : World) (hW : Below wr.drew.heap.size wr.drew W) => (by
            have hW2 := (Below.refl wr.heap.size wr).drew.trans hW
            have hW3 := HB4.out.trans (hW2.mono HB4.out.size)
            have k0 := LCEL.out W hW3 0 (keyV ky) (by omega) rfl
            have k1 := LCEL.out W hW3 1 (.int .u8 (K : Int)) (by omega) rfl
            unfold keyV at k0
            rw [← hkey] at k0
            have c0 := (CELLS.out W hW3).1
            rw [hLa] at c0
            exact ⟨c0, k0, k1, (Sees.of_own HS.out).below hW2, hW3⟩ : W.cell? ⟨B, 0, none⟩ = some (.slice (some ⟨lb, lo, none⟩) n' lc) ∧ W.cell? ⟨lb, lo + j * 4, none⟩ = some (.string key) ∧ W.cell? ⟨lb, lo + j * 4 + 1, none⟩ = some (.int .u8 (K : Int)) ∧ Sees W P l.length l ∧ Below u.heap.size u W))
          have HKIND := Lib.hid hkind
          have HNX := Lib.hid hnx
          have HLZ2 := Lib.hid hlz2
          have HLB2 := Lib.hid hlb2
          have HTX := Lib.hid htx
          have HTL := Lib.hid htl
          have HLE := Lib.hid (And.intro hleT hleB)
          have HKD := Lib.hid hkd
          have hks : key.size = ky.length := by rw [hkey]; show ky.toArray.size = ky.length; simp
          have HKS := Lib.hid hks
          rw [hLa] at c0
          have HLA := Lib.hid hLa
          have hij : (j : Int) < (n' : Int) := by omega
          clear hleT hleB hleA hleL hnx hnext hlz hlz2 hlb2 hla hkind htx htl hst hpF hp hLa hkey hkd hks
          go_wp2_with fail
          clear c0 c1 c2 c3 c4 c5 c6
          refine Facts.wp_region_tail 16 (n := 85) (by kernel_rfl) (by kernel_rfl) (by kernel_rfl) rfl [Facts.Pred.is (.slice P l.length c), Facts.Pred.is (.pointer (some ⟨B, 0, none⟩)), Facts.Pred.is (.slice (some ⟨lb, lo, none⟩) n' lc), Facts.Pred.is (.int .i64 (j : Int)), Facts.Pred.is (.pointer (some ⟨lb, lo + j * 4, none⟩)), Facts.Pred.is (.pointer (some ⟨lb, lo + j * 4, none⟩)), Facts.Pred.is (.string key), PRowE (ky), POwnE (B + 1) (la), Facts.Pred.is (.pointer (some ⟨B, 0, none⟩)), Facts.Pred.is (.slice (some ⟨lb, lo, none⟩) n' lc), Facts.Pred.is (.int .i64 (j : Int)), Facts.Pred.is (.pointer (some ⟨lb, lo + j * 4, none⟩)), Facts.Pred.is (.pointer (some ⟨lb, lo + j * 4 + 1, none⟩)), Facts.Pred.is (.int .u8 (K : Int)), PRowE ([b8 K])] ?_ ?_
          · refine ⟨?_, ?_, ?_, ?_, ?_, ?_, ?_, ?_, ?_, ?_, ?_, ?_, ?_, ?_, ?_, ?_, trivial⟩
            · refine Facts.step_is (.slice P l.length c) fun a W hR hold hnew => ?_
              have f3 : a.tmps.getD 3 undef = .slice P l.length c := hold 3 (by kernel_rfl)
              refine ⟨Facts.wanted_free rfl, ?_, fun _ => rfl⟩; simp [go_sem, Act.eval, f3]
            · refine Facts.step_is (.pointer (some ⟨B, 0, none⟩)) fun a W hR hold hnew => ?_
              have f1 : a.tmps.getD 1 undef = .pointer (some ⟨B, 0, none⟩) := hold 1 (by kernel_rfl)
              refine ⟨Facts.wanted_free rfl, ?_, fun _ => rfl⟩; simp [go_sem, Act.eval, f1]
            · refine Facts.step_is (.slice (some ⟨lb, lo, none⟩) n' lc) fun a W hR hold hnew => ?_
              have f44 : a.tmps.getD 44 undef = .pointer (some ⟨B, 0, none⟩) := hnew 1 44 (by kernel_rfl)
              have q := (HC.out W hR).1
              refine ⟨Facts.wanted_free rfl, ?_, fun _ => rfl⟩; simp [go_sem, Act.eval, f44, q]
            · refine Facts.step_is (.int .i64 (j : Int)) fun a W hR hold hnew => ?_
              have f4 : a.tmps.getD 4 undef = .int .i64 (j : Int) := hold 4 (by kernel_rfl)
              refine ⟨Facts.wanted_free rfl, ?_, fun _ => rfl⟩; simp [go_sem, Act.eval, f4]
            · refine Facts.step_is (.pointer (some ⟨lb, lo + j * 4, none⟩)) fun a W hR hold hnew => ?_
              have f45 : a.tmps.getD 45 undef = .slice (some ⟨lb, lo, none⟩) n' lc := hnew 2 45 (by kernel_rfl)
              have f46 : a.tmps.getD 46 undef = .int .i64 (j : Int) := hnew 3 46 (by kernel_rfl)
              refine ⟨Facts.wanted_free rfl, ?_, fun _ => rfl⟩; simp [go_sem, Act.eval, f45, f46, hij]
            · refine Facts.step_is (.pointer (some ⟨lb, lo + j * 4, none⟩)) fun a W hR hold hnew => ?_
              have f47 : a.tmps.getD 47 undef = .pointer (some ⟨lb, lo + j * 4, none⟩) := hnew 4 47 (by kernel_rfl)
              refine ⟨Facts.wanted_free rfl, ?_, fun _ => rfl⟩; simp [go_sem, Act.eval, f47]
            · refine Facts.step_is (.string key) fun a W hR hold hnew => ?_
              have f48 : a.tmps.getD 48 undef = .pointer (some ⟨lb, lo + j * 4, none⟩) := hnew 5 48 (by kernel_rfl)
              have q := (HC.out W hR).2.1
              refine ⟨Facts.wanted_free rfl, ?_, fun _ => rfl⟩; simp [go_sem, Act.eval, f48, q]
            · refine Facts.step_new fun a W hR hold hnew => ?_
              have f49 : a.tmps.getD 49 undef = .string key := hnew 6 49 (by kernel_rfl)
              have hs := sees_key HKD.out (sees_bytes W 5 key)
              have hrun := run_conv key W
              rw [HKS.out] at hrun
              exact ⟨Facts.wanted_free rfl, .slice (some ⟨W.heap.size, 0, none⟩) ky.length (grownCap W ky.length 0 5), Lib.bytesWorld W 5 key, by simp [go_sem, Act.eval, f49, hrun], below_bytes W 5 key, _, _, rfl, hs⟩
            · refine Facts.step_call fun a W hR hold hnew => ?_
              have f43 : a.tmps.getD 43 undef = .slice P l.length c := hnew 0 43 (by kernel_rfl)
              have h50 : ∃ A' c', a.tmps.getD 50 undef = .slice A' (ky).length c' ∧ Sees W A' (ky).length (ky) := hnew 7 50 (by kernel_rfl)
              obtain ⟨A50, c50, f50, s50⟩ := h50
              have q := (HC.out W hR).2.2.2
              refine ⟨Facts.wanted_free rfl, 58, #[.slice P l.length c, .slice A50 ky.length c50], by simp [go_sem, Act.eval, f43, f50], ?_⟩
              refine (TX.out W P c A50 c50 q.1 s50).mono ?_
              rintro e w8 ⟨A8, c8, rfl, own8, hb8⟩
              exact ⟨_, rfl, hb8, A8, c8, rfl, Own.lower own8 (by have h1 := q.2.size; have h2 := HUS.out; omega)⟩
            · refine Facts.step_is (.pointer (some ⟨B, 0, none⟩)) fun a W hR hold hnew => ?_
              have f1 : a.tmps.getD 1 undef = .pointer (some ⟨B, 0, none⟩) := hold 1 (by kernel_rfl)
              refine ⟨Facts.wanted_free rfl, ?_, fun _ => rfl⟩; simp [go_sem, Act.eval, f1]
            · refine Facts.step_is (.slice (some ⟨lb, lo, none⟩) n' lc) fun a W hR hold hnew => ?_
              have f52 : a.tmps.getD 52 undef = .pointer (some ⟨B, 0, none⟩) := hnew 9 52 (by kernel_rfl)
              have q := (HC.out W hR).1
              refine ⟨Facts.wanted_free rfl, ?_, fun _ => rfl⟩; simp [go_sem, Act.eval, f52, q]
            · refine Facts.step_is (.int .i64 (j : Int)) fun a W hR hold hnew => ?_
              have f4 : a.tmps.getD 4 undef = .int .i64 (j : Int) := hold 4 (by kernel_rfl)
              refine ⟨Facts.wanted_free rfl, ?_, fun _ => rfl⟩; simp [go_sem, Act.eval, f4]
            · refine Facts.step_is (.pointer (some ⟨lb, lo + j * 4, none⟩)) fun a W hR hold hnew => ?_
              have f53 : a.tmps.getD 53 undef = .slice (some ⟨lb, lo, none⟩) n' lc := hnew 10 53 (by kernel_rfl)
              have f54 : a.tmps.getD 54 undef = .int .i64 (j : Int) := hnew 11 54 (by kernel_rfl)
              refine ⟨Facts.wanted_free rfl, ?_, fun _ => rfl⟩; simp [go_sem, Act.eval, f53, f54, hij]
            · refine Facts.step_is (.pointer (some ⟨lb, lo + j * 4 + 1, none⟩)) fun a W hR hold hnew => ?_
              have f55 : a.tmps.getD 55 undef = .pointer (some ⟨lb, lo + j * 4, none⟩) := hnew 12 55 (by kernel_rfl)
              refine ⟨Facts.wanted_free rfl, ?_, fun _ => rfl⟩; simp [go_sem, Act.eval, f55]
            · refine Facts.step_is (.int .u8 (K : Int)) fun a W hR hold hnew => ?_
              have f56 : a.tmps.getD 56 undef = .pointer (some ⟨lb, lo + j * 4 + 1, none⟩) := hnew 13 56 (by kernel_rfl)
              have q := (HC.out W hR).2.2.1
              refine ⟨Facts.wanted_free rfl, ?_, fun _ => rfl⟩; simp [go_sem, Act.eval, f56, q]
            · refine Facts.step_new fun a W hR hold hnew => ?_
              have f57 : a.tmps.getD 57 undef = .int .u8 (K : Int) := hnew 14 57 (by kernel_rfl)
              rw [Array.getD_eq_getD_getElem?] at f57
              exact ⟨Facts.wanted_free rfl, .slice (some ⟨W.heap.size, 0, none⟩) 1 1, W.alloc (.cells #[.int .u8 (K : Int)] 5), by simp [go_sem, Act.eval, f57], (Below.refl _ _).alloc (Nat.le_refl _) _, _, _, rfl, Sees.fresh W _ _ _ (b8_toNat hK256).symm⟩
          · intro a w5 hR' hsize hdef hnew hold
            have h51 : ∃ A' c', a.tmps.getD 51 undef = .slice A' (la).length c' ∧ w5.ownsRow (B + 1) 5 1 (.slice A' (la).length c') (la).length (cs (la)) := hnew 8 51 (by omega) (by kernel_rfl)
            obtain ⟨A51, c51, f51, s51⟩ := h51
            have h58 : ∃ A' c', a.tmps.getD 58 undef = .slice A' ([b8 K]).length c' ∧ Sees w5 A' ([b8 K]).length ([b8 K]) := hnew 15 58 (by omega) (by kernel_rfl)
            obtain ⟨A58, c58, f58, s58⟩ := h58
            obtain ⟨tm9, df⟩ := a
            have hfr := Ord.frame_region hsize (by rfl) (fun t ht => hold t fun k _ => ht k)
            clear hnew hold
            simp only [List.filterMap_cons, List.filterMap_nil] at hfr
            simp only [List.foldl_cons, List.foldl_nil, List.setIfInBounds_toArray, List.set_cons_succ, List.set_cons_zero] at hfr
            simp only [] at f51 f58 hdef
            rw [f51, f58] at hfr
            clear f51 f58 hsize
            generalize tm9.getD 43 undef = y43 at hfr
            generalize tm9.getD 44 undef = y44 at hfr
            generalize tm9.getD 45 undef = y45 at hfr
            generalize tm9.getD 46 undef = y46 at hfr
            generalize tm9.getD 47 undef = y47 at hfr
            generalize tm9.getD 48 undef = y48 at hfr
            generalize tm9.getD 49 undef = y49 at hfr
            generalize tm9.getD 50 undef = y50 at hfr
            generalize tm9.getD 52 undef = y52 at hfr
            generalize tm9.getD 53 undef = y53 at hfr
            generalize tm9.getD 54 undef = y54 at hfr
            generalize tm9.getD 55 undef = y55 at hfr
            generalize tm9.getD 56 undef = y56 at hfr
            generalize tm9.getD 57 undef = y57 at hfr
            generalize tm9.getD 59 undef = y59 at hfr
            generalize tm9.getD 3 undef = y3 at hfr
            subst hfr
            subst hdef
            simp only [List.drop_succ_cons, List.drop_zero]
            have hb5 := (HC.out w5 hR').2.2.2.2
            have hw5 : wr.heap.size ≤ w5.heap.size := hR'.size
            have OW5 := Lib.hid s51
            have SE5 := Lib.hid s58
            have B5 := Lib.hid hb5
            have hlb8 : (la ++ [b8 K]).length = lb2.length := by rw [HLB2.out]
            clear hR' s51 s58 hb5
            go_wp2_with (first | (at_builtin; refine wpList_app rfl _ _ 29 rfl (B + 1) 5 i (.int .u8 0) Tryz.underlying29 hi hz hsz hby rfl A51 la.length c51 la rfl OW5.out A58 1 c58 [b8 K] rfl ?s1 ?d1 ?d2 ?_))
            case s1 => exact SE5.out
            case d1 => have := HLE.out.2; rw [HLB2.out, List.length_append] at this; simp at this; omega
            case d2 => have h1 := B5.out.size; have h2 := HUS.out; omega
            intro A6 c6 w6 own6 hb6
            rw [← HLB2.out] at own6
            obtain ⟨N6, hN6⟩ : ∃ N6, N6 = la.length + 1 := ⟨_, rfl⟩
            rw [← hN6] at own6 ⊢
            obtain rfl : N6 = lb2.length := by rw [hN6, HLB2.out]; simp
            have B6 := Lib.hid (B5.out.trans (hb6.mono (by have h2 := HUS.out; omega)))
            have OW6 := Lib.hid own6
            have hjb : (j : Int) ≤ 100000000 := by have := HN.out.2; omega
            have k1 := LCEL.out w6 B6.out 1 (.int .u8 (K : Int)) (by omega) rfl
            have c0 := (CELLS.out w6 B6.out).1
            rw [HLA.out] at c0
            clear own6 hb6 hN6 hlb8 hw5
            by_cases hk1 : K = 1
            · have hkb : ((K : Int) == 1) = true := by rw [beq_iff_eq]; omega
              have k2 := LCEL.out w6 B6.out 2 (.slice A tx.length tc) (by omega) rfl
              have hz1 := HLZ2.out
              rw [if_pos hk1] at hz1
              have HK1 := Lib.hid hk1
              have TZ := Lib.hid (by
                have := rtext A6 c6 lb2 A tc tx w6 (Sees.of_own OW6.out) (sees_ofV (HTX.out.sees.below (by first | exact B6.out | exact (Below.trans B6.out (Below.refl _ _))))) (by have := HLE.out.2; omega) (by have := HTL.out; omega)
                rw [List.append_assoc, ← hz1] at this
                exact this : Calls Tryz.prog 58 #[.slice A6 lb2.length c6, .slice A tx.length tc] w6 (GivesR w6 lz))
              clear hk1 hz1
              go_wp2_with fail
              refine TZ.out.mono ?_
              rintro e w7 ⟨A7, c7, rfl, own7, hb7⟩
              have OW7 := Lib.hid (Own.lower (base' := B + 1) own7 (by have h1 := B6.out.size; have h2 := HUS.out; omega))
              have B7 := Lib.hid (B6.out.trans (hb7.mono B6.out.size))
              clear own7 hb7 TZ
              go_wp2
              go_roundw
              case rel => exact ⟨A7, c7, j + 1, lz, rfl, by simp, by omega, HNX, OW7, B7⟩
              case measure => simp [intOf]; omega
            · have hkb : ((K : Int) == 1) = false := by rw [beq_eq_false_iff_ne]; omega
              have k3 := LCEL.out w6 B6.out 3 (.float .f64 nm) (by omega) rfl
              have hz1 := HLZ2.out
              rw [if_neg hk1, qb_qb] at hz1
              have HK1 := Lib.hid hk1
              have hnm : qb nm < 18446744073709551616 := HTX.out.num
              have TZ := Lib.hid (by
                have := rfixed A6 c6 lb2 (qb nm : Int) w6 (Sees.of_own OW6.out) (by have := HLE.out.2; omega) (by omega) (by omega)
                rw [Int.toNat_natCast, ← hz1] at this
                exact this : Calls Tryz.prog 56 #[.slice A6 lb2.length c6, .int .u64 (qb nm : Int)] w6 (GivesR w6 lz))
              clear hk1 hz1 hnm
              go_wp2_with fail
              refine (refBits_any nm _).mono ?_
              rintro e w7 ⟨rfl, rfl⟩
              go_wp2_with fail
              refine TZ.out.mono ?_
              rintro e w7 ⟨A7, c7, rfl, own7, hb7⟩
              have OW7 := Lib.hid (Own.lower (base' := B + 1) own7 (by have h1 := B6.out.size; have h2 := HUS.out; omega))
              have B7 := Lib.hid (B6.out.trans (hb7.mono B6.out.size))
              clear own7 hb7 TZ
              go_wp2
              go_roundw
              case rel => exact ⟨A7, c7, j + 1, lz, rfl, by simp, by omega, HNX, OW7, B7⟩
              case measure => simp [intOf]; omega
        · obtain rfl : j = n' := by omega
          have hd : decide ((j : Int) < (j : Int)) = false := decide_eq_false (by omega)
          have hfin : l = foldL F := by
            rw [HL.out, HHEAD.out.1]
            unfold foldL
            rw [List.take_of_length_le (by have h1 := HN.out.1; have h2 := congrArg List.length HR.out.cells; rw [mapV_len] at h2; omega)]
          have HFIN := Lib.hid hfin
          have HFL := Lib.hid (congrArg List.length hfin)
          clear hfin
          go_wp2
          go_ret
          refine ⟨P, c, (by show Ending.returned (Value.slice P l.length c) = .returned (Value.slice P (foldL F).length c); rw [HFL.out]), ?_, BU.out.trans (HB4.out.mono BU.out.size)⟩
          rw [← HFIN.out]
          exact Own.lower HS.out (by have := HB.out; omega)
end
end Go.Proofs.YtmogoopkjkdkgaaGreat.Fol
