/- The law's told: yes. -/
import Derived.Test.YtjceeojbnpcpfaaGreatFolZ2
import Derived.Test.YtjceeojbnpcpfaaGreatFolP
import Derived.Test.YtjceeojbnpcpfaaGreatFolC
namespace Go.Proofs.YtjceeojbnpcpfaaGreat.Fol
open Go Go.RowKit Go.Proofs.YtjceeojbnpcpfaaGreat.Words Go.Proofs.YtjceeojbnpcpfaaGreat.Enc Go.Proofs.YtjceeojbnpcpfaaGreat.Q Go.Proofs.YtjceeojbnpcpfaaGreat.Evt Go.Proofs.YtjceeojbnpcpfaaGreat.Made
set_option linter.unusedVariables false
set_option linter.unusedSimpArgs false

def PHave (l : List Nat) : Facts.Pred := ⟨fun v w => ∃ A k c, v = .slice A k c ∧ Vec.SeesU w A k l ∧ k ≤ 64, fun v w w' ⟨A, k, c, h, hs, hk⟩ hb => ⟨A, k, c, h, hs.below hb, hk⟩⟩
theorem memL_pre (F : Fo) (i : Nat) : ∀ d, ∃ r, memL F (i + d) = memL F i ++ r
  | 0 => ⟨[], by simp⟩
  | d + 1 => by
    obtain ⟨r, h⟩ := memL_pre F i d
    exact ⟨r ++ if memB F ((i + d : Nat) : Int) = true then [i + d] else [], by rw [← List.append_assoc, ← h]; rfl⟩
theorem memL_get (F : Fo) {n : Nat} (hn : n < 64) (hm : memB F (n : Int) = true) : (memL F 64)[(memL F n).length]? = some n := by
  obtain ⟨r, h⟩ := memL_pre F (n + 1) (64 - (n + 1))
  rw [show n + 1 + (64 - (n + 1)) = 64 by omega] at h
  have h1 : memL F (n + 1) = memL F n ++ [n] := by show memL F n ++ (if memB F (n : Int) = true then [n] else []) = _; rw [if_pos hm]
  rw [h, h1, List.append_assoc]
  simp
theorem memL_lt (F : Fo) {n : Nat} (hn : n < 64) (hm : memB F (n : Int) = true) : (memL F n).length < (memL F 64).length := (List.getElem?_eq_some_iff.1 (memL_get F hn hm)).1
theorem memL_yes (F : Fo) {n : Nat} (hm : memB F (n : Int) = true) : (memL F (n + 1)).length = (memL F n).length + 1 := by
  show (memL F n ++ (if memB F (n : Int) = true then [n] else [])).length = _; rw [if_pos hm]; simp
theorem memL_no (F : Fo) {n : Nat} (hm : memB F (n : Int) = false) : (memL F (n + 1)).length = (memL F n).length := by
  show (memL F n ++ (if memB F (n : Int) = true then [n] else [])).length = _; rw [if_neg (by rw [hm]; decide)]; simp
theorem inSet_lo (l : List Bool) : inSet l (-1) = false := by unfold inSet; simp
theorem inSet_hi (l : List Bool) {n : Int} (h : 64 ≤ n) : inSet l n = false := by unfold inSet; rw [decide_eq_false (fun h2 => by omega), Bool.false_and]
theorem inSet_mid (l : List Bool) {n : Nat} (h : n < 64) : inSet l (n : Int) = l.getD n false := by unfold inSet; rw [decide_eq_true ⟨by omega, by omega⟩, Bool.true_and, Int.toNat_natCast]

theorem lk_getC {L : List (Key × Cel)} (hr : Rise L) : ∀ {j : Nat} {p : Key × Cel}, L[j]? = some p → lk p.1 L = some p.2 := by
  induction L with
  | nil => intro j p h; simp at h
  | cons q r ih =>
    intro j p h
    rw [lk_cons]
    cases j with
    | zero => simp at h; subst h; rw [if_pos rfl]
    | succ j =>
      have hp : r[j]? = some p := by simpa using h
      have hlt := (List.pairwise_cons.1 hr).1 p (List.mem_of_getElem? hp)
      rw [if_neg (key_ne hlt)]
      exact ih (List.pairwise_cons.1 hr).2 hp
section
variable {La Ja Ra Ha : Option Addr} {lc Jc Rc Hc T W0 M d mb : Nat} {L : List (Key × RC)} {F : Fo} {S S2 : List Nat}
set_option maxRecDepth 100000 in
set_option maxHeartbeats 8000000 in
theorem told_any (w : World) (h : FoldAt w S2 d mb F) (r : RefAt w S La lc L ⟨Ja, Jc, Ra, Rc, Ha, Hc, T, W0, M⟩ F) (hf : (foldL F).length ≤ 100000000) (hn : F.L.length ≤ 1000000) (hnone : lk [110, 111, 110, 101] F.L = none) :
    Calls Tryz.prog 11 #[.pointer (some ⟨d, 0, none⟩), .agg (rv La L.length lc ⟨Ja, Jc, Ra, Rc, Ha, Hc, T, W0, M⟩)] w fun e w' => e = .returned (.bool true) ∧ Below w.heap.size w w' := by
  have hsf := store_float Tryz.prog
  have ok := h.ok
  have hT : T = F.time := r.T
  have hW : W0 = F.wr := r.W
  have hM : M = F.mark := r.M
  have hLl : L.length = F.L.length := by rw [← r.cells, mapV_len]
  have RE0 := fun (W : World) (hW' : Below w.heap.size w W) => refEnc_any W (r.below hW') ok hf
  unfold rv at RE0
  obtain ⟨n', hnl⟩ : ∃ n', n' = F.L.length := ⟨_, rfl⟩
  rw [hLl, ← hnl] at RE0
  unfold rv
  rw [hLl, ← hnl]
  simp only [] at RE0 ⊢
  obtain ⟨B, hB⟩ : ∃ B, B = w.heap.size := ⟨_, rfl⟩
  obtain ⟨u, hu⟩ : ∃ u, u = w.alloc (.cells #[.slice La n' lc, .slice Ja 64 Jc, .slice Ra 64 Rc, .slice Ha 64 Hc, .int .u64 (T : Int), .int .i64 (W0 : Int), .int .u64 (M : Int)] 33) := ⟨_, rfl⟩
  have bu : Below w.heap.size w u := by rw [hu]; exact (Below.refl _ _).alloc (Nat.le_refl _) _
  have hus : u.heap.size = B + 1 := by rw [hu, hB]; simp
  have gB : u.heap[B]? = some (.cells #[.slice La n' lc, .slice Ja 64 Jc, .slice Ra 64 Rc, .slice Ha 64 Hc, .int .u64 (T : Int), .int .i64 (W0 : Int), .int .u64 (M : Int)] 33 (0, 0)) := by rw [hu, hB]; exact heap_alloc_new w _
  have TOW := Lib.hid (fun (W : World) (hW' : Below u.heap.size u W) => (bu.trans (hW'.mono bu.size) : Below w.heap.size w W))
  have CELLS := Lib.hid (fun (W : World) (hW' : Below u.heap.size u W) => (rv_cells (h := ⟨Ja, Jc, Ra, Rc, Ha, Hc, T, W0, M⟩) ((hW'.block B (by omega)).trans gB) : (W.cell? ⟨B, 0, none⟩ = some (.slice La n' lc) ∧ W.cell? ⟨B, 1, none⟩ = some (.slice Ja 64 Jc) ∧ W.cell? ⟨B, 2, none⟩ = some (.slice Ra 64 Rc) ∧ W.cell? ⟨B, 3, none⟩ = some (.slice Ha 64 Hc) ∧ W.cell? ⟨B, 4, none⟩ = some (.int .u64 (T : Int)) ∧ W.cell? ⟨B, 5, none⟩ = some (.int .i64 (W0 : Int)) ∧ W.cell? ⟨B, 6, none⟩ = some (.int .u64 (M : Int)))))
  have KS := Lib.hid (by
    have := keys_any S2 d mb F u (h.below bu) hn
    rw [← hnl] at this
    exact this : Calls Tryz.prog 30 #[.pointer (some ⟨d, 0, none⟩)] u fun e w' => ∃ A c, e = .returned (.slice A n' c) ∧ w'.ownsRow u.heap.size 9 1 (.slice A n' c) n' ((F.L.map (·.1)).map encStr) ∧ Below u.heap.size u w')
  have MK := Lib.hid (fun (W : World) (hW' : Below u.heap.size u W) => (by
    have := mark_any W (h.below (TOW.out W hW'))
    rw [← hM] at this
    exact this : Calls Tryz.prog 31 #[.pointer (some ⟨d, 0, none⟩)] W fun e w' => e = .returned (.int .u64 (M : Int)) ∧ w' = W))
  have LS := Lib.hid (fun (W : World) (hW' : Below u.heap.size u W) => (by
    have := last_any W (h.below (TOW.out W hW'))
    unfold spotV at this
    rw [← hT, ← hW] at this
    exact this : Calls Tryz.prog 32 #[.pointer (some ⟨d, 0, none⟩)] W fun e w' => e = .returned (.agg #[.int .u64 (T : Int), .int .i64 (W0 : Int)]) ∧ Below W.heap.size W w'))
  have HV := Lib.hid (fun (W : World) (hW' : Below u.heap.size u W) => (have_any S2 d mb F W (h.below (TOW.out W hW')) : Calls Tryz.prog 34 #[.pointer (some ⟨d, 0, none⟩)] W (Vec.Trims W F.H 64)))
  have SV := Lib.hid (fun (W : World) (hW' : Below u.heap.size u W) (A : Option Addr) (k c : Nat) (hs : Vec.SeesU W A k (Vec.trimL F.H)) (hk : k ≤ 64) => (by
    have sH : SeesV W S Ha (Vec.us F.H) := r.H.below (TOW.out W hW')
    have sU : Vec.SeesU W Ha 64 F.H := ⟨ok.h, fun hne => by
      obtain ⟨b, o, hA, _, hc⟩ := sH (by intro e; have := congrArg List.length e; rw [Vec.us_length, ok.h] at this; simp at this)
      exact ⟨b, o, hA, fun j x hj => hc j _ (by unfold Vec.us; rw [List.getElem?_map, hj]; rfl)⟩⟩
    exact sameV_yes A Ha k c 64 Hc _ _ W hs sU (by omega) (by omega) (fun i => Vec.trimL_at F.H i) : Calls Tryz.prog 33 #[.slice A k c, .slice Ha 64 Hc] W fun e w' => e = .returned (.bool true) ∧ w' = W))
  have htl : F.H.take (Vec.trimN F.H 64) = Vec.trimL F.H := by unfold Vec.trimL; rw [ok.h]
  have HTL := Lib.hid (And.intro htl (Vec.trimN_le F.H 64))
  obtain ⟨fl, hfl⟩ : ∃ l, l = foldL F := ⟨_, rfl⟩
  have EN := Lib.hid (fun (W : World) (hW' : Below u.heap.size u W) => (by
    have := encode_any W (h.below (TOW.out W hW')) hf hn
    rw [← hfl] at this
    exact this : Calls Tryz.prog 35 #[.pointer (some ⟨d, 0, none⟩)] W (GivesR W fl)))
  have RE := Lib.hid (fun (W : World) (hW' : Below u.heap.size u W) => (by
    have := RE0 W (TOW.out W hW')
    rw [← hfl] at this
    exact this : Calls Tryz.prog 36 #[.agg #[.slice La n' lc, .slice Ja 64 Jc, .slice Ra 64 Rc, .slice Ha 64 Hc, .int .u64 (T : Int), .int .i64 (W0 : Int), .int .u64 (M : Int)]] W (GivesR W fl)))
  obtain ⟨FS, hFS⟩ : ∃ FS : ByteArray, FS = ⟨fl.toArray⟩ := ⟨_, rfl⟩
  have STR := Lib.hid (fun (W : World) (A : Option Addr) (c : Nat) (hs : Sees W A fl.length fl) => (by rw [hFS]; exact hs.string c Tryz.underlying35 Tryz.underlying5 Tryz.underlying9 : (convert 35 9 (.slice A fl.length c)).run Tryz.prog W = .ok (.string FS) W))
  have HR := Lib.hid r
  have HH := Lib.hid h
  have HOK := Lib.hid ok
  have HN := Lib.hid (And.intro hnl (And.intro hn hLl))
  have HNO := Lib.hid hnone
  have HU := Lib.hid hu
  have HB := Lib.hid hB
  have HUS := Lib.hid hus
  have BU := Lib.hid bu
  clear hT hW hM hLl hnl r h ok hf hn hnone gB bu hu hB hus RE0 hFS hfl htl
  go_enter Tryz.func11, Tryz.ntmps11
  go_upto_region 1 with fail
  rw [← HU.out, ← HB.out]
  go_wp2_with fail
  refine KS.out.mono ?_
  rintro e w1 ⟨KA, kc, rfl, own1, hb1⟩
  have B1 := Lib.hid hb1
  have OW1 := Lib.hid own1
  clear own1 hb1 KS
  go_wp2_with fail
  have HC := Lib.hid (fun (W : World) (hW' : Below w1.drew.heap.size w1.drew W) => (by
    have h := B1.out.trans (((Below.refl w1.heap.size w1).drew.trans hW').mono B1.out.size)
    exact ⟨CELLS.out W h, h⟩ : (W.cell? ⟨B, 0, none⟩ = some (.slice La n' lc) ∧ W.cell? ⟨B, 1, none⟩ = some (.slice Ja 64 Jc) ∧ W.cell? ⟨B, 2, none⟩ = some (.slice Ra 64 Rc) ∧ W.cell? ⟨B, 3, none⟩ = some (.slice Ha 64 Hc) ∧ W.cell? ⟨B, 4, none⟩ = some (.int .u64 (T : Int)) ∧ W.cell? ⟨B, 5, none⟩ = some (.int .i64 (W0 : Int)) ∧ W.cell? ⟨B, 6, none⟩ = some (.int .u64 (M : Int))) ∧ Below u.heap.size u W))
  refine Facts.wp_region_preds (n := 206) (by kernel_rfl) (by kernel_rfl) rfl [Facts.Pred.is (.slice KA n' kc), Facts.Pred.is (.int .i64 (n' : Int)), Facts.Pred.is (.pointer (some ⟨B, 0, none⟩)), Facts.Pred.is (.slice La n' lc), Facts.Pred.is (.int .i64 (n' : Int)), Facts.Pred.is (.bool false), Facts.Pred.is (.bool false), Facts.Pred.is (.pointer (some ⟨d, 0, none⟩)), Facts.Pred.is (.int .u64 (M : Int)), Facts.Pred.is (.pointer (some ⟨B, 6, none⟩)), Facts.Pred.is (.int .u64 (M : Int)), Facts.Pred.is (.bool false), Facts.Pred.is (.bool false), Facts.Pred.is (.bool false), Facts.Pred.is (.pointer (some ⟨d, 0, none⟩)), Facts.Pred.is (.agg #[.int .u64 (T : Int), .int .i64 (W0 : Int)]), Facts.Pred.is (.pointer (some ⟨B, 4, none⟩)), Facts.Pred.is (.agg #[.int .u64 (T : Int), .int .i64 (W0 : Int)]), Facts.Pred.is (.bool false), Facts.Pred.is (.bool false), Facts.Pred.is (.bool false), Facts.Pred.is (.pointer (some ⟨d, 0, none⟩)), PHave (Vec.trimL F.H), Facts.Pred.is (.pointer (some ⟨B, 3, none⟩)), Facts.Pred.is (.slice Ha 64 Hc), Facts.Pred.is (.bool true), Facts.Pred.is (.bool false), Facts.Pred.is (.bool false), Facts.Pred.is (.bool false), Facts.Pred.is (.pointer (some ⟨d, 0, none⟩)), PRowE (fl), Facts.Pred.is (.string FS), Facts.Pred.is (.agg #[.slice La n' lc, .slice Ja 64 Jc, .slice Ra 64 Rc, .slice Ha 64 Hc, .int .u64 (T : Int), .int .i64 (W0 : Int), .int .u64 (M : Int)]), PRowE (fl), Facts.Pred.is (.string FS), Facts.Pred.is (.bool false), Facts.Pred.is (.bool false)] ?_ ?_
  · refine ⟨?_, ?_, ?_, ?_, ?_, ?_, ?_, ?_, ?_, ?_, ?_, ?_, ?_, ?_, ?_, ?_, ?_, ?_, ?_, ?_, ?_, ?_, ?_, ?_, ?_, ?_, ?_, ?_, ?_, ?_, ?_, ?_, ?_, ?_, ?_, ?_, ?_, trivial⟩
    · refine Facts.step_is (.slice KA n' kc) fun a W hR hold hnew => ?_
      have f5 : a.tmps.getD 5 undef = .slice KA n' kc := hold 5 (by kernel_rfl)
      refine ⟨Facts.wanted_free rfl, ?_, fun _ => rfl⟩
      simp [go_sem, Act.eval, f5]
    · refine Facts.step_is (.int .i64 (n' : Int)) fun a W hR hold hnew => ?_
      have f19 : a.tmps.getD 19 undef = .slice KA n' kc := hnew 0 19 (by kernel_rfl)
      refine ⟨Facts.wanted_free rfl, ?_, fun _ => rfl⟩
      simp [go_sem, Act.eval, f19]
    · refine Facts.step_is (.pointer (some ⟨B, 0, none⟩)) fun a W hR hold hnew => ?_
      have f3 : a.tmps.getD 3 undef = .pointer (some ⟨B, 0, none⟩) := hold 3 (by kernel_rfl)
      refine ⟨Facts.wanted_free rfl, ?_, fun _ => rfl⟩
      simp [go_sem, Act.eval, f3]
    · refine Facts.step_is (.slice La n' lc) fun a W hR hold hnew => ?_
      have f21 : a.tmps.getD 21 undef = .pointer (some ⟨B, 0, none⟩) := hnew 2 21 (by kernel_rfl)
      have q := (HC.out W hR).1.1
      refine ⟨Facts.wanted_free rfl, ?_, fun _ => rfl⟩
      simp [go_sem, Act.eval, f21, q]
    · refine Facts.step_is (.int .i64 (n' : Int)) fun a W hR hold hnew => ?_
      have f22 : a.tmps.getD 22 undef = .slice La n' lc := hnew 3 22 (by kernel_rfl)
      refine ⟨Facts.wanted_free rfl, ?_, fun _ => rfl⟩
      simp [go_sem, Act.eval, f22]
    · refine Facts.step_is (.bool false) fun a W hR hold hnew => ?_
      have f20 : a.tmps.getD 20 undef = .int .i64 (n' : Int) := hnew 1 20 (by kernel_rfl)
      have f23 : a.tmps.getD 23 undef = .int .i64 (n' : Int) := hnew 4 23 (by kernel_rfl)
      refine ⟨Facts.wanted_free rfl, ?_, fun _ => rfl⟩
      simp [go_sem, Act.eval, f20, f23]
    · refine Facts.step_is (.bool false) fun a W hR hold hnew => ?_
      have f24 : a.tmps.getD 24 undef = .bool false := hnew 5 24 (by kernel_rfl)
      refine ⟨Facts.wanted_free rfl, ?_, fun _ => rfl⟩
      simp [go_sem, Act.eval, f24]
    · refine Facts.step_is (.pointer (some ⟨d, 0, none⟩)) fun a W hR hold hnew => ?_
      have f0 : a.tmps.getD 0 undef = .pointer (some ⟨d, 0, none⟩) := hold 0 (by kernel_rfl)
      have g25 : a.tmps.getD 25 undef = .bool false := hnew 6 25 (by kernel_rfl)
      refine ⟨Facts.wanted_by rfl (by kernel_rfl) g25, ?_, fun _ => rfl⟩
      simp [go_sem, Act.eval, f0]
    · refine Facts.step_call fun a W hR hold hnew => ?_
      have f26 : a.tmps.getD 26 undef = .pointer (some ⟨d, 0, none⟩) := hnew 7 26 (by kernel_rfl)
      have g25 : a.tmps.getD 25 undef = .bool false := hnew 6 25 (by kernel_rfl)
      refine ⟨Facts.wanted_by rfl (by kernel_rfl) g25, 31, #[.pointer (some ⟨d, 0, none⟩)], by simp [go_sem, Act.eval, f26], ?_⟩
      refine (MK.out W (HC.out W hR).2).mono ?_
      rintro e w8 ⟨rfl, rfl⟩
      exact ⟨_, rfl, Below.refl _ _, rfl⟩
    · refine Facts.step_is (.pointer (some ⟨B, 6, none⟩)) fun a W hR hold hnew => ?_
      have f3 : a.tmps.getD 3 undef = .pointer (some ⟨B, 0, none⟩) := hold 3 (by kernel_rfl)
      have g25 : a.tmps.getD 25 undef = .bool false := hnew 6 25 (by kernel_rfl)
      refine ⟨Facts.wanted_by rfl (by kernel_rfl) g25, ?_, fun _ => rfl⟩
      simp [go_sem, Act.eval, f3]
    · refine Facts.step_is (.int .u64 (M : Int)) fun a W hR hold hnew => ?_
      have f28 : a.tmps.getD 28 undef = .pointer (some ⟨B, 6, none⟩) := hnew 9 28 (by kernel_rfl)
      have g25 : a.tmps.getD 25 undef = .bool false := hnew 6 25 (by kernel_rfl)
      have q := (HC.out W hR).1.2.2.2.2.2.2
      refine ⟨Facts.wanted_by rfl (by kernel_rfl) g25, ?_, fun _ => rfl⟩
      simp [go_sem, Act.eval, f28, q]
    · refine Facts.step_is (.bool false) fun a W hR hold hnew => ?_
      have f27 : a.tmps.getD 27 undef = .int .u64 (M : Int) := hnew 8 27 (by kernel_rfl)
      have f29 : a.tmps.getD 29 undef = .int .u64 (M : Int) := hnew 10 29 (by kernel_rfl)
      have g25 : a.tmps.getD 25 undef = .bool false := hnew 6 25 (by kernel_rfl)
      refine ⟨Facts.wanted_by rfl (by kernel_rfl) g25, ?_, fun _ => rfl⟩
      simp [go_sem, Act.eval, f27, f29]
    · refine Facts.step_is (.bool false) fun a W hR hold hnew => ?_
      have f25 : a.tmps.getD 25 undef = .bool false := hnew 6 25 (by kernel_rfl)
      have f30 : a.tmps.getD 30 undef = .bool false := hnew 11 30 (by kernel_rfl)
      refine ⟨Facts.wanted_free rfl, ?_, fun _ => rfl⟩
      simp [go_sem, Act.eval, f25, f30]
    · refine Facts.step_is (.bool false) fun a W hR hold hnew => ?_
      have f31 : a.tmps.getD 31 undef = .bool false := hnew 12 31 (by kernel_rfl)
      refine ⟨Facts.wanted_free rfl, ?_, fun _ => rfl⟩
      simp [go_sem, Act.eval, f31]
    · refine Facts.step_is (.pointer (some ⟨d, 0, none⟩)) fun a W hR hold hnew => ?_
      have f0 : a.tmps.getD 0 undef = .pointer (some ⟨d, 0, none⟩) := hold 0 (by kernel_rfl)
      have g32 : a.tmps.getD 32 undef = .bool false := hnew 13 32 (by kernel_rfl)
      refine ⟨Facts.wanted_by rfl (by kernel_rfl) g32, ?_, fun _ => rfl⟩
      simp [go_sem, Act.eval, f0]
    · refine Facts.step_call fun a W hR hold hnew => ?_
      have f33 : a.tmps.getD 33 undef = .pointer (some ⟨d, 0, none⟩) := hnew 14 33 (by kernel_rfl)
      have g32 : a.tmps.getD 32 undef = .bool false := hnew 13 32 (by kernel_rfl)
      refine ⟨Facts.wanted_by rfl (by kernel_rfl) g32, 32, #[.pointer (some ⟨d, 0, none⟩)], by simp [go_sem, Act.eval, f33], ?_⟩
      refine (LS.out W (HC.out W hR).2).mono ?_
      rintro e w8 ⟨rfl, hb8⟩
      exact ⟨_, rfl, hb8, rfl⟩
    · refine Facts.step_is (.pointer (some ⟨B, 4, none⟩)) fun a W hR hold hnew => ?_
      have f3 : a.tmps.getD 3 undef = .pointer (some ⟨B, 0, none⟩) := hold 3 (by kernel_rfl)
      have g32 : a.tmps.getD 32 undef = .bool false := hnew 13 32 (by kernel_rfl)
      refine ⟨Facts.wanted_by rfl (by kernel_rfl) g32, ?_, fun _ => rfl⟩
      simp [go_sem, Act.eval, f3]
    · refine Facts.step_is (.agg #[.int .u64 (T : Int), .int .i64 (W0 : Int)]) fun a W hR hold hnew => ?_
      have f35 : a.tmps.getD 35 undef = .pointer (some ⟨B, 4, none⟩) := hnew 16 35 (by kernel_rfl)
      have g32 : a.tmps.getD 32 undef = .bool false := hnew 13 32 (by kernel_rfl)
      have q4 := (HC.out W hR).1.2.2.2.2.1
      have q5 := (HC.out W hR).1.2.2.2.2.2.1
      refine ⟨Facts.wanted_by rfl (by kernel_rfl) g32, ?_, fun _ => rfl⟩
      simp [go_sem, Act.eval, f35, q4, q5]
    · refine Facts.step_is (.bool false) fun a W hR hold hnew => ?_
      have f34 : a.tmps.getD 34 undef = .agg #[.int .u64 (T : Int), .int .i64 (W0 : Int)] := hnew 15 34 (by kernel_rfl)
      have f36 : a.tmps.getD 36 undef = .agg #[.int .u64 (T : Int), .int .i64 (W0 : Int)] := hnew 17 36 (by kernel_rfl)
      have g32 : a.tmps.getD 32 undef = .bool false := hnew 13 32 (by kernel_rfl)
      refine ⟨Facts.wanted_by rfl (by kernel_rfl) g32, ?_, fun _ => rfl⟩
      simp [go_sem, Act.eval, f34, f36]
    · refine Facts.step_is (.bool false) fun a W hR hold hnew => ?_
      have f32 : a.tmps.getD 32 undef = .bool false := hnew 13 32 (by kernel_rfl)
      have f37 : a.tmps.getD 37 undef = .bool false := hnew 18 37 (by kernel_rfl)
      refine ⟨Facts.wanted_free rfl, ?_, fun _ => rfl⟩
      simp [go_sem, Act.eval, f32, f37]
    · refine Facts.step_is (.bool false) fun a W hR hold hnew => ?_
      have f38 : a.tmps.getD 38 undef = .bool false := hnew 19 38 (by kernel_rfl)
      refine ⟨Facts.wanted_free rfl, ?_, fun _ => rfl⟩
      simp [go_sem, Act.eval, f38]
    · refine Facts.step_is (.pointer (some ⟨d, 0, none⟩)) fun a W hR hold hnew => ?_
      have f0 : a.tmps.getD 0 undef = .pointer (some ⟨d, 0, none⟩) := hold 0 (by kernel_rfl)
      have g39 : a.tmps.getD 39 undef = .bool false := hnew 20 39 (by kernel_rfl)
      refine ⟨Facts.wanted_by rfl (by kernel_rfl) g39, ?_, fun _ => rfl⟩
      simp [go_sem, Act.eval, f0]
    · refine Facts.step_call fun a W hR hold hnew => ?_
      have f40 : a.tmps.getD 40 undef = .pointer (some ⟨d, 0, none⟩) := hnew 21 40 (by kernel_rfl)
      have g39 : a.tmps.getD 39 undef = .bool false := hnew 20 39 (by kernel_rfl)
      refine ⟨Facts.wanted_by rfl (by kernel_rfl) g39, 34, #[.pointer (some ⟨d, 0, none⟩)], by simp [go_sem, Act.eval, f40], ?_⟩
      refine (HV.out W (HC.out W hR).2).mono ?_
      rintro e w8 ⟨A8, c8, rfl, own8, hb8⟩
      rw [HTL.out.1] at own8
      exact ⟨_, rfl, hb8, A8, _, c8, rfl, Vec.SeesU.of_own own8, HTL.out.2⟩
    · refine Facts.step_is (.pointer (some ⟨B, 3, none⟩)) fun a W hR hold hnew => ?_
      have f3 : a.tmps.getD 3 undef = .pointer (some ⟨B, 0, none⟩) := hold 3 (by kernel_rfl)
      have g39 : a.tmps.getD 39 undef = .bool false := hnew 20 39 (by kernel_rfl)
      refine ⟨Facts.wanted_by rfl (by kernel_rfl) g39, ?_, fun _ => rfl⟩
      simp [go_sem, Act.eval, f3]
    · refine Facts.step_is (.slice Ha 64 Hc) fun a W hR hold hnew => ?_
      have f42 : a.tmps.getD 42 undef = .pointer (some ⟨B, 3, none⟩) := hnew 23 42 (by kernel_rfl)
      have g39 : a.tmps.getD 39 undef = .bool false := hnew 20 39 (by kernel_rfl)
      have q := (HC.out W hR).1.2.2.2.1
      refine ⟨Facts.wanted_by rfl (by kernel_rfl) g39, ?_, fun _ => rfl⟩
      simp [go_sem, Act.eval, f42, q]
    · refine Facts.step_call fun a W hR hold hnew => ?_
      have h41 : ∃ A k c, a.tmps.getD 41 undef = .slice A k c ∧ Vec.SeesU W A k (Vec.trimL F.H) ∧ k ≤ 64 := hnew 22 41 (by kernel_rfl)
      obtain ⟨A41, k41, c41, f41, s41, z41⟩ := h41
      have f43 : a.tmps.getD 43 undef = .slice Ha 64 Hc := hnew 24 43 (by kernel_rfl)
      have g39 : a.tmps.getD 39 undef = .bool false := hnew 20 39 (by kernel_rfl)
      refine ⟨Facts.wanted_by rfl (by kernel_rfl) g39, 33, #[.slice A41 k41 c41, .slice Ha 64 Hc], by simp [go_sem, Act.eval, f41, f43], ?_⟩
      refine (SV.out W (HC.out W hR).2 A41 k41 c41 s41 z41).mono ?_
      rintro e w8 ⟨rfl, rfl⟩
      exact ⟨_, rfl, Below.refl _ _, rfl⟩
    · refine Facts.step_is (.bool false) fun a W hR hold hnew => ?_
      have f44 : a.tmps.getD 44 undef = .bool true := hnew 25 44 (by kernel_rfl)
      have g39 : a.tmps.getD 39 undef = .bool false := hnew 20 39 (by kernel_rfl)
      refine ⟨Facts.wanted_by rfl (by kernel_rfl) g39, ?_, fun _ => rfl⟩
      simp [go_sem, Act.eval, f44]
    · refine Facts.step_is (.bool false) fun a W hR hold hnew => ?_
      have f39 : a.tmps.getD 39 undef = .bool false := hnew 20 39 (by kernel_rfl)
      have f45 : a.tmps.getD 45 undef = .bool false := hnew 26 45 (by kernel_rfl)
      refine ⟨Facts.wanted_free rfl, ?_, fun _ => rfl⟩
      simp [go_sem, Act.eval, f39, f45]
    · refine Facts.step_is (.bool false) fun a W hR hold hnew => ?_
      have f46 : a.tmps.getD 46 undef = .bool false := hnew 27 46 (by kernel_rfl)
      refine ⟨Facts.wanted_free rfl, ?_, fun _ => rfl⟩
      simp [go_sem, Act.eval, f46]
    · refine Facts.step_is (.pointer (some ⟨d, 0, none⟩)) fun a W hR hold hnew => ?_
      have f0 : a.tmps.getD 0 undef = .pointer (some ⟨d, 0, none⟩) := hold 0 (by kernel_rfl)
      have g47 : a.tmps.getD 47 undef = .bool false := hnew 28 47 (by kernel_rfl)
      refine ⟨Facts.wanted_by rfl (by kernel_rfl) g47, ?_, fun _ => rfl⟩
      simp [go_sem, Act.eval, f0]
    · refine Facts.step_call fun a W hR hold hnew => ?_
      have f48 : a.tmps.getD 48 undef = .pointer (some ⟨d, 0, none⟩) := hnew 29 48 (by kernel_rfl)
      have g47 : a.tmps.getD 47 undef = .bool false := hnew 28 47 (by kernel_rfl)
      refine ⟨Facts.wanted_by rfl (by kernel_rfl) g47, 35, #[.pointer (some ⟨d, 0, none⟩)], by simp [go_sem, Act.eval, f48], ?_⟩
      refine (EN.out W (HC.out W hR).2).mono ?_
      rintro e w8 h8
      obtain ⟨A8, c8, rfl, own8, hb8⟩ := h8
      exact ⟨_, rfl, hb8, A8, c8, rfl, Sees.of_own own8⟩
    · refine Facts.step_is (.string FS) fun a W hR hold hnew => ?_
      have h49 : ∃ A' c', a.tmps.getD 49 undef = .slice A' (fl).length c' ∧ Sees W A' (fl).length (fl) := hnew 30 49 (by kernel_rfl)
      obtain ⟨A49, c49, f49, s49⟩ := h49
      have g47 : a.tmps.getD 47 undef = .bool false := hnew 28 47 (by kernel_rfl)
      have q := STR.out W A49 c49 s49
      refine ⟨Facts.wanted_by rfl (by kernel_rfl) g47, ?_, fun _ => rfl⟩
      simp [go_sem, Act.eval, f49, q]
    · refine Facts.step_is (.agg #[.slice La n' lc, .slice Ja 64 Jc, .slice Ra 64 Rc, .slice Ha 64 Hc, .int .u64 (T : Int), .int .i64 (W0 : Int), .int .u64 (M : Int)]) fun a W hR hold hnew => ?_
      have f3 : a.tmps.getD 3 undef = .pointer (some ⟨B, 0, none⟩) := hold 3 (by kernel_rfl)
      have g47 : a.tmps.getD 47 undef = .bool false := hnew 28 47 (by kernel_rfl)
      obtain ⟨⟨q0, q1, q2, q3, q4, q5, q6⟩, -⟩ := HC.out W hR
      refine ⟨Facts.wanted_by rfl (by kernel_rfl) g47, ?_, fun _ => rfl⟩
      simp [go_sem, Act.eval, f3, q0, q1, q2, q3, q4, q5, q6]
    · refine Facts.step_call fun a W hR hold hnew => ?_
      have f51 : a.tmps.getD 51 undef = .agg #[.slice La n' lc, .slice Ja 64 Jc, .slice Ra 64 Rc, .slice Ha 64 Hc, .int .u64 (T : Int), .int .i64 (W0 : Int), .int .u64 (M : Int)] := hnew 32 51 (by kernel_rfl)
      have g47 : a.tmps.getD 47 undef = .bool false := hnew 28 47 (by kernel_rfl)
      refine ⟨Facts.wanted_by rfl (by kernel_rfl) g47, 36, #[.agg #[.slice La n' lc, .slice Ja 64 Jc, .slice Ra 64 Rc, .slice Ha 64 Hc, .int .u64 (T : Int), .int .i64 (W0 : Int), .int .u64 (M : Int)]], by simp [go_sem, Act.eval, f51], ?_⟩
      refine (RE.out W (HC.out W hR).2).mono ?_
      rintro e w8 h8
      obtain ⟨A8, c8, rfl, own8, hb8⟩ := h8
      exact ⟨_, rfl, hb8, A8, c8, rfl, Sees.of_own own8⟩
    · refine Facts.step_is (.string FS) fun a W hR hold hnew => ?_
      have h52 : ∃ A' c', a.tmps.getD 52 undef = .slice A' (fl).length c' ∧ Sees W A' (fl).length (fl) := hnew 33 52 (by kernel_rfl)
      obtain ⟨A52, c52, f52, s52⟩ := h52
      have g47 : a.tmps.getD 47 undef = .bool false := hnew 28 47 (by kernel_rfl)
      have q := STR.out W A52 c52 s52
      refine ⟨Facts.wanted_by rfl (by kernel_rfl) g47, ?_, fun _ => rfl⟩
      simp [go_sem, Act.eval, f52, q]
    · refine Facts.step_is (.bool false) fun a W hR hold hnew => ?_
      have f50 : a.tmps.getD 50 undef = .string FS := hnew 31 50 (by kernel_rfl)
      have f53 : a.tmps.getD 53 undef = .string FS := hnew 34 53 (by kernel_rfl)
      have g47 : a.tmps.getD 47 undef = .bool false := hnew 28 47 (by kernel_rfl)
      refine ⟨Facts.wanted_by rfl (by kernel_rfl) g47, ?_, fun _ => rfl⟩
      simp [go_sem, Act.eval, f50, f53]
    · refine Facts.step_is (.bool false) fun a W hR hold hnew => ?_
      have f47 : a.tmps.getD 47 undef = .bool false := hnew 28 47 (by kernel_rfl)
      have f54 : a.tmps.getD 54 undef = .bool false := hnew 35 54 (by kernel_rfl)
      refine ⟨Facts.wanted_free rfl, ?_, fun _ => rfl⟩
      simp [go_sem, Act.eval, f47, f54]
  · intro a w2 hR' hsize hdef hnew hold
    have f55 : a.tmps.getD 55 undef = .bool false := hnew 36 55 (by kernel_rfl)
    have f0 : a.tmps.getD 0 undef = Value.pointer (some ⟨d, 0, none⟩) := hold 0 (Facts.not_dst (by kernel_rfl))
    have f3 : a.tmps.getD 3 undef = Value.pointer (some ⟨B, 0, none⟩) := hold 3 (Facts.not_dst (by kernel_rfl))
    have f4 : a.tmps.getD 4 undef = Value.bool false := hold 4 (Facts.not_dst (by kernel_rfl))
    have f5 : a.tmps.getD 5 undef = Value.slice KA n' kc := hold 5 (Facts.not_dst (by kernel_rfl))
    obtain ⟨tm, df⟩ := a
    simp only [] at hdef hsize f0 f3 f4 f5 f55
    have hlit : tm = #[tm.getD 0 undef, tm.getD 1 undef, tm.getD 2 undef, tm.getD 3 undef, tm.getD 4 undef, tm.getD 5 undef, tm.getD 6 undef, tm.getD 7 undef, tm.getD 8 undef, tm.getD 9 undef, tm.getD 10 undef, tm.getD 11 undef, tm.getD 12 undef, tm.getD 13 undef, tm.getD 14 undef, tm.getD 15 undef, tm.getD 16 undef, tm.getD 17 undef, tm.getD 18 undef, tm.getD 19 undef, tm.getD 20 undef, tm.getD 21 undef, tm.getD 22 undef, tm.getD 23 undef, tm.getD 24 undef, tm.getD 25 undef, tm.getD 26 undef, tm.getD 27 undef, tm.getD 28 undef, tm.getD 29 undef, tm.getD 30 undef, tm.getD 31 undef, tm.getD 32 undef, tm.getD 33 undef, tm.getD 34 undef, tm.getD 35 undef, tm.getD 36 undef, tm.getD 37 undef, tm.getD 38 undef, tm.getD 39 undef, tm.getD 40 undef, tm.getD 41 undef, tm.getD 42 undef, tm.getD 43 undef, tm.getD 44 undef, tm.getD 45 undef, tm.getD 46 undef, tm.getD 47 undef, tm.getD 48 undef, tm.getD 49 undef, tm.getD 50 undef, tm.getD 51 undef, tm.getD 52 undef, tm.getD 53 undef, tm.getD 54 undef, tm.getD 55 undef, tm.getD 56 undef, tm.getD 57 undef, tm.getD 58 undef, tm.getD 59 undef, tm.getD 60 undef, tm.getD 61 undef, tm.getD 62 undef, tm.getD 63 undef, tm.getD 64 undef, tm.getD 65 undef, tm.getD 66 undef, tm.getD 67 undef, tm.getD 68 undef, tm.getD 69 undef, tm.getD 70 undef, tm.getD 71 undef, tm.getD 72 undef, tm.getD 73 undef, tm.getD 74 undef, tm.getD 75 undef, tm.getD 76 undef, tm.getD 77 undef, tm.getD 78 undef, tm.getD 79 undef, tm.getD 80 undef, tm.getD 81 undef, tm.getD 82 undef, tm.getD 83 undef, tm.getD 84 undef, tm.getD 85 undef, tm.getD 86 undef, tm.getD 87 undef, tm.getD 88 undef, tm.getD 89 undef, tm.getD 90 undef, tm.getD 91 undef, tm.getD 92 undef, tm.getD 93 undef, tm.getD 94 undef, tm.getD 95 undef, tm.getD 96 undef, tm.getD 97 undef, tm.getD 98 undef, tm.getD 99 undef, tm.getD 100 undef, tm.getD 101 undef, tm.getD 102 undef, tm.getD 103 undef, tm.getD 104 undef, tm.getD 105 undef, tm.getD 106 undef, tm.getD 107 undef, tm.getD 108 undef, tm.getD 109 undef, tm.getD 110 undef, tm.getD 111 undef, tm.getD 112 undef, tm.getD 113 undef, tm.getD 114 undef, tm.getD 115 undef, tm.getD 116 undef, tm.getD 117 undef, tm.getD 118 undef, tm.getD 119 undef, tm.getD 120 undef, tm.getD 121 undef, tm.getD 122 undef, tm.getD 123 undef, tm.getD 124 undef, tm.getD 125 undef, tm.getD 126 undef, tm.getD 127 undef, tm.getD 128 undef, tm.getD 129 undef, tm.getD 130 undef, tm.getD 131 undef, tm.getD 132 undef, tm.getD 133 undef, tm.getD 134 undef, tm.getD 135 undef, tm.getD 136 undef, tm.getD 137 undef, tm.getD 138 undef, tm.getD 139 undef, tm.getD 140 undef, tm.getD 141 undef, tm.getD 142 undef, tm.getD 143 undef, tm.getD 144 undef, tm.getD 145 undef, tm.getD 146 undef, tm.getD 147 undef, tm.getD 148 undef, tm.getD 149 undef, tm.getD 150 undef, tm.getD 151 undef, tm.getD 152 undef, tm.getD 153 undef, tm.getD 154 undef, tm.getD 155 undef, tm.getD 156 undef, tm.getD 157 undef, tm.getD 158 undef, tm.getD 159 undef, tm.getD 160 undef, tm.getD 161 undef, tm.getD 162 undef, tm.getD 163 undef, tm.getD 164 undef, tm.getD 165 undef, tm.getD 166 undef, tm.getD 167 undef, tm.getD 168 undef, tm.getD 169 undef, tm.getD 170 undef, tm.getD 171 undef, tm.getD 172 undef, tm.getD 173 undef, tm.getD 174 undef, tm.getD 175 undef, tm.getD 176 undef, tm.getD 177 undef, tm.getD 178 undef, tm.getD 179 undef, tm.getD 180 undef, tm.getD 181 undef, tm.getD 182 undef, tm.getD 183 undef, tm.getD 184 undef, tm.getD 185 undef, tm.getD 186 undef, tm.getD 187 undef, tm.getD 188 undef, tm.getD 189 undef, tm.getD 190 undef, tm.getD 191 undef, tm.getD 192 undef, tm.getD 193 undef, tm.getD 194 undef, tm.getD 195 undef, tm.getD 196 undef, tm.getD 197 undef, tm.getD 198 undef, tm.getD 199 undef, tm.getD 200 undef, tm.getD 201 undef, tm.getD 202 undef, tm.getD 203 undef, tm.getD 204 undef, tm.getD 205 undef] := (Facts.array_lit tm hsize).trans rfl
    rw [f0, f3, f4, f5, f55] at hlit
    clear f0 f3 f4 f5 f55 hsize hnew hold
    generalize tm.getD 1 undef = x1 at hlit
    generalize tm.getD 2 undef = x2 at hlit
    generalize tm.getD 6 undef = x6 at hlit
    generalize tm.getD 7 undef = x7 at hlit
    generalize tm.getD 8 undef = x8 at hlit
    generalize tm.getD 9 undef = x9 at hlit
    generalize tm.getD 10 undef = x10 at hlit
    generalize tm.getD 11 undef = x11 at hlit
    generalize tm.getD 12 undef = x12 at hlit
    generalize tm.getD 13 undef = x13 at hlit
    generalize tm.getD 14 undef = x14 at hlit
    generalize tm.getD 15 undef = x15 at hlit
    generalize tm.getD 16 undef = x16 at hlit
    generalize tm.getD 17 undef = x17 at hlit
    generalize tm.getD 18 undef = x18 at hlit
    generalize tm.getD 19 undef = x19 at hlit
    generalize tm.getD 20 undef = x20 at hlit
    generalize tm.getD 21 undef = x21 at hlit
    generalize tm.getD 22 undef = x22 at hlit
    generalize tm.getD 23 undef = x23 at hlit
    generalize tm.getD 24 undef = x24 at hlit
    generalize tm.getD 25 undef = x25 at hlit
    generalize tm.getD 26 undef = x26 at hlit
    generalize tm.getD 27 undef = x27 at hlit
    generalize tm.getD 28 undef = x28 at hlit
    generalize tm.getD 29 undef = x29 at hlit
    generalize tm.getD 30 undef = x30 at hlit
    generalize tm.getD 31 undef = x31 at hlit
    generalize tm.getD 32 undef = x32 at hlit
    generalize tm.getD 33 undef = x33 at hlit
    generalize tm.getD 34 undef = x34 at hlit
    generalize tm.getD 35 undef = x35 at hlit
    generalize tm.getD 36 undef = x36 at hlit
    generalize tm.getD 37 undef = x37 at hlit
    generalize tm.getD 38 undef = x38 at hlit
    generalize tm.getD 39 undef = x39 at hlit
    generalize tm.getD 40 undef = x40 at hlit
    generalize tm.getD 41 undef = x41 at hlit
    generalize tm.getD 42 undef = x42 at hlit
    generalize tm.getD 43 undef = x43 at hlit
    generalize tm.getD 44 undef = x44 at hlit
    generalize tm.getD 45 undef = x45 at hlit
    generalize tm.getD 46 undef = x46 at hlit
    generalize tm.getD 47 undef = x47 at hlit
    generalize tm.getD 48 undef = x48 at hlit
    generalize tm.getD 49 undef = x49 at hlit
    generalize tm.getD 50 undef = x50 at hlit
    generalize tm.getD 51 undef = x51 at hlit
    generalize tm.getD 52 undef = x52 at hlit
    generalize tm.getD 53 undef = x53 at hlit
    generalize tm.getD 54 undef = x54 at hlit
    generalize tm.getD 56 undef = x56 at hlit
    generalize tm.getD 57 undef = x57 at hlit
    generalize tm.getD 58 undef = x58 at hlit
    generalize tm.getD 59 undef = x59 at hlit
    generalize tm.getD 60 undef = x60 at hlit
    generalize tm.getD 61 undef = x61 at hlit
    generalize tm.getD 62 undef = x62 at hlit
    generalize tm.getD 63 undef = x63 at hlit
    generalize tm.getD 64 undef = x64 at hlit
    generalize tm.getD 65 undef = x65 at hlit
    generalize tm.getD 66 undef = x66 at hlit
    generalize tm.getD 67 undef = x67 at hlit
    generalize tm.getD 68 undef = x68 at hlit
    generalize tm.getD 69 undef = x69 at hlit
    generalize tm.getD 70 undef = x70 at hlit
    generalize tm.getD 71 undef = x71 at hlit
    generalize tm.getD 72 undef = x72 at hlit
    generalize tm.getD 73 undef = x73 at hlit
    generalize tm.getD 74 undef = x74 at hlit
    generalize tm.getD 75 undef = x75 at hlit
    generalize tm.getD 76 undef = x76 at hlit
    generalize tm.getD 77 undef = x77 at hlit
    generalize tm.getD 78 undef = x78 at hlit
    generalize tm.getD 79 undef = x79 at hlit
    generalize tm.getD 80 undef = x80 at hlit
    generalize tm.getD 81 undef = x81 at hlit
    generalize tm.getD 82 undef = x82 at hlit
    generalize tm.getD 83 undef = x83 at hlit
    generalize tm.getD 84 undef = x84 at hlit
    generalize tm.getD 85 undef = x85 at hlit
    generalize tm.getD 86 undef = x86 at hlit
    generalize tm.getD 87 undef = x87 at hlit
    generalize tm.getD 88 undef = x88 at hlit
    generalize tm.getD 89 undef = x89 at hlit
    generalize tm.getD 90 undef = x90 at hlit
    generalize tm.getD 91 undef = x91 at hlit
    generalize tm.getD 92 undef = x92 at hlit
    generalize tm.getD 93 undef = x93 at hlit
    generalize tm.getD 94 undef = x94 at hlit
    generalize tm.getD 95 undef = x95 at hlit
    generalize tm.getD 96 undef = x96 at hlit
    generalize tm.getD 97 undef = x97 at hlit
    generalize tm.getD 98 undef = x98 at hlit
    generalize tm.getD 99 undef = x99 at hlit
    generalize tm.getD 100 undef = x100 at hlit
    generalize tm.getD 101 undef = x101 at hlit
    generalize tm.getD 102 undef = x102 at hlit
    generalize tm.getD 103 undef = x103 at hlit
    generalize tm.getD 104 undef = x104 at hlit
    generalize tm.getD 105 undef = x105 at hlit
    generalize tm.getD 106 undef = x106 at hlit
    generalize tm.getD 107 undef = x107 at hlit
    generalize tm.getD 108 undef = x108 at hlit
    generalize tm.getD 109 undef = x109 at hlit
    generalize tm.getD 110 undef = x110 at hlit
    generalize tm.getD 111 undef = x111 at hlit
    generalize tm.getD 112 undef = x112 at hlit
    generalize tm.getD 113 undef = x113 at hlit
    generalize tm.getD 114 undef = x114 at hlit
    generalize tm.getD 115 undef = x115 at hlit
    generalize tm.getD 116 undef = x116 at hlit
    generalize tm.getD 117 undef = x117 at hlit
    generalize tm.getD 118 undef = x118 at hlit
    generalize tm.getD 119 undef = x119 at hlit
    generalize tm.getD 120 undef = x120 at hlit
    generalize tm.getD 121 undef = x121 at hlit
    generalize tm.getD 122 undef = x122 at hlit
    generalize tm.getD 123 undef = x123 at hlit
    generalize tm.getD 124 undef = x124 at hlit
    generalize tm.getD 125 undef = x125 at hlit
    generalize tm.getD 126 undef = x126 at hlit
    generalize tm.getD 127 undef = x127 at hlit
    generalize tm.getD 128 undef = x128 at hlit
    generalize tm.getD 129 undef = x129 at hlit
    generalize tm.getD 130 undef = x130 at hlit
    generalize tm.getD 131 undef = x131 at hlit
    generalize tm.getD 132 undef = x132 at hlit
    generalize tm.getD 133 undef = x133 at hlit
    generalize tm.getD 134 undef = x134 at hlit
    generalize tm.getD 135 undef = x135 at hlit
    generalize tm.getD 136 undef = x136 at hlit
    generalize tm.getD 137 undef = x137 at hlit
    generalize tm.getD 138 undef = x138 at hlit
    generalize tm.getD 139 undef = x139 at hlit
    generalize tm.getD 140 undef = x140 at hlit
    generalize tm.getD 141 undef = x141 at hlit
    generalize tm.getD 142 undef = x142 at hlit
    generalize tm.getD 143 undef = x143 at hlit
    generalize tm.getD 144 undef = x144 at hlit
    generalize tm.getD 145 undef = x145 at hlit
    generalize tm.getD 146 undef = x146 at hlit
    generalize tm.getD 147 undef = x147 at hlit
    generalize tm.getD 148 undef = x148 at hlit
    generalize tm.getD 149 undef = x149 at hlit
    generalize tm.getD 150 undef = x150 at hlit
    generalize tm.getD 151 undef = x151 at hlit
    generalize tm.getD 152 undef = x152 at hlit
    generalize tm.getD 153 undef = x153 at hlit
    generalize tm.getD 154 undef = x154 at hlit
    generalize tm.getD 155 undef = x155 at hlit
    generalize tm.getD 156 undef = x156 at hlit
    generalize tm.getD 157 undef = x157 at hlit
    generalize tm.getD 158 undef = x158 at hlit
    generalize tm.getD 159 undef = x159 at hlit
    generalize tm.getD 160 undef = x160 at hlit
    generalize tm.getD 161 undef = x161 at hlit
    generalize tm.getD 162 undef = x162 at hlit
    generalize tm.getD 163 undef = x163 at hlit
    generalize tm.getD 164 undef = x164 at hlit
    generalize tm.getD 165 undef = x165 at hlit
    generalize tm.getD 166 undef = x166 at hlit
    generalize tm.getD 167 undef = x167 at hlit
    generalize tm.getD 168 undef = x168 at hlit
    generalize tm.getD 169 undef = x169 at hlit
    generalize tm.getD 170 undef = x170 at hlit
    generalize tm.getD 171 undef = x171 at hlit
    generalize tm.getD 172 undef = x172 at hlit
    generalize tm.getD 173 undef = x173 at hlit
    generalize tm.getD 174 undef = x174 at hlit
    generalize tm.getD 175 undef = x175 at hlit
    generalize tm.getD 176 undef = x176 at hlit
    generalize tm.getD 177 undef = x177 at hlit
    generalize tm.getD 178 undef = x178 at hlit
    generalize tm.getD 179 undef = x179 at hlit
    generalize tm.getD 180 undef = x180 at hlit
    generalize tm.getD 181 undef = x181 at hlit
    generalize tm.getD 182 undef = x182 at hlit
    generalize tm.getD 183 undef = x183 at hlit
    generalize tm.getD 184 undef = x184 at hlit
    generalize tm.getD 185 undef = x185 at hlit
    generalize tm.getD 186 undef = x186 at hlit
    generalize tm.getD 187 undef = x187 at hlit
    generalize tm.getD 188 undef = x188 at hlit
    generalize tm.getD 189 undef = x189 at hlit
    generalize tm.getD 190 undef = x190 at hlit
    generalize tm.getD 191 undef = x191 at hlit
    generalize tm.getD 192 undef = x192 at hlit
    generalize tm.getD 193 undef = x193 at hlit
    generalize tm.getD 194 undef = x194 at hlit
    generalize tm.getD 195 undef = x195 at hlit
    generalize tm.getD 196 undef = x196 at hlit
    generalize tm.getD 197 undef = x197 at hlit
    generalize tm.getD 198 undef = x198 at hlit
    generalize tm.getD 199 undef = x199 at hlit
    generalize tm.getD 200 undef = x200 at hlit
    generalize tm.getD 201 undef = x201 at hlit
    generalize tm.getD 202 undef = x202 at hlit
    generalize tm.getD 203 undef = x203 at hlit
    generalize tm.getD 204 undef = x204 at hlit
    generalize tm.getD 205 undef = x205 at hlit
    subst hlit
    subst hdef
    try simp only []
    have B2 := Lib.hid (HC.out w2 hR').2
    have OW2 := Lib.hid (Own.below OW1.out ((Below.refl w1.heap.size w1).drew.trans hR') (Nat.le_refl _))
    clear hR' HC MK LS HV SV EN RE STR HTL
    go_wp2_with fail
    have ME := Lib.hid (fun (W : World) (hW' : Below u.heap.size u W) => (members_any S2 d mb F W (HH.out.below (TOW.out W hW')) : Calls Tryz.prog 38 #[.pointer (some ⟨d, 0, none⟩)] W fun e w' => ∃ A c, e = .returned (.slice A (memL F 64).length c) ∧ w'.ownsRow W.heap.size 3 1 (.slice A (memL F 64).length c) (memL F 64).length (nodesV (memL F 64)) ∧ Below W.heap.size W w'))
    obtain ⟨mn, hmn⟩ : ∃ m, m = (memL F 64).length := ⟨_, rfl⟩
    rw [← hmn] at ME
    have hmn64 : mn ≤ 64 := by rw [hmn]; exact memL_len F 64
    have HMN := Lib.hid hmn
    clear hmn
    go_loopw [6, 7, 8] (fun y z t wr => ∃ j : Nat, y = .int .i64 (j : Int) ∧ j ≤ n' ∧ Hid (Below u.heap.size u wr) ∧ Hid (wr.ownsRow u.heap.size 9 1 (.slice KA n' kc) n' ((F.L.map (·.1)).map encStr))) (fun y _ _ _ => n' - (intOf y).toNat)
    case atStart => exact ⟨0, rfl, Nat.zero_le _, B2, OW2⟩
    case round =>
      obtain ⟨j, rfl, hj, HBw, HKO⟩ := hrel
      by_cases hlt : j < n'
      · have hd : decide ((j : Int) < (n' : Int)) = true := decide_eq_true (by omega)
        have hij : (j : Int) < (n' : Int) := by omega
        have hjb : (j : Int) ≤ 1000000 := by have := HN.out; omega
        obtain ⟨p, hp⟩ : ∃ p, L[j]? = some p := ⟨_, List.getElem?_eq_getElem (by rw [HN.out.2.2, ← HN.out.1]; exact hlt)⟩
        have hpF : F.L[j]? = some (p.1, p.2.cel) := by rw [← HR.out.cells, mapV_get, hp]; rfl
        have htx := HR.out.texts p (List.mem_of_getElem? hp)
        have hk64 := (HOK.out.cel _ (List.mem_of_getElem? hpF)).1
        simp only at hk64
        obtain ⟨lb, lo, hLa, -⟩ := HR.out.rows.get (rowsR_get hp (k := 0) (v := keyV p.1) (by omega) rfl)
        have LCEL := Lib.hid (fun (W : World) (hW : Below u.heap.size u W) (k : Nat) (v : Value) (hk : k < 4) (hv : (rcCells p)[k]? = some v) => (by
          obtain ⟨b, o, h1, h2⟩ := (HR.out.below (TOW.out W hW)).rows.get (rowsR_get hp (k := k) (v := v) hk hv)
          rw [hLa] at h1
          cases h1
          rw [Nat.add_assoc]
          exact h2 : W.cell? ⟨lb, lo + j * 4 + k, none⟩ = some v))
        obtain ⟨g, o, rfl, hkc⟩ := (SeesV.of_own (S := []) HKO.out (by simp)).get (j := j) (v := encStr p.1) (by rw [List.getElem?_map, List.getElem?_map, hpF]; rfl)
        obtain ⟨ky, K, A, tc, tx, nm⟩ := p
        have hk64 : ky.length ≤ 64 := hk64
        obtain ⟨key, hkey⟩ : ∃ key : ByteArray, key = ⟨ky.toArray⟩ := ⟨_, rfl⟩
        have hkc2 : wr.cell? ⟨g, o + j, none⟩ = some (.string key) := by rw [hkc, hkey]; try rfl
        have hks : key.size ≤ 100000 := by rw [hkey]; show ky.toArray.size ≤ _; simp; omega
        have hlk : lk key.data.toList F.L = some ⟨K, tx, qb nm⟩ := by rw [hkey]; exact lk_getC HOK.out.rise hpF
        have CE := Lib.hid (by
          have := cell_any key S2 d mb F wr (HH.out.below (TOW.out wr HBw.out)) hks
          rw [hlk] at this
          exact this : Calls Tryz.prog 12 #[.pointer (some ⟨d, 0, none⟩), .string key] wr fun e w' => Below wr.heap.size wr w' ∧ ∃ A n cap, e = .returned (.tuple #[.agg #[.int .u8 (K : Int), .slice A n cap, .float .f64 (qb nm)], .bool true]) ∧ Sees w' A n tx)
        obtain ⟨Q, hQ⟩ : ∃ Q, Q = qb nm := ⟨_, rfl⟩
        have hQQ : qb Q = Q := by rw [hQ, qb_qb]
        rw [← hQ] at CE
        have HQ := Lib.hid (And.intro hQ hQQ)
        have HKY := Lib.hid hkey
        have HTX := Lib.hid htx
        have HLA := Lib.hid hLa
        clear hkc hks hlk hQ hQQ hkey htx hpF hp hk64 hLa
        go_wp2_with fail
        refine CE.out.mono ?_
        rintro e w3 ⟨hb3, A3, n3, c3, rfl, hs3⟩
        have B3 := Lib.hid (HBw.out.trans (hb3.mono HBw.out.size))
        have KO3 := Lib.hid (Own.below HKO.out hb3 (Nat.le_refl _))
        have S3 := Lib.hid hs3
        have KC3 := Lib.hid ((hb3.cell (p := ⟨g, o + j, none⟩) (World.block_lt_of_cell? _ _ hkc2)).trans hkc2)
        clear hb3 hs3 hkc2 CE
        go_wp2_with (first | (refine wpList_putRow rfl 50 (.tmp 7) (.tmp 69) rfl w3.heap.size 50 #[.int .u8 0, .slice none 0 0, .float .f64 0] #[.int .u8 (K : Int), .slice A3 n3 c3, .float .f64 Q] rfl rfl ?g0 (by kernel_rfl) rfl (by simp [Value.oneCell']) ?_))
        case g0 => exact heap_alloc_new w3 _
        intro w4 g4 hb4
        have hb34 : Below w3.heap.size w3 w4 := Below.beside ((Below.refl w3.heap.size w3).alloc (Nat.le_refl _) _) hb4 (by simp) (fun x hx => by simp at hx; omega)
        obtain ⟨b7, hb7⟩ : ∃ b, b = w3.heap.size := ⟨_, rfl⟩
        rw [← hb7] at g4 ⊢
        have h47 : b7 < w4.heap.size := (Array.getElem?_eq_some_iff.1 g4).1
        have B4 := Lib.hid (B3.out.trans (hb34.mono B3.out.size))
        have KO4 := Lib.hid (Own.below KO3.out hb34 (Nat.le_refl _))
        have S4 := Lib.hid (S3.out.below hb34)
        have KC4 := Lib.hid ((hb34.cell (p := ⟨g, o + j, none⟩) (World.block_lt_of_cell? _ _ KC3.out)).trans KC3.out)
        have G4 := Lib.hid g4
        obtain ⟨TS, hTS⟩ : ∃ TS : ByteArray, TS = ⟨tx.toArray⟩ := ⟨_, rfl⟩
        have STX := Lib.hid (fun (W : World) (A : Option Addr) (n c : Nat) (hs : Sees W A n tx) => (by rw [hTS]; exact hs.string c Tryz.underlying35 Tryz.underlying5 Tryz.underlying9 : (convert 35 9 (.slice A n c)).run Tryz.prog W = .ok (.string TS) W))
        clear hTS hb7 hb4 hb34 g4
        go_wp2_with fail
        have HC := Lib.hid (fun (W : World) (hW' : Below w4.drew.heap.size w4.drew W) => (by
          have h4 := (Below.refl w4.heap.size w4).drew.trans hW'
          have h := B4.out.trans (h4.mono B4.out.size)
          have g7 := (h4.block b7 h47).trans G4.out
          have l0 := LCEL.out W h 0 (keyV ky) (by omega) rfl
          have l1 := LCEL.out W h 1 (.int .u8 (K : Int)) (by omega) rfl
          have l2 := LCEL.out W h 2 (.slice A tx.length tc) (by omega) rfl
          have l3 := LCEL.out W h 3 (.float .f64 nm) (by omega) rfl
          unfold keyV at l0
          rw [← HKY.out] at l0
          have c0 := (CELLS.out W h).1
          rw [HLA.out] at c0
          exact ⟨c0, (h4.cell (p := ⟨g, o + j, none⟩) (World.block_lt_of_cell? _ _ KC4.out)).trans KC4.out, ⟨by rw [cell_of_row W b7 _ _ _ _ g7]; rfl, by rw [cell_of_row W b7 _ _ _ _ g7]; rfl, by rw [cell_of_row W b7 _ _ _ _ g7]; rfl⟩, ⟨l0, l1, l2, l3⟩, S4.out.below h4, sees_ofV (HTX.out.sees.below (TOW.out W h))⟩ :
          W.cell? ⟨B, 0, none⟩ = some (.slice (some ⟨lb, lo, none⟩) n' lc) ∧ W.cell? ⟨g, o + j, none⟩ = some (.string key) ∧ (W.cell? ⟨b7, 0, none⟩ = some (.int .u8 (K : Int)) ∧ W.cell? ⟨b7, 1, none⟩ = some (.slice A3 n3 c3) ∧ W.cell? ⟨b7, 2, none⟩ = some (.float .f64 Q)) ∧ (W.cell? ⟨lb, lo + j * 4, none⟩ = some (.string key) ∧ W.cell? ⟨lb, lo + j * 4 + 1, none⟩ = some (.int .u8 (K : Int)) ∧ W.cell? ⟨lb, lo + j * 4 + 2, none⟩ = some (.slice A tx.length tc) ∧ W.cell? ⟨lb, lo + j * 4 + 3, none⟩ = some (.float .f64 nm)) ∧ Sees W A3 n3 tx ∧ Sees W A tx.length tx))
        refine Facts.wp_region_preds (n := 206) (by kernel_rfl) (by kernel_rfl) rfl [Facts.Pred.is (.bool true), Facts.Pred.is (.bool false), Facts.Pred.is (.bool false), Facts.Pred.is (.slice (some ⟨g, o, none⟩) n' kc), Facts.Pred.is (.int .i64 (j : Int)), Facts.Pred.is (.pointer (some ⟨g, o + j, none⟩)), Facts.Pred.is (.string key), Facts.Pred.is (.pointer (some ⟨B, 0, none⟩)), Facts.Pred.is (.slice (some ⟨lb, lo, none⟩) n' lc), Facts.Pred.is (.int .i64 (j : Int)), Facts.Pred.is (.pointer (some ⟨lb, lo + j * 4, none⟩)), Facts.Pred.is (.pointer (some ⟨lb, lo + j * 4, none⟩)), Facts.Pred.is (.string key), Facts.Pred.is (.bool false), Facts.Pred.is (.bool false), Facts.Pred.is (.bool false), Facts.Pred.is (.pointer (some ⟨b7, 0, none⟩)), Facts.Pred.is (.int .u8 (K : Int)), Facts.Pred.is (.pointer (some ⟨B, 0, none⟩)), Facts.Pred.is (.slice (some ⟨lb, lo, none⟩) n' lc), Facts.Pred.is (.int .i64 (j : Int)), Facts.Pred.is (.pointer (some ⟨lb, lo + j * 4, none⟩)), Facts.Pred.is (.pointer (some ⟨lb, lo + j * 4 + 1, none⟩)), Facts.Pred.is (.int .u8 (K : Int)), Facts.Pred.is (.bool false), Facts.Pred.is (.bool false), Facts.Pred.is (.bool false), Facts.Pred.is (.pointer (some ⟨b7, 1, none⟩)), Facts.Pred.is (.slice A3 n3 c3), Facts.Pred.is (.string TS), Facts.Pred.is (.pointer (some ⟨B, 0, none⟩)), Facts.Pred.is (.slice (some ⟨lb, lo, none⟩) n' lc), Facts.Pred.is (.int .i64 (j : Int)), Facts.Pred.is (.pointer (some ⟨lb, lo + j * 4, none⟩)), Facts.Pred.is (.pointer (some ⟨lb, lo + j * 4 + 2, none⟩)), Facts.Pred.is (.slice A tx.length tc), Facts.Pred.is (.string TS), Facts.Pred.is (.bool false), Facts.Pred.is (.bool false), Facts.Pred.is (.bool false), Facts.Pred.is (.pointer (some ⟨b7, 2, none⟩)), Facts.Pred.is (.float .f64 Q), Facts.Pred.is (.int .u64 (Q : Int)), Facts.Pred.is (.pointer (some ⟨B, 0, none⟩)), Facts.Pred.is (.slice (some ⟨lb, lo, none⟩) n' lc), Facts.Pred.is (.int .i64 (j : Int)), Facts.Pred.is (.pointer (some ⟨lb, lo + j * 4, none⟩)), Facts.Pred.is (.pointer (some ⟨lb, lo + j * 4 + 3, none⟩)), Facts.Pred.is (.float .f64 nm), Facts.Pred.is (.int .u64 (Q : Int)), Facts.Pred.is (.bool false), Facts.Pred.is (.bool false)] ?_ ?_
        · refine ⟨?_, ?_, ?_, ?_, ?_, ?_, ?_, ?_, ?_, ?_, ?_, ?_, ?_, ?_, ?_, ?_, ?_, ?_, ?_, ?_, ?_, ?_, ?_, ?_, ?_, ?_, ?_, ?_, ?_, ?_, ?_, ?_, ?_, ?_, ?_, ?_, ?_, ?_, ?_, ?_, ?_, ?_, ?_, ?_, ?_, ?_, ?_, ?_, ?_, ?_, ?_, ?_, trivial⟩
          · refine Facts.step_is (.bool true) fun a W hR hold hnew => ?_
            have f8 : a.tmps.getD 8 undef = .bool true := hold 8 (by kernel_rfl)
            refine ⟨Facts.wanted_free rfl, ?_, fun _ => rfl⟩
            simp [go_sem, Act.eval, f8]
          · refine Facts.step_is (.bool false) fun a W hR hold hnew => ?_
            have f71 : a.tmps.getD 71 undef = .bool true := hnew 0 71 (by kernel_rfl)
            refine ⟨Facts.wanted_free rfl, ?_, fun _ => rfl⟩
            simp [go_sem, Act.eval, f71]
          · refine Facts.step_is (.bool false) fun a W hR hold hnew => ?_
            have f72 : a.tmps.getD 72 undef = .bool false := hnew 1 72 (by kernel_rfl)
            refine ⟨Facts.wanted_free rfl, ?_, fun _ => rfl⟩
            simp [go_sem, Act.eval, f72]
          · refine Facts.step_is (.slice (some ⟨g, o, none⟩) n' kc) fun a W hR hold hnew => ?_
            have f5 : a.tmps.getD 5 undef = .slice (some ⟨g, o, none⟩) n' kc := hold 5 (by kernel_rfl)
            have g73 : a.tmps.getD 73 undef = .bool false := hnew 2 73 (by kernel_rfl)
            refine ⟨Facts.wanted_by rfl (by kernel_rfl) g73, ?_, fun _ => rfl⟩
            simp [go_sem, Act.eval, f5]
          · refine Facts.step_is (.int .i64 (j : Int)) fun a W hR hold hnew => ?_
            have f6 : a.tmps.getD 6 undef = .int .i64 (j : Int) := hold 6 (by kernel_rfl)
            have g73 : a.tmps.getD 73 undef = .bool false := hnew 2 73 (by kernel_rfl)
            refine ⟨Facts.wanted_by rfl (by kernel_rfl) g73, ?_, fun _ => rfl⟩
            simp [go_sem, Act.eval, f6]
          · refine Facts.step_is (.pointer (some ⟨g, o + j, none⟩)) fun a W hR hold hnew => ?_
            have f74 : a.tmps.getD 74 undef = .slice (some ⟨g, o, none⟩) n' kc := hnew 3 74 (by kernel_rfl)
            have f75 : a.tmps.getD 75 undef = .int .i64 (j : Int) := hnew 4 75 (by kernel_rfl)
            have g73 : a.tmps.getD 73 undef = .bool false := hnew 2 73 (by kernel_rfl)
            refine ⟨Facts.wanted_by rfl (by kernel_rfl) g73, ?_, fun _ => rfl⟩
            simp [go_sem, Act.eval, f74, f75, hij]
          · refine Facts.step_is (.string key) fun a W hR hold hnew => ?_
            have f76 : a.tmps.getD 76 undef = .pointer (some ⟨g, o + j, none⟩) := hnew 5 76 (by kernel_rfl)
            have g73 : a.tmps.getD 73 undef = .bool false := hnew 2 73 (by kernel_rfl)
            have q := (HC.out W hR).2.1
            refine ⟨Facts.wanted_by rfl (by kernel_rfl) g73, ?_, fun _ => rfl⟩
            simp [go_sem, Act.eval, f76, q]
          · refine Facts.step_is (.pointer (some ⟨B, 0, none⟩)) fun a W hR hold hnew => ?_
            have f3 : a.tmps.getD 3 undef = .pointer (some ⟨B, 0, none⟩) := hold 3 (by kernel_rfl)
            have g73 : a.tmps.getD 73 undef = .bool false := hnew 2 73 (by kernel_rfl)
            refine ⟨Facts.wanted_by rfl (by kernel_rfl) g73, ?_, fun _ => rfl⟩
            simp [go_sem, Act.eval, f3]
          · refine Facts.step_is (.slice (some ⟨lb, lo, none⟩) n' lc) fun a W hR hold hnew => ?_
            have f78 : a.tmps.getD 78 undef = .pointer (some ⟨B, 0, none⟩) := hnew 7 78 (by kernel_rfl)
            have g73 : a.tmps.getD 73 undef = .bool false := hnew 2 73 (by kernel_rfl)
            have q := (HC.out W hR).1
            refine ⟨Facts.wanted_by rfl (by kernel_rfl) g73, ?_, fun _ => rfl⟩
            simp [go_sem, Act.eval, f78, q]
          · refine Facts.step_is (.int .i64 (j : Int)) fun a W hR hold hnew => ?_
            have f6 : a.tmps.getD 6 undef = .int .i64 (j : Int) := hold 6 (by kernel_rfl)
            have g73 : a.tmps.getD 73 undef = .bool false := hnew 2 73 (by kernel_rfl)
            refine ⟨Facts.wanted_by rfl (by kernel_rfl) g73, ?_, fun _ => rfl⟩
            simp [go_sem, Act.eval, f6]
          · refine Facts.step_is (.pointer (some ⟨lb, lo + j * 4, none⟩)) fun a W hR hold hnew => ?_
            have f79 : a.tmps.getD 79 undef = .slice (some ⟨lb, lo, none⟩) n' lc := hnew 8 79 (by kernel_rfl)
            have f80 : a.tmps.getD 80 undef = .int .i64 (j : Int) := hnew 9 80 (by kernel_rfl)
            have g73 : a.tmps.getD 73 undef = .bool false := hnew 2 73 (by kernel_rfl)
            refine ⟨Facts.wanted_by rfl (by kernel_rfl) g73, ?_, fun _ => rfl⟩
            simp [go_sem, Act.eval, f79, f80, hij]
          · refine Facts.step_is (.pointer (some ⟨lb, lo + j * 4, none⟩)) fun a W hR hold hnew => ?_
            have f81 : a.tmps.getD 81 undef = .pointer (some ⟨lb, lo + j * 4, none⟩) := hnew 10 81 (by kernel_rfl)
            have g73 : a.tmps.getD 73 undef = .bool false := hnew 2 73 (by kernel_rfl)
            refine ⟨Facts.wanted_by rfl (by kernel_rfl) g73, ?_, fun _ => rfl⟩
            simp [go_sem, Act.eval, f81]
          · refine Facts.step_is (.string key) fun a W hR hold hnew => ?_
            have f82 : a.tmps.getD 82 undef = .pointer (some ⟨lb, lo + j * 4, none⟩) := hnew 11 82 (by kernel_rfl)
            have g73 : a.tmps.getD 73 undef = .bool false := hnew 2 73 (by kernel_rfl)
            have q := (HC.out W hR).2.2.2.1.1
            refine ⟨Facts.wanted_by rfl (by kernel_rfl) g73, ?_, fun _ => rfl⟩
            simp [go_sem, Act.eval, f82, q]
          · refine Facts.step_is (.bool false) fun a W hR hold hnew => ?_
            have f77 : a.tmps.getD 77 undef = .string key := hnew 6 77 (by kernel_rfl)
            have f83 : a.tmps.getD 83 undef = .string key := hnew 12 83 (by kernel_rfl)
            have g73 : a.tmps.getD 73 undef = .bool false := hnew 2 73 (by kernel_rfl)
            refine ⟨Facts.wanted_by rfl (by kernel_rfl) g73, ?_, fun _ => rfl⟩
            simp [go_sem, Act.eval, f77, f83]
          · refine Facts.step_is (.bool false) fun a W hR hold hnew => ?_
            have f73 : a.tmps.getD 73 undef = .bool false := hnew 2 73 (by kernel_rfl)
            have f84 : a.tmps.getD 84 undef = .bool false := hnew 13 84 (by kernel_rfl)
            refine ⟨Facts.wanted_free rfl, ?_, fun _ => rfl⟩
            simp [go_sem, Act.eval, f73, f84]
          · refine Facts.step_is (.bool false) fun a W hR hold hnew => ?_
            have f85 : a.tmps.getD 85 undef = .bool false := hnew 14 85 (by kernel_rfl)
            refine ⟨Facts.wanted_free rfl, ?_, fun _ => rfl⟩
            simp [go_sem, Act.eval, f85]
          · refine Facts.step_is (.pointer (some ⟨b7, 0, none⟩)) fun a W hR hold hnew => ?_
            have f7 : a.tmps.getD 7 undef = .pointer (some ⟨b7, 0, none⟩) := hold 7 (by kernel_rfl)
            have g86 : a.tmps.getD 86 undef = .bool false := hnew 15 86 (by kernel_rfl)
            refine ⟨Facts.wanted_by rfl (by kernel_rfl) g86, ?_, fun _ => rfl⟩
            simp [go_sem, Act.eval, f7]
          · refine Facts.step_is (.int .u8 (K : Int)) fun a W hR hold hnew => ?_
            have f87 : a.tmps.getD 87 undef = .pointer (some ⟨b7, 0, none⟩) := hnew 16 87 (by kernel_rfl)
            have g86 : a.tmps.getD 86 undef = .bool false := hnew 15 86 (by kernel_rfl)
            have q := (HC.out W hR).2.2.1.1
            refine ⟨Facts.wanted_by rfl (by kernel_rfl) g86, ?_, fun _ => rfl⟩
            simp [go_sem, Act.eval, f87, q]
          · refine Facts.step_is (.pointer (some ⟨B, 0, none⟩)) fun a W hR hold hnew => ?_
            have f3 : a.tmps.getD 3 undef = .pointer (some ⟨B, 0, none⟩) := hold 3 (by kernel_rfl)
            have g86 : a.tmps.getD 86 undef = .bool false := hnew 15 86 (by kernel_rfl)
            refine ⟨Facts.wanted_by rfl (by kernel_rfl) g86, ?_, fun _ => rfl⟩
            simp [go_sem, Act.eval, f3]
          · refine Facts.step_is (.slice (some ⟨lb, lo, none⟩) n' lc) fun a W hR hold hnew => ?_
            have f89 : a.tmps.getD 89 undef = .pointer (some ⟨B, 0, none⟩) := hnew 18 89 (by kernel_rfl)
            have g86 : a.tmps.getD 86 undef = .bool false := hnew 15 86 (by kernel_rfl)
            have q := (HC.out W hR).1
            refine ⟨Facts.wanted_by rfl (by kernel_rfl) g86, ?_, fun _ => rfl⟩
            simp [go_sem, Act.eval, f89, q]
          · refine Facts.step_is (.int .i64 (j : Int)) fun a W hR hold hnew => ?_
            have f6 : a.tmps.getD 6 undef = .int .i64 (j : Int) := hold 6 (by kernel_rfl)
            have g86 : a.tmps.getD 86 undef = .bool false := hnew 15 86 (by kernel_rfl)
            refine ⟨Facts.wanted_by rfl (by kernel_rfl) g86, ?_, fun _ => rfl⟩
            simp [go_sem, Act.eval, f6]
          · refine Facts.step_is (.pointer (some ⟨lb, lo + j * 4, none⟩)) fun a W hR hold hnew => ?_
            have f90 : a.tmps.getD 90 undef = .slice (some ⟨lb, lo, none⟩) n' lc := hnew 19 90 (by kernel_rfl)
            have f91 : a.tmps.getD 91 undef = .int .i64 (j : Int) := hnew 20 91 (by kernel_rfl)
            have g86 : a.tmps.getD 86 undef = .bool false := hnew 15 86 (by kernel_rfl)
            refine ⟨Facts.wanted_by rfl (by kernel_rfl) g86, ?_, fun _ => rfl⟩
            simp [go_sem, Act.eval, f90, f91, hij]
          · refine Facts.step_is (.pointer (some ⟨lb, lo + j * 4 + 1, none⟩)) fun a W hR hold hnew => ?_
            have f92 : a.tmps.getD 92 undef = .pointer (some ⟨lb, lo + j * 4, none⟩) := hnew 21 92 (by kernel_rfl)
            have g86 : a.tmps.getD 86 undef = .bool false := hnew 15 86 (by kernel_rfl)
            refine ⟨Facts.wanted_by rfl (by kernel_rfl) g86, ?_, fun _ => rfl⟩
            simp [go_sem, Act.eval, f92]
          · refine Facts.step_is (.int .u8 (K : Int)) fun a W hR hold hnew => ?_
            have f93 : a.tmps.getD 93 undef = .pointer (some ⟨lb, lo + j * 4 + 1, none⟩) := hnew 22 93 (by kernel_rfl)
            have g86 : a.tmps.getD 86 undef = .bool false := hnew 15 86 (by kernel_rfl)
            have q := (HC.out W hR).2.2.2.1.2.1
            refine ⟨Facts.wanted_by rfl (by kernel_rfl) g86, ?_, fun _ => rfl⟩
            simp [go_sem, Act.eval, f93, q]
          · refine Facts.step_is (.bool false) fun a W hR hold hnew => ?_
            have f88 : a.tmps.getD 88 undef = .int .u8 (K : Int) := hnew 17 88 (by kernel_rfl)
            have f94 : a.tmps.getD 94 undef = .int .u8 (K : Int) := hnew 23 94 (by kernel_rfl)
            have g86 : a.tmps.getD 86 undef = .bool false := hnew 15 86 (by kernel_rfl)
            refine ⟨Facts.wanted_by rfl (by kernel_rfl) g86, ?_, fun _ => rfl⟩
            simp [go_sem, Act.eval, f88, f94]
          · refine Facts.step_is (.bool false) fun a W hR hold hnew => ?_
            have f86 : a.tmps.getD 86 undef = .bool false := hnew 15 86 (by kernel_rfl)
            have f95 : a.tmps.getD 95 undef = .bool false := hnew 24 95 (by kernel_rfl)
            refine ⟨Facts.wanted_free rfl, ?_, fun _ => rfl⟩
            simp [go_sem, Act.eval, f86, f95]
          · refine Facts.step_is (.bool false) fun a W hR hold hnew => ?_
            have f96 : a.tmps.getD 96 undef = .bool false := hnew 25 96 (by kernel_rfl)
            refine ⟨Facts.wanted_free rfl, ?_, fun _ => rfl⟩
            simp [go_sem, Act.eval, f96]
          · refine Facts.step_is (.pointer (some ⟨b7, 1, none⟩)) fun a W hR hold hnew => ?_
            have f7 : a.tmps.getD 7 undef = .pointer (some ⟨b7, 0, none⟩) := hold 7 (by kernel_rfl)
            have g97 : a.tmps.getD 97 undef = .bool false := hnew 26 97 (by kernel_rfl)
            refine ⟨Facts.wanted_by rfl (by kernel_rfl) g97, ?_, fun _ => rfl⟩
            simp [go_sem, Act.eval, f7]
          · refine Facts.step_is (.slice A3 n3 c3) fun a W hR hold hnew => ?_
            have f98 : a.tmps.getD 98 undef = .pointer (some ⟨b7, 1, none⟩) := hnew 27 98 (by kernel_rfl)
            have g97 : a.tmps.getD 97 undef = .bool false := hnew 26 97 (by kernel_rfl)
            have q := (HC.out W hR).2.2.1.2.1
            refine ⟨Facts.wanted_by rfl (by kernel_rfl) g97, ?_, fun _ => rfl⟩
            simp [go_sem, Act.eval, f98, q]
          · refine Facts.step_is (.string TS) fun a W hR hold hnew => ?_
            have f99 : a.tmps.getD 99 undef = .slice A3 n3 c3 := hnew 28 99 (by kernel_rfl)
            have g97 : a.tmps.getD 97 undef = .bool false := hnew 26 97 (by kernel_rfl)
            have q := STX.out W A3 n3 c3 (HC.out W hR).2.2.2.2.1
            refine ⟨Facts.wanted_by rfl (by kernel_rfl) g97, ?_, fun _ => rfl⟩
            simp [go_sem, Act.eval, f99, q]
          · refine Facts.step_is (.pointer (some ⟨B, 0, none⟩)) fun a W hR hold hnew => ?_
            have f3 : a.tmps.getD 3 undef = .pointer (some ⟨B, 0, none⟩) := hold 3 (by kernel_rfl)
            have g97 : a.tmps.getD 97 undef = .bool false := hnew 26 97 (by kernel_rfl)
            refine ⟨Facts.wanted_by rfl (by kernel_rfl) g97, ?_, fun _ => rfl⟩
            simp [go_sem, Act.eval, f3]
          · refine Facts.step_is (.slice (some ⟨lb, lo, none⟩) n' lc) fun a W hR hold hnew => ?_
            have f101 : a.tmps.getD 101 undef = .pointer (some ⟨B, 0, none⟩) := hnew 30 101 (by kernel_rfl)
            have g97 : a.tmps.getD 97 undef = .bool false := hnew 26 97 (by kernel_rfl)
            have q := (HC.out W hR).1
            refine ⟨Facts.wanted_by rfl (by kernel_rfl) g97, ?_, fun _ => rfl⟩
            simp [go_sem, Act.eval, f101, q]
          · refine Facts.step_is (.int .i64 (j : Int)) fun a W hR hold hnew => ?_
            have f6 : a.tmps.getD 6 undef = .int .i64 (j : Int) := hold 6 (by kernel_rfl)
            have g97 : a.tmps.getD 97 undef = .bool false := hnew 26 97 (by kernel_rfl)
            refine ⟨Facts.wanted_by rfl (by kernel_rfl) g97, ?_, fun _ => rfl⟩
            simp [go_sem, Act.eval, f6]
          · refine Facts.step_is (.pointer (some ⟨lb, lo + j * 4, none⟩)) fun a W hR hold hnew => ?_
            have f102 : a.tmps.getD 102 undef = .slice (some ⟨lb, lo, none⟩) n' lc := hnew 31 102 (by kernel_rfl)
            have f103 : a.tmps.getD 103 undef = .int .i64 (j : Int) := hnew 32 103 (by kernel_rfl)
            have g97 : a.tmps.getD 97 undef = .bool false := hnew 26 97 (by kernel_rfl)
            refine ⟨Facts.wanted_by rfl (by kernel_rfl) g97, ?_, fun _ => rfl⟩
            simp [go_sem, Act.eval, f102, f103, hij]
          · refine Facts.step_is (.pointer (some ⟨lb, lo + j * 4 + 2, none⟩)) fun a W hR hold hnew => ?_
            have f104 : a.tmps.getD 104 undef = .pointer (some ⟨lb, lo + j * 4, none⟩) := hnew 33 104 (by kernel_rfl)
            have g97 : a.tmps.getD 97 undef = .bool false := hnew 26 97 (by kernel_rfl)
            refine ⟨Facts.wanted_by rfl (by kernel_rfl) g97, ?_, fun _ => rfl⟩
            simp [go_sem, Act.eval, f104]
          · refine Facts.step_is (.slice A tx.length tc) fun a W hR hold hnew => ?_
            have f105 : a.tmps.getD 105 undef = .pointer (some ⟨lb, lo + j * 4 + 2, none⟩) := hnew 34 105 (by kernel_rfl)
            have g97 : a.tmps.getD 97 undef = .bool false := hnew 26 97 (by kernel_rfl)
            have q := (HC.out W hR).2.2.2.1.2.2.1
            refine ⟨Facts.wanted_by rfl (by kernel_rfl) g97, ?_, fun _ => rfl⟩
            simp [go_sem, Act.eval, f105, q]
          · refine Facts.step_is (.string TS) fun a W hR hold hnew => ?_
            have f106 : a.tmps.getD 106 undef = .slice A tx.length tc := hnew 35 106 (by kernel_rfl)
            have g97 : a.tmps.getD 97 undef = .bool false := hnew 26 97 (by kernel_rfl)
            have q := STX.out W A tx.length tc (HC.out W hR).2.2.2.2.2
            refine ⟨Facts.wanted_by rfl (by kernel_rfl) g97, ?_, fun _ => rfl⟩
            simp [go_sem, Act.eval, f106, q]
          · refine Facts.step_is (.bool false) fun a W hR hold hnew => ?_
            have f100 : a.tmps.getD 100 undef = .string TS := hnew 29 100 (by kernel_rfl)
            have f107 : a.tmps.getD 107 undef = .string TS := hnew 36 107 (by kernel_rfl)
            have g97 : a.tmps.getD 97 undef = .bool false := hnew 26 97 (by kernel_rfl)
            refine ⟨Facts.wanted_by rfl (by kernel_rfl) g97, ?_, fun _ => rfl⟩
            simp [go_sem, Act.eval, f100, f107]
          · refine Facts.step_is (.bool false) fun a W hR hold hnew => ?_
            have f97 : a.tmps.getD 97 undef = .bool false := hnew 26 97 (by kernel_rfl)
            have f108 : a.tmps.getD 108 undef = .bool false := hnew 37 108 (by kernel_rfl)
            refine ⟨Facts.wanted_free rfl, ?_, fun _ => rfl⟩
            simp [go_sem, Act.eval, f97, f108]
          · refine Facts.step_is (.bool false) fun a W hR hold hnew => ?_
            have f109 : a.tmps.getD 109 undef = .bool false := hnew 38 109 (by kernel_rfl)
            refine ⟨Facts.wanted_free rfl, ?_, fun _ => rfl⟩
            simp [go_sem, Act.eval, f109]
          · refine Facts.step_is (.pointer (some ⟨b7, 2, none⟩)) fun a W hR hold hnew => ?_
            have f7 : a.tmps.getD 7 undef = .pointer (some ⟨b7, 0, none⟩) := hold 7 (by kernel_rfl)
            have g110 : a.tmps.getD 110 undef = .bool false := hnew 39 110 (by kernel_rfl)
            refine ⟨Facts.wanted_by rfl (by kernel_rfl) g110, ?_, fun _ => rfl⟩
            simp [go_sem, Act.eval, f7]
          · refine Facts.step_is (.float .f64 Q) fun a W hR hold hnew => ?_
            have f111 : a.tmps.getD 111 undef = .pointer (some ⟨b7, 2, none⟩) := hnew 40 111 (by kernel_rfl)
            have g110 : a.tmps.getD 110 undef = .bool false := hnew 39 110 (by kernel_rfl)
            have q := (HC.out W hR).2.2.1.2.2
            refine ⟨Facts.wanted_by rfl (by kernel_rfl) g110, ?_, fun _ => rfl⟩
            simp [go_sem, Act.eval, f111, q]
          · refine Facts.step_call fun a W hR hold hnew => ?_
            have f112 : a.tmps.getD 112 undef = .float .f64 Q := hnew 41 112 (by kernel_rfl)
            have g110 : a.tmps.getD 110 undef = .bool false := hnew 39 110 (by kernel_rfl)
            refine ⟨Facts.wanted_by rfl (by kernel_rfl) g110, 37, #[.float .f64 Q], by simp [go_sem, Act.eval, f112], ?_⟩
            refine (refBits_any Q W).mono ?_
            rintro e w8 ⟨rfl, rfl⟩
            exact ⟨_, rfl, Below.refl _ _, by rw [HQ.out.2]; rfl⟩
          · refine Facts.step_is (.pointer (some ⟨B, 0, none⟩)) fun a W hR hold hnew => ?_
            have f3 : a.tmps.getD 3 undef = .pointer (some ⟨B, 0, none⟩) := hold 3 (by kernel_rfl)
            have g110 : a.tmps.getD 110 undef = .bool false := hnew 39 110 (by kernel_rfl)
            refine ⟨Facts.wanted_by rfl (by kernel_rfl) g110, ?_, fun _ => rfl⟩
            simp [go_sem, Act.eval, f3]
          · refine Facts.step_is (.slice (some ⟨lb, lo, none⟩) n' lc) fun a W hR hold hnew => ?_
            have f114 : a.tmps.getD 114 undef = .pointer (some ⟨B, 0, none⟩) := hnew 43 114 (by kernel_rfl)
            have g110 : a.tmps.getD 110 undef = .bool false := hnew 39 110 (by kernel_rfl)
            have q := (HC.out W hR).1
            refine ⟨Facts.wanted_by rfl (by kernel_rfl) g110, ?_, fun _ => rfl⟩
            simp [go_sem, Act.eval, f114, q]
          · refine Facts.step_is (.int .i64 (j : Int)) fun a W hR hold hnew => ?_
            have f6 : a.tmps.getD 6 undef = .int .i64 (j : Int) := hold 6 (by kernel_rfl)
            have g110 : a.tmps.getD 110 undef = .bool false := hnew 39 110 (by kernel_rfl)
            refine ⟨Facts.wanted_by rfl (by kernel_rfl) g110, ?_, fun _ => rfl⟩
            simp [go_sem, Act.eval, f6]
          · refine Facts.step_is (.pointer (some ⟨lb, lo + j * 4, none⟩)) fun a W hR hold hnew => ?_
            have f115 : a.tmps.getD 115 undef = .slice (some ⟨lb, lo, none⟩) n' lc := hnew 44 115 (by kernel_rfl)
            have f116 : a.tmps.getD 116 undef = .int .i64 (j : Int) := hnew 45 116 (by kernel_rfl)
            have g110 : a.tmps.getD 110 undef = .bool false := hnew 39 110 (by kernel_rfl)
            refine ⟨Facts.wanted_by rfl (by kernel_rfl) g110, ?_, fun _ => rfl⟩
            simp [go_sem, Act.eval, f115, f116, hij]
          · refine Facts.step_is (.pointer (some ⟨lb, lo + j * 4 + 3, none⟩)) fun a W hR hold hnew => ?_
            have f117 : a.tmps.getD 117 undef = .pointer (some ⟨lb, lo + j * 4, none⟩) := hnew 46 117 (by kernel_rfl)
            have g110 : a.tmps.getD 110 undef = .bool false := hnew 39 110 (by kernel_rfl)
            refine ⟨Facts.wanted_by rfl (by kernel_rfl) g110, ?_, fun _ => rfl⟩
            simp [go_sem, Act.eval, f117]
          · refine Facts.step_is (.float .f64 nm) fun a W hR hold hnew => ?_
            have f118 : a.tmps.getD 118 undef = .pointer (some ⟨lb, lo + j * 4 + 3, none⟩) := hnew 47 118 (by kernel_rfl)
            have g110 : a.tmps.getD 110 undef = .bool false := hnew 39 110 (by kernel_rfl)
            have q := (HC.out W hR).2.2.2.1.2.2.2
            refine ⟨Facts.wanted_by rfl (by kernel_rfl) g110, ?_, fun _ => rfl⟩
            simp [go_sem, Act.eval, f118, q]
          · refine Facts.step_call fun a W hR hold hnew => ?_
            have f119 : a.tmps.getD 119 undef = .float .f64 nm := hnew 48 119 (by kernel_rfl)
            have g110 : a.tmps.getD 110 undef = .bool false := hnew 39 110 (by kernel_rfl)
            refine ⟨Facts.wanted_by rfl (by kernel_rfl) g110, 37, #[.float .f64 nm], by simp [go_sem, Act.eval, f119], ?_⟩
            refine (refBits_any nm W).mono ?_
            rintro e w8 ⟨rfl, rfl⟩
            exact ⟨_, rfl, Below.refl _ _, by rw [← HQ.out.1]; rfl⟩
          · refine Facts.step_is (.bool false) fun a W hR hold hnew => ?_
            have f113 : a.tmps.getD 113 undef = .int .u64 (Q : Int) := hnew 42 113 (by kernel_rfl)
            have f120 : a.tmps.getD 120 undef = .int .u64 (Q : Int) := hnew 49 120 (by kernel_rfl)
            have g110 : a.tmps.getD 110 undef = .bool false := hnew 39 110 (by kernel_rfl)
            refine ⟨Facts.wanted_by rfl (by kernel_rfl) g110, ?_, fun _ => rfl⟩
            simp [go_sem, Act.eval, f113, f120]
          · refine Facts.step_is (.bool false) fun a W hR hold hnew => ?_
            have f110 : a.tmps.getD 110 undef = .bool false := hnew 39 110 (by kernel_rfl)
            have f121 : a.tmps.getD 121 undef = .bool false := hnew 50 121 (by kernel_rfl)
            refine ⟨Facts.wanted_free rfl, ?_, fun _ => rfl⟩
            simp [go_sem, Act.eval, f110, f121]
        · intro a w9 hR' hsize hdef hnew hold
          have f122 : a.tmps.getD 122 undef = .bool false := hnew 51 122 (by kernel_rfl)
          obtain ⟨tm9, df⟩ := a
          have hfr := Ord.frame_region hsize (by rfl) (fun t ht => hold t ht)
          clear hnew hold
          simp only [List.filterMap_cons, List.filterMap_nil] at hfr
          simp only [List.foldl_cons, List.foldl_nil, List.setIfInBounds_toArray, List.set_cons_succ, List.set_cons_zero] at hfr
          simp only [] at f122 hdef
          rw [f122] at hfr
          clear f122 hsize
          generalize tm9.getD 71 undef = y71 at hfr
          generalize tm9.getD 72 undef = y72 at hfr
          generalize tm9.getD 73 undef = y73 at hfr
          generalize tm9.getD 74 undef = y74 at hfr
          generalize tm9.getD 75 undef = y75 at hfr
          generalize tm9.getD 76 undef = y76 at hfr
          generalize tm9.getD 77 undef = y77 at hfr
          generalize tm9.getD 78 undef = y78 at hfr
          generalize tm9.getD 79 undef = y79 at hfr
          generalize tm9.getD 80 undef = y80 at hfr
          generalize tm9.getD 81 undef = y81 at hfr
          generalize tm9.getD 82 undef = y82 at hfr
          generalize tm9.getD 83 undef = y83 at hfr
          generalize tm9.getD 84 undef = y84 at hfr
          generalize tm9.getD 85 undef = y85 at hfr
          generalize tm9.getD 86 undef = y86 at hfr
          generalize tm9.getD 87 undef = y87 at hfr
          generalize tm9.getD 88 undef = y88 at hfr
          generalize tm9.getD 89 undef = y89 at hfr
          generalize tm9.getD 90 undef = y90 at hfr
          generalize tm9.getD 91 undef = y91 at hfr
          generalize tm9.getD 92 undef = y92 at hfr
          generalize tm9.getD 93 undef = y93 at hfr
          generalize tm9.getD 94 undef = y94 at hfr
          generalize tm9.getD 95 undef = y95 at hfr
          generalize tm9.getD 96 undef = y96 at hfr
          generalize tm9.getD 97 undef = y97 at hfr
          generalize tm9.getD 98 undef = y98 at hfr
          generalize tm9.getD 99 undef = y99 at hfr
          generalize tm9.getD 100 undef = y100 at hfr
          generalize tm9.getD 101 undef = y101 at hfr
          generalize tm9.getD 102 undef = y102 at hfr
          generalize tm9.getD 103 undef = y103 at hfr
          generalize tm9.getD 104 undef = y104 at hfr
          generalize tm9.getD 105 undef = y105 at hfr
          generalize tm9.getD 106 undef = y106 at hfr
          generalize tm9.getD 107 undef = y107 at hfr
          generalize tm9.getD 108 undef = y108 at hfr
          generalize tm9.getD 109 undef = y109 at hfr
          generalize tm9.getD 110 undef = y110 at hfr
          generalize tm9.getD 111 undef = y111 at hfr
          generalize tm9.getD 112 undef = y112 at hfr
          generalize tm9.getD 113 undef = y113 at hfr
          generalize tm9.getD 114 undef = y114 at hfr
          generalize tm9.getD 115 undef = y115 at hfr
          generalize tm9.getD 116 undef = y116 at hfr
          generalize tm9.getD 117 undef = y117 at hfr
          generalize tm9.getD 118 undef = y118 at hfr
          generalize tm9.getD 119 undef = y119 at hfr
          generalize tm9.getD 120 undef = y120 at hfr
          generalize tm9.getD 121 undef = y121 at hfr
          subst hfr
          subst hdef
          have hb9 := (Below.refl w4.heap.size w4).drew.trans hR'
          have B9 := Lib.hid (B4.out.trans (hb9.mono B4.out.size))
          have KO9 := Lib.hid (Own.below KO4.out hb9 (Nat.le_refl _))
          clear hR' hb9 HC
          go_wp2
          go_roundw
          case rel => exact ⟨j + 1, by simp, by omega, B9, KO9⟩
          case measure => first | (simp [intOf]; done) | (simp [intOf]; omega)
      · obtain rfl : j = n' := by omega
        have hd : decide ((j : Int) < (j : Int)) = false := decide_eq_false (by omega)
        go_wp2_with fail
        refine (ME.out _ HBw.out).mono ?_
        rintro e w5 ⟨MA, mc, rfl, own5, hb5⟩
        have B5 := Lib.hid (HBw.out.trans (hb5.mono HBw.out.size))
        have OW5 := Lib.hid (Own.lower (base' := u.heap.size) own5 HBw.out.size)
        clear own5 hb5 ME
        go_wp2_with fail
        go_loopw [10, 11, 12, 13, 14] (fun a b c d' e' wr => ∃ (N : Int) (k : Nat), a = .int .i64 (k : Int) ∧ b = .int .i64 N ∧ -1 ≤ N ∧ N ≤ 66 ∧ k ≤ 64 ∧ Hid (k = (memL F (min N.toNat 64)).length) ∧ Hid (Below u.heap.size u wr) ∧ Hid (wr.ownsRow u.heap.size 3 1 (.slice MA mn mc) mn (nodesV (memL F 64)))) (fun _ b _ _ _ _ => (66 - intOf b).toNat)
        case atStart => exact ⟨-1, 0, rfl, rfl, by omega, by omega, by omega, Lib.hid rfl, B5, OW5⟩
        case round =>
          obtain ⟨N, k, rfl, rfl, hN1, hN2, hk64, HK, HBz, HMO⟩ := hrel
          by_cases hlt2 : N < 66
          · have hNlt : decide (N < 66) = true := decide_eq_true hlt2
            by_cases h0 : 0 ≤ N
            · have hd0 : decide (N ≥ 0) = true := decide_eq_true h0
              have hd1 : decide (0 ≤ N) = true := decide_eq_true h0
              by_cases h64 : N < 64
              · have hd2 : decide (N < 64) = true := decide_eq_true h64
                obtain ⟨n, rfl⟩ := Int.eq_ofNat_of_zero_le h0
                have hn64 : n < 64 := by omega
                have hlJ : n < F.J.length := by rw [HOK.out.j]; exact hn64
                have hlR : n < F.R.length := by rw [HOK.out.r]; exact hn64
                obtain ⟨bj, oj, rfl, hcj⟩ := (HR.out.below (TOW.out wr HBz.out)).J.get (j := n) (v := .bool (F.J.getD n false)) (by unfold bs; rw [List.getElem?_map, List.getElem?_eq_getElem hlJ, List.getD_eq_getElem?_getD, List.getElem?_eq_getElem hlJ]; rfl)
                obtain ⟨br, or, hRa, hcr⟩ := (HR.out.below (TOW.out wr HBz.out)).R.get (j := n) (v := .bool (F.R.getD n false)) (by unfold bs; rw [List.getElem?_map, List.getElem?_eq_getElem hlR, List.getD_eq_getElem?_getD, List.getElem?_eq_getElem hlR]; rfl)
                simp only at hRa
                subst hRa
                obtain ⟨c0, c1, c2, c3, c4, c5, c6⟩ := CELLS.out wr HBz.out
                obtain ⟨jb, hjb⟩ : ∃ jb, F.J.getD n false = jb := ⟨_, rfl⟩
                obtain ⟨rb, hrb⟩ : ∃ rb, F.R.getD n false = rb := ⟨_, rfl⟩
                clear hlJ hlR
                cases jb with
                | false =>
                  cases rb with
                  | false =>
                    have hmb : memB F (n : Int) = false := by unfold memB; rw [inSet_mid F.J hn64, inSet_mid F.R hn64, hjb, hrb]; rfl
                    have JO := Lib.hid (fun (W : World) (hW' : Below u.heap.size u W) => (by
                      have := joined_any (n : Int) W (HH.out.below (TOW.out W hW'))
                      rw [inSet_mid F.J hn64, hjb] at this
                      exact this : Calls Tryz.prog 39 #[.pointer (some ⟨d, 0, none⟩), .int .i64 (n : Int)] W fun e w' => e = .returned (.bool false) ∧ Below W.heap.size W w'))
                    have RO := Lib.hid (fun (W : World) (hW' : Below u.heap.size u W) => (by
                      have := retired_any (n : Int) W (HH.out.below (TOW.out W hW'))
                      rw [inSet_mid F.R hn64, hrb] at this
                      exact this : Calls Tryz.prog 40 #[.pointer (some ⟨d, 0, none⟩), .int .i64 (n : Int)] W fun e w' => e = .returned (.bool false) ∧ Below W.heap.size W w'))
                    have MO := Lib.hid (fun (W : World) (hW' : Below u.heap.size u W) => (by
                      have := member_any (n : Int) W (HH.out.below (TOW.out W hW'))
                      rw [hmb] at this
                      exact this : Calls Tryz.prog 41 #[.pointer (some ⟨d, 0, none⟩), .int .i64 (n : Int)] W fun e w' => e = .returned (.bool false) ∧ Below W.heap.size W w'))
                    rw [hjb] at hcj
                    rw [hrb] at hcr
                    have HK' : Hid (k = (memL F (min (((n : Int) + 1).toNat) 64)).length) := Lib.hid (by rw [show min (((n : Int) + 1).toNat) 64 = n + 1 by omega, memL_no F hmb, HK.out]; congr 2; omega)
                    clear hjb hrb hmb
                    go_wp2_with fail
                    refine (JO.out _ HBz.out).mono ?_
                    rintro e w6 ⟨rfl, hb6⟩
                    have B6 := Lib.hid (HBz.out.trans (hb6.mono HBz.out.size))
                    have Z6 := Lib.hid hb6
                    clear hb6 hcj hcr
                    go_wp2_with fail
                    refine (RO.out _ B6.out).mono ?_
                    rintro e w7 ⟨rfl, hb7⟩
                    have B7 := Lib.hid (B6.out.trans (hb7.mono B6.out.size))
                    have Z7 := Lib.hid (Z6.out.trans (hb7.mono Z6.out.size))
                    clear hb7
                    go_wp2_with fail
                    refine (MO.out _ B7.out).mono ?_
                    rintro e w8 ⟨rfl, hb8⟩
                    have B8 := Lib.hid (B7.out.trans (hb8.mono B7.out.size))
                    have Z8 := Lib.hid (Z7.out.trans (hb8.mono Z7.out.size))
                    have MO8 := Lib.hid (Own.below HMO.out Z8.out (Nat.le_refl _))
                    clear hb8
                    go_wp2
                    go_roundw
                    case rel => exact ⟨(n : Int) + 1, k, by simp, by simp, by omega, by omega, by omega, HK', B8, MO8⟩
                    case measure => first | (simp [intOf]; done) | (simp [intOf]; omega)
                  | true =>
                    have hmb : memB F (n : Int) = false := by unfold memB; rw [inSet_mid F.J hn64, inSet_mid F.R hn64, hjb, hrb]; rfl
                    have JO := Lib.hid (fun (W : World) (hW' : Below u.heap.size u W) => (by
                      have := joined_any (n : Int) W (HH.out.below (TOW.out W hW'))
                      rw [inSet_mid F.J hn64, hjb] at this
                      exact this : Calls Tryz.prog 39 #[.pointer (some ⟨d, 0, none⟩), .int .i64 (n : Int)] W fun e w' => e = .returned (.bool false) ∧ Below W.heap.size W w'))
                    have RO := Lib.hid (fun (W : World) (hW' : Below u.heap.size u W) => (by
                      have := retired_any (n : Int) W (HH.out.below (TOW.out W hW'))
                      rw [inSet_mid F.R hn64, hrb] at this
                      exact this : Calls Tryz.prog 40 #[.pointer (some ⟨d, 0, none⟩), .int .i64 (n : Int)] W fun e w' => e = .returned (.bool true) ∧ Below W.heap.size W w'))
                    have MO := Lib.hid (fun (W : World) (hW' : Below u.heap.size u W) => (by
                      have := member_any (n : Int) W (HH.out.below (TOW.out W hW'))
                      rw [hmb] at this
                      exact this : Calls Tryz.prog 41 #[.pointer (some ⟨d, 0, none⟩), .int .i64 (n : Int)] W fun e w' => e = .returned (.bool false) ∧ Below W.heap.size W w'))
                    rw [hjb] at hcj
                    rw [hrb] at hcr
                    have HK' : Hid (k = (memL F (min (((n : Int) + 1).toNat) 64)).length) := Lib.hid (by rw [show min (((n : Int) + 1).toNat) 64 = n + 1 by omega, memL_no F hmb, HK.out]; congr 2; omega)
                    clear hjb hrb hmb
                    go_wp2_with fail
                    refine (JO.out _ HBz.out).mono ?_
                    rintro e w6 ⟨rfl, hb6⟩
                    have B6 := Lib.hid (HBz.out.trans (hb6.mono HBz.out.size))
                    have Z6 := Lib.hid hb6
                    clear hb6 hcj hcr
                    go_wp2_with fail
                    refine (RO.out _ B6.out).mono ?_
                    rintro e w7 ⟨rfl, hb7⟩
                    have B7 := Lib.hid (B6.out.trans (hb7.mono B6.out.size))
                    have Z7 := Lib.hid (Z6.out.trans (hb7.mono Z6.out.size))
                    clear hb7
                    go_wp2_with fail
                    refine (MO.out _ B7.out).mono ?_
                    rintro e w8 ⟨rfl, hb8⟩
                    have B8 := Lib.hid (B7.out.trans (hb8.mono B7.out.size))
                    have Z8 := Lib.hid (Z7.out.trans (hb8.mono Z7.out.size))
                    have MO8 := Lib.hid (Own.below HMO.out Z8.out (Nat.le_refl _))
                    clear hb8
                    go_wp2
                    go_roundw
                    case rel => exact ⟨(n : Int) + 1, k, by simp, by simp, by omega, by omega, by omega, HK', B8, MO8⟩
                    case measure => first | (simp [intOf]; done) | (simp [intOf]; omega)
                | true =>
                  cases rb with
                  | false =>
                    have hmb : memB F (n : Int) = true := by unfold memB; rw [inSet_mid F.J hn64, inSet_mid F.R hn64, hjb, hrb]; rfl
                    have JO := Lib.hid (fun (W : World) (hW' : Below u.heap.size u W) => (by
                      have := joined_any (n : Int) W (HH.out.below (TOW.out W hW'))
                      rw [inSet_mid F.J hn64, hjb] at this
                      exact this : Calls Tryz.prog 39 #[.pointer (some ⟨d, 0, none⟩), .int .i64 (n : Int)] W fun e w' => e = .returned (.bool true) ∧ Below W.heap.size W w'))
                    have RO := Lib.hid (fun (W : World) (hW' : Below u.heap.size u W) => (by
                      have := retired_any (n : Int) W (HH.out.below (TOW.out W hW'))
                      rw [inSet_mid F.R hn64, hrb] at this
                      exact this : Calls Tryz.prog 40 #[.pointer (some ⟨d, 0, none⟩), .int .i64 (n : Int)] W fun e w' => e = .returned (.bool false) ∧ Below W.heap.size W w'))
                    have MO := Lib.hid (fun (W : World) (hW' : Below u.heap.size u W) => (by
                      have := member_any (n : Int) W (HH.out.below (TOW.out W hW'))
                      rw [hmb] at this
                      exact this : Calls Tryz.prog 41 #[.pointer (some ⟨d, 0, none⟩), .int .i64 (n : Int)] W fun e w' => e = .returned (.bool true) ∧ Below W.heap.size W w'))
                    rw [hjb] at hcj
                    rw [hrb] at hcr
                    have hkn : k = (memL F n).length := by rw [HK.out]; congr 2; omega
                    have hkm : k < mn := by rw [hkn, HMN.out]; exact memL_lt F hn64 hmb
                    obtain ⟨gm, om, rfl, hcm⟩ := (SeesV.of_own (S := []) HMO.out (by simp)).get (j := k) (v := .int .i64 (n : Int)) (by unfold nodesV; rw [List.getElem?_map, hkn, memL_get F hn64 hmb]; rfl)
                    have hkm1 : decide ((k : Int) ≥ (mn : Int)) = false := decide_eq_false (by omega)
                    have hkm2 : decide ((mn : Int) ≤ (k : Int)) = false := decide_eq_false (by omega)
                    have hkm3 : (k : Int) < (mn : Int) := by omega
                    have HCM := Lib.hid (fun (W : World) (hW' : Below wr.heap.size wr W) => (hW'.cell (p := ⟨gm, om + k, none⟩) (World.block_lt_of_cell? _ _ hcm)).trans hcm)
                    have HK' : Hid (k + 1 = (memL F (min (((n : Int) + 1).toNat) 64)).length) := Lib.hid (by rw [show min (((n : Int) + 1).toNat) 64 = n + 1 by omega, memL_yes F hmb, ← hkn])
                    clear hcm hkn hkm
                    clear hjb hrb hmb
                    go_wp2_with fail
                    refine (JO.out _ HBz.out).mono ?_
                    rintro e w6 ⟨rfl, hb6⟩
                    have B6 := Lib.hid (HBz.out.trans (hb6.mono HBz.out.size))
                    have Z6 := Lib.hid hb6
                    clear hb6 hcj hcr
                    go_wp2_with fail
                    refine (RO.out _ B6.out).mono ?_
                    rintro e w7 ⟨rfl, hb7⟩
                    have B7 := Lib.hid (B6.out.trans (hb7.mono B6.out.size))
                    have Z7 := Lib.hid (Z6.out.trans (hb7.mono Z6.out.size))
                    clear hb7
                    go_wp2_with fail
                    refine (MO.out _ B7.out).mono ?_
                    rintro e w8 ⟨rfl, hb8⟩
                    have B8 := Lib.hid (B7.out.trans (hb8.mono B7.out.size))
                    have Z8 := Lib.hid (Z7.out.trans (hb8.mono Z7.out.size))
                    have MO8 := Lib.hid (Own.below HMO.out Z8.out (Nat.le_refl _))
                    clear hb8
                    have hcm := HCM.out w8 Z8.out
                    go_wp2
                    go_roundw
                    case rel => exact ⟨(n : Int) + 1, k + 1, by simp, by simp, by omega, by omega, by omega, HK', B8, MO8⟩
                    case measure => first | (simp [intOf]; done) | (simp [intOf]; omega)
                  | true =>
                    have hmb : memB F (n : Int) = false := by unfold memB; rw [inSet_mid F.J hn64, inSet_mid F.R hn64, hjb, hrb]; rfl
                    have JO := Lib.hid (fun (W : World) (hW' : Below u.heap.size u W) => (by
                      have := joined_any (n : Int) W (HH.out.below (TOW.out W hW'))
                      rw [inSet_mid F.J hn64, hjb] at this
                      exact this : Calls Tryz.prog 39 #[.pointer (some ⟨d, 0, none⟩), .int .i64 (n : Int)] W fun e w' => e = .returned (.bool true) ∧ Below W.heap.size W w'))
                    have RO := Lib.hid (fun (W : World) (hW' : Below u.heap.size u W) => (by
                      have := retired_any (n : Int) W (HH.out.below (TOW.out W hW'))
                      rw [inSet_mid F.R hn64, hrb] at this
                      exact this : Calls Tryz.prog 40 #[.pointer (some ⟨d, 0, none⟩), .int .i64 (n : Int)] W fun e w' => e = .returned (.bool true) ∧ Below W.heap.size W w'))
                    have MO := Lib.hid (fun (W : World) (hW' : Below u.heap.size u W) => (by
                      have := member_any (n : Int) W (HH.out.below (TOW.out W hW'))
                      rw [hmb] at this
                      exact this : Calls Tryz.prog 41 #[.pointer (some ⟨d, 0, none⟩), .int .i64 (n : Int)] W fun e w' => e = .returned (.bool false) ∧ Below W.heap.size W w'))
                    rw [hjb] at hcj
                    rw [hrb] at hcr
                    have HK' : Hid (k = (memL F (min (((n : Int) + 1).toNat) 64)).length) := Lib.hid (by rw [show min (((n : Int) + 1).toNat) 64 = n + 1 by omega, memL_no F hmb, HK.out]; congr 2; omega)
                    clear hjb hrb hmb
                    go_wp2_with fail
                    refine (JO.out _ HBz.out).mono ?_
                    rintro e w6 ⟨rfl, hb6⟩
                    have B6 := Lib.hid (HBz.out.trans (hb6.mono HBz.out.size))
                    have Z6 := Lib.hid hb6
                    clear hb6 hcj hcr
                    go_wp2_with fail
                    refine (RO.out _ B6.out).mono ?_
                    rintro e w7 ⟨rfl, hb7⟩
                    have B7 := Lib.hid (B6.out.trans (hb7.mono B6.out.size))
                    have Z7 := Lib.hid (Z6.out.trans (hb7.mono Z6.out.size))
                    clear hb7
                    go_wp2_with fail
                    refine (MO.out _ B7.out).mono ?_
                    rintro e w8 ⟨rfl, hb8⟩
                    have B8 := Lib.hid (B7.out.trans (hb8.mono B7.out.size))
                    have Z8 := Lib.hid (Z7.out.trans (hb8.mono Z7.out.size))
                    have MO8 := Lib.hid (Own.below HMO.out Z8.out (Nat.le_refl _))
                    clear hb8
                    go_wp2
                    go_roundw
                    case rel => exact ⟨(n : Int) + 1, k, by simp, by simp, by omega, by omega, by omega, HK', B8, MO8⟩
                    case measure => first | (simp [intOf]; done) | (simp [intOf]; omega)
              · have hd2 : decide (N < 64) = false := decide_eq_false h64
                have HI := fun l => inSet_hi l (n := N) (by omega)
                have HK' : Hid (k = (memL F (min ((N + 1).toNat) 64)).length) := Lib.hid (by rw [HK.out]; congr 2; omega)
                have JO := Lib.hid (fun (W : World) (hW' : Below u.heap.size u W) => (by
                  have := joined_any N W (HH.out.below (TOW.out W hW'))
                  rw [HI F.J] at this
                  exact this : Calls Tryz.prog 39 #[.pointer (some ⟨d, 0, none⟩), .int .i64 N] W fun e w' => e = .returned (.bool false) ∧ Below W.heap.size W w'))
                have RO := Lib.hid (fun (W : World) (hW' : Below u.heap.size u W) => (by
                  have := retired_any N W (HH.out.below (TOW.out W hW'))
                  rw [HI F.R] at this
                  exact this : Calls Tryz.prog 40 #[.pointer (some ⟨d, 0, none⟩), .int .i64 N] W fun e w' => e = .returned (.bool false) ∧ Below W.heap.size W w'))
                have MO := Lib.hid (fun (W : World) (hW' : Below u.heap.size u W) => (by
                  have := member_any N W (HH.out.below (TOW.out W hW'))
                  unfold memB at this
                  rw [HI F.J] at this
                  exact this : Calls Tryz.prog 41 #[.pointer (some ⟨d, 0, none⟩), .int .i64 N] W fun e w' => e = .returned (.bool false) ∧ Below W.heap.size W w'))
                clear HI
                go_wp2_with fail
                refine (JO.out _ HBz.out).mono ?_
                rintro e w6 ⟨rfl, hb6⟩
                have B6 := Lib.hid (HBz.out.trans (hb6.mono HBz.out.size))
                have Z6 := Lib.hid hb6
                clear hb6
                go_wp2_with fail
                refine (RO.out _ B6.out).mono ?_
                rintro e w7 ⟨rfl, hb7⟩
                have B7 := Lib.hid (B6.out.trans (hb7.mono B6.out.size))
                have Z7 := Lib.hid (Z6.out.trans (hb7.mono Z6.out.size))
                clear hb7
                go_wp2_with fail
                refine (MO.out _ B7.out).mono ?_
                rintro e w8 ⟨rfl, hb8⟩
                have B8 := Lib.hid (B7.out.trans (hb8.mono B7.out.size))
                have Z8 := Lib.hid (Z7.out.trans (hb8.mono Z7.out.size))
                have MO8 := Lib.hid (Own.below HMO.out Z8.out (Nat.le_refl _))
                clear hb8
                go_wp2
                go_roundw
                case rel => exact ⟨N + 1, k, by simp, by simp, by omega, by omega, by omega, HK', B8, MO8⟩
                case measure => first | (simp [intOf]; done) | (simp [intOf]; omega)
            · have hd0 : decide (N ≥ 0) = false := decide_eq_false h0
              have hd1 : decide (0 ≤ N) = false := decide_eq_false h0
              obtain rfl : N = -1 := by omega
              have HI := fun l => inSet_lo l
              have HK' : Hid (k = (memL F (min (((-1 : Int) + 1).toNat) 64)).length) := Lib.hid HK.out
              have JO := Lib.hid (fun (W : World) (hW' : Below u.heap.size u W) => (by
                have := joined_any (-1) W (HH.out.below (TOW.out W hW'))
                rw [HI F.J] at this
                exact this : Calls Tryz.prog 39 #[.pointer (some ⟨d, 0, none⟩), .int .i64 (-1)] W fun e w' => e = .returned (.bool false) ∧ Below W.heap.size W w'))
              have RO := Lib.hid (fun (W : World) (hW' : Below u.heap.size u W) => (by
                have := retired_any (-1) W (HH.out.below (TOW.out W hW'))
                rw [HI F.R] at this
                exact this : Calls Tryz.prog 40 #[.pointer (some ⟨d, 0, none⟩), .int .i64 (-1)] W fun e w' => e = .returned (.bool false) ∧ Below W.heap.size W w'))
              have MO := Lib.hid (fun (W : World) (hW' : Below u.heap.size u W) => (by
                have := member_any (-1) W (HH.out.below (TOW.out W hW'))
                unfold memB at this
                rw [HI F.J] at this
                exact this : Calls Tryz.prog 41 #[.pointer (some ⟨d, 0, none⟩), .int .i64 (-1)] W fun e w' => e = .returned (.bool false) ∧ Below W.heap.size W w'))
              clear HI
              go_wp2_with fail
              refine (JO.out _ HBz.out).mono ?_
              rintro e w6 ⟨rfl, hb6⟩
              have B6 := Lib.hid (HBz.out.trans (hb6.mono HBz.out.size))
              have Z6 := Lib.hid hb6
              clear hb6
              go_wp2_with fail
              refine (RO.out _ B6.out).mono ?_
              rintro e w7 ⟨rfl, hb7⟩
              have B7 := Lib.hid (B6.out.trans (hb7.mono B6.out.size))
              have Z7 := Lib.hid (Z6.out.trans (hb7.mono Z6.out.size))
              clear hb7
              go_wp2_with fail
              refine (MO.out _ B7.out).mono ?_
              rintro e w8 ⟨rfl, hb8⟩
              have B8 := Lib.hid (B7.out.trans (hb8.mono B7.out.size))
              have Z8 := Lib.hid (Z7.out.trans (hb8.mono Z7.out.size))
              have MO8 := Lib.hid (Own.below HMO.out Z8.out (Nat.le_refl _))
              clear hb8
              go_wp2
              go_roundw
              case rel => exact ⟨(-1) + 1, k, by simp, by simp, by omega, by omega, by omega, HK', B8, MO8⟩
              case measure => first | (simp [intOf]; done) | (simp [intOf]; omega)
          · obtain rfl : N = 66 := by omega
            have hkm : k = mn := by rw [HK.out, HMN.out]; try rfl
            subst hkm
            have CN := Lib.hid (by
              have := cell_any ⟨#[110, 111, 110, 101]⟩ S2 d mb F wr (HH.out.below (TOW.out wr HBz.out)) (by decide)
              rw [show (⟨#[110, 111, 110, 101]⟩ : ByteArray).data.toList = [110, 111, 110, 101] from rfl, HNO.out] at this
              exact this : Calls Tryz.prog 12 #[.pointer (some ⟨d, 0, none⟩), .string ⟨#[110, 111, 110, 101]⟩] wr fun e w' => Below wr.heap.size wr w' ∧ e = .returned (.tuple #[zeroC, .bool false]))
            unfold zeroC at CN
            go_wp2_with fail
            refine CN.out.mono ?_
            rintro e w6 ⟨hb6, rfl⟩
            have B6 := Lib.hid (HBz.out.trans (hb6.mono HBz.out.size))
            clear hb6 CN
            go_wp2_with (first | (refine wpList_putRow rfl 50 (.tmp 15) (.tmp 196) rfl w6.heap.size 50 #[.int .u8 0, .slice none 0 0, .float .f64 0] #[.int .u8 0, .slice none 0 0, .float .f64 0] rfl rfl ?g0 (by kernel_rfl) rfl (by simp [Value.oneCell']) ?_))
            case g0 => exact heap_alloc_new w6 _
            intro w7 g7 hb7
            have hb67 : Below w6.heap.size w6 w7 := Below.beside ((Below.refl w6.heap.size w6).alloc (Nat.le_refl _) _) hb7 (by simp) (fun x hx => by simp at hx; omega)
            have B7 := Lib.hid (TOW.out w7 (B6.out.trans (hb67.mono B6.out.size)))
            clear g7 hb7 hb67
            go_wp2
            go_ret
            exact ⟨rfl, B7.out⟩
end
end Go.Proofs.YtjceeojbnpcpfaaGreat.Fol
