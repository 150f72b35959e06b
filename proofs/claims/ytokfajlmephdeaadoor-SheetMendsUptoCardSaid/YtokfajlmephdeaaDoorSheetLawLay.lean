/- The functions that the laws of layer 5 call: short, same, head, lay. head and lay, as the laws of layer 5 reckon them. -/
import Derived.Test.YtokfajlmephdeaaDoorSheetMend
import Derived.Test.YtokfajlmephdeaaDoorRefText
import Derived.Deep.QuietTactic
import Derived.BigQuiet
import Derived.Test.YtokfajlmephdeaaDoorTakeText
import Derived.WalkSpells
namespace Go.Proofs.YtokfajlmephdeaaDoor.Sht
open Go Go.RowKit Go.Proofs.YtokfajlmephdeaaDoor.Words Go.Proofs.YtokfajlmephdeaaDoor.Enc Go.Proofs.YtokfajlmephdeaaDoor.Made Go.Proofs.YtokfajlmephdeaaDoor.Dsk
set_option linter.unusedVariables false

set_option maxRecDepth 100000 in
theorem short_any (A : Option Addr) (n c : Nat) (L : List (List UInt8)) (w : World) (hs : SeesAll w A n L) (hL : lens L ≤ 1000000000000) :
    Calls Tryd.prog 9 #[.slice A n c] w fun e w' => e = .returned (.bool (decide (lens L ≤ 2000))) ∧ w = w' := by
  have hl := hs.len
  have hln := lens_len L
  go_enter Tryd.func9, Tryd.ntmps9
  go_wp2_with fail
  go_loopw [3, 4] (fun v x wr => ∃ j : Nat, v = .int .i64 (lens (L.take j) : Int) ∧ x = .int .i64 (j : Int) ∧ j ≤ n ∧ w = wr) (fun _ x _ => n - (intOf x).toNat)
  case atStart => exact ⟨0, rfl, rfl, by omega, rfl⟩
  case round =>
    obtain ⟨j, rfl, rfl, hj, rfl⟩ := hrel
    by_cases hlt : j < n
    · obtain ⟨g, o, Ae, ce, rfl, hcell, hce, hse⟩ := hs.get hlt
      have hstep := lens_take L j (by omega)
      have hle := lens_le L (j + 1)
      generalize (L.getD j []).length = m at hcell hstep
      obtain ⟨a, ha⟩ : ∃ a, a = lens (L.take j) := ⟨_, rfl⟩
      rw [← ha] at hstep ⊢
      rw [hstep] at hle
      have hw1 : IntKind.i64.wrap ((m : Int) + 10) = (m : Int) + 10 := IntWalk.i64_in _ (by omega)
      have hw2 : IntKind.i64.wrap ((a : Int) + ((m : Int) + 10)) = (a : Int) + ((m : Int) + 10) := IntWalk.i64_in _ (by omega)
      have HS := Lib.hid hstep
      clear hse hce hstep ha hle
      go_wp2
      go_roundw
      case rel => exact ⟨j + 1, by rw [HS.out]; simp, by simp, by omega, by first | rfl | trivial⟩
      case measure => simp [intOf]; omega
    · have hjn : j = n := by omega
      subst hjn
      rw [List.take_of_length_le (by omega)]
      obtain ⟨a, ha⟩ : ∃ a, a = lens L := ⟨_, rfl⟩
      rw [← ha]
      have HA := Lib.hid ha
      clear ha hL hln
      go_wp2
      go_ret
      exact ⟨by
        rw [← HA.out]
        show Ending.returned (.bool (decide ((a : Int) ≤ 2000))) = _
        rw [show decide ((a : Int) ≤ 2000) = decide (a ≤ 2000) from decide_eq_decide.2 (by omega)], rfl⟩

theorem take_snoc_eq {L M : List (List UInt8)} {j : Nat} (hl : j < L.length) (hm : j < M.length) (h : L.take j = M.take j) (he : L.getD j [] = M.getD j []) : L.take (j + 1) = M.take (j + 1) := by
  rw [List.take_add_one, List.take_add_one, h, List.getElem?_eq_getElem hl, List.getElem?_eq_getElem hm]
  rw [List.getD_eq_getElem?_getD, List.getD_eq_getElem?_getD, List.getElem?_eq_getElem hl, List.getElem?_eq_getElem hm] at he
  simp only [Option.getD_some] at he
  rw [he]
theorem bytes_ne {p q : List UInt8} (h : p ≠ q) : ((⟨p.toArray⟩ : ByteArray).toList == (⟨q.toArray⟩ : ByteArray).toList) = false := by
  rw [bytes_toList, bytes_toList]
  simpa using h

set_option maxRecDepth 100000 in
set_option maxHeartbeats 1000000 in
theorem same_any (A : Option Addr) (n c : Nat) (L : List (List UInt8)) (B : Option Addr) (m d : Nat) (M : List (List UInt8)) (w : World) (hs : SeesAll w A n L) (hq : SeesAll w B m M) (hn : n ≤ 1000000000) :
    Calls Tryd.prog 15 #[.slice A n c, .slice B m d] w fun e w' => e = .returned (.bool (decide (L = M))) ∧ ∃ k, w' = w.drewN k := by
  have hl := hs.len
  have hm := hq.len
  by_cases hnm : n = m
  · subst hnm
    go_enter Tryd.func15, Tryd.ntmps15
    go_wp2_with fail
    go_loopw [5] (fun x wr => ∃ (j k : Nat), x = .int .i64 (j : Int) ∧ j ≤ n ∧ Hid (L.take j = M.take j) ∧ wr = w.drewN k) (fun x _ => n - (intOf x).toNat)
    case atStart => exact ⟨0, 0, rfl, by omega, rfl, rfl⟩
    case round =>
      obtain ⟨j, k, rfl, hj, heq, rfl⟩ := hrel
      by_cases hlt : j < n
      · obtain ⟨g, o, Ae, ce, rfl, hcell, hce, hse⟩ := hs.get hlt
        obtain ⟨g2, o2, Be, de, rfl, hcell2, hce2, hse2⟩ := hq.get hlt
        have hstep := @take_snoc_eq L M j (by omega) (by omega)
        have hsub : ∀ l : List (List UInt8), (l.getD j []) = l.getD j [] := fun _ => rfl
        have hne : L.getD j [] ≠ M.getD j [] → L ≠ M := fun h e => h (by rw [e])
        generalize L.getD j [] = x at hcell hse hstep hne
        generalize M.getD j [] = y at hcell2 hse2 hstep hne
        have x1 := fun i => (hse.drewN i).string (P := Tryd.prog) ce (s := 9) Tryd.underlying37 Tryd.underlying5 Tryd.underlying9
        have x2 := fun i => (hse2.drewN i).string (P := Tryd.prog) de (s := 9) Tryd.underlying37 Tryd.underlying5 Tryd.underlying9
        have hji : (0 : Int) ≤ (j : Int) := by omega
        have hjn' : (j : Int) < (n : Int) := by omega
        have HST := Lib.hid hstep
        have HNE := Lib.hid hne
        clear hse hse2 hce hce2 hstep hne hsub hs hq
        by_cases hxy : x = y
        · subst hxy
          generalize (⟨x.toArray⟩ : ByteArray) = sx at x1 x2
          go_wp2
          go_quiet (fail)
          go_wp2
          go_roundw
          case rel => exact ⟨j + 1, k + nq, by simp, by omega, HST.out heq.out (by first | rfl | trivial), by simp⟩
          case measure => simp [intOf]; omega
        · have hb := bytes_ne hxy
          generalize (⟨x.toArray⟩ : ByteArray) = sx at x1 hb
          generalize (⟨y.toArray⟩ : ByteArray) = sy at x2 hb
          go_wp2
          go_quiet (fail)
          go_wp2
          go_ret
          have hLM := HNE.out hxy
          exact ⟨by simp [hLM], k + nq, by simp⟩
      · have hjn : j = n := by omega
        subst hjn
        have hLM : L = M := by
          have := heq.out
          rwa [List.take_of_length_le (by omega), List.take_of_length_le (by omega)] at this
        have HLM := Lib.hid hLM
        clear heq hLM
        go_wp2
        go_ret
        exact ⟨by simp [HLM.out], _, rfl⟩
  · have hLM : L ≠ M := fun e => hnm (by rw [← hl, ← hm, e])
    have h1 : ((n : Int) != (m : Int)) = true := bne_iff_ne.2 (by omega)
    have HLM := Lib.hid hLM
    clear hLM
    go_enter Tryd.func15, Tryd.ntmps15
    go_wp2
    go_ret
    exact ⟨by simp [HLM.out], 0, rfl⟩
end Go.Proofs.YtokfajlmephdeaaDoor.Sht
namespace Go.Proofs.YtokfajlmephdeaaDoor.Sht
open Go Go.RowKit Go.Proofs.YtokfajlmephdeaaDoor.Words Go.Proofs.YtokfajlmephdeaaDoor.Enc Go.Proofs.YtokfajlmephdeaaDoor.Made Go.Proofs.YtokfajlmephdeaaDoor.Dsk
set_option linter.unusedVariables false

set_option maxRecDepth 100000 in
set_option maxHeartbeats 1000000 in
theorem headLaw_any (k : UInt8) (a b : Nat) (w : World) (ha : a < 18446744073709551616) (hb : b < 18446744073709551616) :
    Calls Tryd.prog 17 #[titleV k a b] w (New w.heap.size (headL k a b).length (headL k a b) w) := by
  obtain ⟨i, hi, hz, hsz, hby⟩ := info_parts info8
  have hea := enc_ten ha
  have heb := enc_ten hb
  have hconv := fun (W : World) (C : Array Value) (n c : Nat) => Lib.run_convert_bytes_const (P := Tryd.prog) W 37 5 C n c Tryd.underlying37 Tryd.underlying5
  have hb0 : Below w.heap.size w (w.alloc (.cells #[.int .u8 (k.toNat : Int), .int .u64 (a : Int), .int .u64 (b : Int)] 24)) := (Below.refl _ _).alloc (Nat.le_refl _) _
  have g0 : (w.alloc (.cells #[.int .u8 (k.toNat : Int), .int .u64 (a : Int), .int .u64 (b : Int)] 24)).heap[w.heap.size]? = some (.cells #[.int .u8 (k.toNat : Int), .int .u64 (a : Int), .int .u64 (b : Int)] 24 (0, 0)) := heap_alloc_new w _
  unfold titleV
  go_enter Tryd.func17, Tryd.ntmps17
  go_upto_region 1 with fail
  have hlt : w.heap.size < (w.alloc (.cells #[.int .u8 (k.toNat : Int), .int .u64 (a : Int), .int .u64 (b : Int)] 24)).heap.size := (Array.getElem?_eq_some_iff.1 g0).1
  generalize w.alloc (.cells #[.int .u8 (k.toNat : Int), .int .u64 (a : Int), .int .u64 (b : Int)] 24) = W0 at hb0 g0 hlt ⊢
  have q0 : W0.cell? ⟨w.heap.size, 0, none⟩ = some (.int .u8 (k.toNat : Int)) := by rw [cell_of_row W0 w.heap.size _ _ _ _ g0]; rfl
  have hbm : Below W0.heap.size W0 ((W0.alloc (.cells #[.int .u8 97, .int .u8 110, .int .u8 97, .int .u8 49] 5 (4, 5))).alloc (.cells #[.int .u8 (k.toNat : Int)] 5)) := ((Below.refl _ _).alloc (Nat.le_refl _) _).alloc (by simp) _
  have s1 : Sees ((W0.alloc (.cells #[.int .u8 97, .int .u8 110, .int .u8 97, .int .u8 49] 5 (4, 5))).alloc (.cells #[.int .u8 (k.toNat : Int)] 5)) (some ⟨W0.heap.size, 0, none⟩) 4 [97, 110, 97, 49] :=
    (sees_marked W0 _ _ _ 4 [97, 110, 97, 49] rfl (fun j u hj => by match j, hj with | 0, hj => simp at hj; subst hj; rfl | 1, hj => simp at hj; subst hj; rfl | 2, hj => simp at hj; subst hj; rfl | 3, hj => simp at hj; subst hj; rfl)).below ((Below.refl _ _).alloc (Nat.le_refl _) _)
  have s2 := sees_new (W0.alloc (.cells #[.int .u8 97, .int .u8 110, .int .u8 97, .int .u8 49] 5 (4, 5))) 5 #[.int .u8 (k.toNat : Int)] 1 [k] rfl (fun j u hj => by match j, hj with | 0, hj => simp at hj; subst hj; rfl)
  simp only [World.size_alloc] at s2
  have hne : w.heap.size ≠ W0.heap.size := by omega
  go_wp2_with (first | (at_builtin; go_must (refine wpList_full rfl _ _ 37 rfl 5 i (.int .u8 0) Tryd.underlying37 hi hz hsz hby _ 4 [97, 110, 97, 49] rfl s1 _ 1 1 [k] rfl s2 ?d ?_)))
  case d => omega
  intro A1 c1 w1 hs1 hc1 hcc1 hb1
  have b1 : Below W0.heap.size W0 w1 := hbm.trans (hb1.mono (by omega))
  have bw1 := hb0.trans (b1.mono hb0.size)
  have g1 := (b1.block w.heap.size hlt).trans g0
  have hlt1 : w.heap.size < w1.heap.size := (Array.getElem?_eq_some_iff.1 g1).1
  have cell : ∀ W : World, Below w1.drew.heap.size w1.drew W → W.cell? ⟨w.heap.size, 1, none⟩ = some (.int .u64 (a : Int)) ∧ W.cell? ⟨w.heap.size, 2, none⟩ = some (.int .u64 (b : Int)) := fun W hR => by
    have g2 : W.heap[w.heap.size]? = _ := (hR.block w.heap.size hlt1).trans g1
    refine ⟨?_, ?_⟩ <;> (rw [cell_of_row W w.heap.size _ _ _ _ g2]; rfl)
  have CELL := Lib.hid cell
  have hlen := titleL_len (k := k) ha hb
  have e1 : [97, 110, 97, 49] ++ [k] ++ enc a ++ enc b = titleL k a b := by simp [titleL]
  have E1 := Lib.hid e1
  have SS1 := Lib.hid hs1
  clear s1 s2 q0 g0 hbm cell g1 hconv e1 hs1
  go_wp2_with fail
  refine Facts.wp_region_preds (n := 18) (by kernel_rfl) (by kernel_rfl) rfl [Facts.Pred.is (.slice A1 5 c1), Facts.Pred.is (.pointer (some ⟨w.heap.size, 1, none⟩)), Facts.Pred.is (.int .u64 (a : Int)), Facts.Pred.shows (5 + (enc a).length) ([97, 110, 97, 49] ++ [k] ++ enc a), Facts.Pred.is (.pointer (some ⟨w.heap.size, 2, none⟩)), Facts.Pred.is (.int .u64 (b : Int)),
    Facts.Pred.shows (titleL k a b).length (titleL k a b), Take.ownPred w1.heap.size (headL k a b).length (headL k a b), Take.ownPred w1.heap.size (headL k a b).length (headL k a b)] ?_ ?_
  · refine ⟨?_, ?_, ?_, ?_, ?_, ?_, ?_, ?_, ?_, trivial⟩
    · refine Facts.step_is (.slice A1 5 c1) fun a' W hR hold hnew => ?_
      have f3 : a'.tmps.getD 3 undef = .slice A1 5 c1 := hold 3 (by kernel_rfl)
      refine ⟨Facts.wanted_free rfl, ?_, fun _ => rfl⟩
      simp [go_sem, Act.eval, f3]
    · refine Facts.step_is (.pointer (some ⟨w.heap.size, 1, none⟩)) fun a' W hR hold hnew => ?_
      have f1 : a'.tmps.getD 1 undef = .pointer (some ⟨w.heap.size, 0, none⟩) := hold 1 (by kernel_rfl)
      refine ⟨Facts.wanted_free rfl, ?_, fun _ => rfl⟩
      simp [go_sem, Act.eval, f1]
    · refine Facts.step_is (.int .u64 (a : Int)) fun a' W hR hold hnew => ?_
      have f11 : a'.tmps.getD 11 undef = .pointer (some ⟨w.heap.size, 1, none⟩) := hnew 1 11 (by kernel_rfl)
      have hc := (CELL.out W hR).1
      refine ⟨Facts.wanted_free rfl, ?_, fun _ => rfl⟩
      simp [go_sem, Act.eval, f11, hc]
    · refine Facts.step_call fun a' W hR hold hnew => ?_
      have f10 : a'.tmps.getD 10 undef = .slice A1 5 c1 := hnew 0 10 (by kernel_rfl)
      have f12 : a'.tmps.getD 12 undef = .int .u64 (a : Int) := hnew 2 12 (by kernel_rfl)
      refine ⟨Facts.wanted_free rfl, 33, #[.slice A1 5 c1, .int .u64 (a : Int)], by simp [go_sem, Act.eval, f10, f12], ?_⟩
      refine (refLay_any A1 5 c1 _ (a : Int) W (SS1.out.drew.below hR) (by omega) (by omega) (by omega)).mono ?_
      rw [Int.toNat_natCast]
      rintro e w7 ⟨A7, c7, rfl, hown7, hb7⟩
      exact ⟨_, rfl, hb7, A7, c7, rfl, Sees.of_own hown7⟩
    · refine Facts.step_is (.pointer (some ⟨w.heap.size, 2, none⟩)) fun a' W hR hold hnew => ?_
      have f1 : a'.tmps.getD 1 undef = .pointer (some ⟨w.heap.size, 0, none⟩) := hold 1 (by kernel_rfl)
      refine ⟨Facts.wanted_free rfl, ?_, fun _ => rfl⟩
      simp [go_sem, Act.eval, f1]
    · refine Facts.step_is (.int .u64 (b : Int)) fun a' W hR hold hnew => ?_
      have f14 : a'.tmps.getD 14 undef = .pointer (some ⟨w.heap.size, 2, none⟩) := hnew 4 14 (by kernel_rfl)
      have hc := (CELL.out W hR).2
      refine ⟨Facts.wanted_free rfl, ?_, fun _ => rfl⟩
      simp [go_sem, Act.eval, f14, hc]
    · refine Facts.step_call fun a' W hR hold hnew => ?_
      have h13 : ∃ A c, a'.tmps.getD 13 undef = .slice A (5 + (enc a).length) c ∧ Sees W A (5 + (enc a).length) ([97, 110, 97, 49] ++ [k] ++ enc a) := hnew 3 13 (by kernel_rfl)
      have f15 : a'.tmps.getD 15 undef = .int .u64 (b : Int) := hnew 5 15 (by kernel_rfl)
      obtain ⟨A3, c3, f13, s3⟩ := h13
      refine ⟨Facts.wanted_free rfl, 33, #[.slice A3 (5 + (enc a).length) c3, .int .u64 (b : Int)], by simp [go_sem, Act.eval, f13, f15], ?_⟩
      refine (refLay_any A3 _ c3 _ (b : Int) W s3 (by omega) (by omega) (by omega)).mono ?_
      rw [Int.toNat_natCast, E1.out, ← hlen.1]
      rintro e w7 ⟨A7, c7, rfl, hown7, hb7⟩
      exact ⟨_, rfl, hb7, A7, c7, rfl, Sees.of_own hown7⟩
    · refine Facts.step_call fun a' W hR hold hnew => ?_
      have h16 : ∃ A c, a'.tmps.getD 16 undef = .slice A (titleL k a b).length c ∧ Sees W A (titleL k a b).length (titleL k a b) := hnew 6 16 (by kernel_rfl)
      obtain ⟨A3, c3, f16, s3⟩ := h16
      refine ⟨Facts.wanted_free rfl, 32, #[.slice A3 (titleL k a b).length c3], by simp [go_sem, Act.eval, f16], ?_⟩
      refine (refWrap_any A3 _ c3 _ W s3 (by omega)).mono ?_
      rw [← wrap_length]
      rintro e w7 ⟨A7, c7, rfl, hown7, hb7⟩
      exact ⟨_, rfl, hb7, A7, c7, rfl, Own.lower hown7 hR.size⟩
    · refine Facts.step_some fun a' W hR hold hnew => ?_
      have h17 : ∃ A c, a'.tmps.getD 17 undef = .slice A (headL k a b).length c ∧ W.ownsRow w1.heap.size 5 1 (.slice A (headL k a b).length c) (headL k a b).length (cs (headL k a b)) := hnew 7 17 (by kernel_rfl)
      obtain ⟨A3, c3, f17, s3⟩ := h17
      exact ⟨Facts.wanted_free rfl, .slice A3 _ c3, by simp [go_sem, Act.eval, f17], A3, c3, rfl, s3⟩
  · intro a' W hR hsize hdef hnew hold
    have h2 : ∃ A c, a'.tmps.getD 2 undef = .slice A (headL k a b).length c ∧ W.ownsRow w1.heap.size 5 1 (.slice A (headL k a b).length c) (headL k a b).length (cs (headL k a b)) := hnew 8 2 (by kernel_rfl)
    obtain ⟨A2, c2, f2, r1⟩ := h2
    have hbb : Below w.heap.size w W := bw1.drew.trans (hR.mono bw1.drew.size)
    go_wp2
    try simp only [Exit.inBlock, Exit.then]
    refine bodyPost_ret (results_tmp rfl _ _ _) hdef ?_
    rw [f2]
    exact ⟨A2, c2, rfl, Own.lower r1 bw1.size, hbb⟩

theorem count_le : ∀ M : List (List UInt8), M.length ≤ (wraps M).length := by
  intro M
  induction M with
  | nil => simp
  | cons x r ih =>
    simp only [wraps, List.map_cons, List.flatten_cons, List.length_append, List.length_cons] at ih ⊢
    have := wrap_length x
    omega

set_option maxRecDepth 100000 in
theorem layLaw_any (k : UInt8) (a b : Nat) (A : Option Addr) (n c : Nat) (L : List (List UInt8)) (w : World) (ha : a < 18446744073709551616) (hb : b < 18446744073709551616) (hs : SeesAll w A n L) (hw : (wraps L).length ≤ 500000000) :
    Calls Tryd.prog 16 #[titleV k a b, .slice A n c] w (New w.heap.size (wholeL k a b L).length (wholeL k a b L) w) := by
  obtain ⟨i, hi, hz, hsz, hby⟩ := info_parts info8
  have hl := hs.len
  have hhl := headL_len (k := k) ha hb
  have htl := (titleL_len (k := k) ha hb).2
  have hlen : (headL k a b).length ≤ 50 := by omega
  have hn : n ≤ 500000000 := by have := count_le L; omega
  have hb1 : Below w.heap.size w (w.alloc (.cells #[.int .u8 (k.toNat : Int), .int .u64 (a : Int), .int .u64 (b : Int)] 24)) := (Below.refl _ _).alloc (Nat.le_refl _) _
  have hhead := headLaw_any k a b (w.alloc (.cells #[.int .u8 (k.toNat : Int), .int .u64 (a : Int), .int .u64 (b : Int)] 24)) ha hb
  unfold titleV at hhead ⊢
  clear hhl htl
  go_enter Tryd.func16, Tryd.ntmps16
  go_wp2_with fail
  refine hhead.mono ?_
  rintro e w1 ⟨A1, c1, rfl, hown, hb2⟩
  have b2 := hb1.trans (hb2.mono hb1.size)
  have hown := Own.lower hown hb1.size
  clear hhead hb2
  go_wp2_with fail
  go_loopw [5, 6] (fun v x wr => ∃ (A' : Option Addr) (m c' j : Nat), v = .slice A' m c' ∧ x = .int .i64 (j : Int) ∧ j ≤ n ∧ m = (headL k a b ++ wraps (L.take j)).length ∧ wr.ownsRow w.heap.size 5 1 (.slice A' m c') m (cs (headL k a b ++ wraps (L.take j))) ∧ Below w.heap.size w wr) (fun _ x _ => n - (intOf x).toNat)
  case atStart => exact ⟨A1, _, c1, 0, rfl, rfl, by omega, by simp [wraps], by simpa [wraps] using hown, b2⟩
  case round =>
    obtain ⟨A', m, c', j, rfl, rfl, hj, hm, hownj, hbj⟩ := hrel
    have HM := Lib.hid hm
    have hwj := hbj.size
    have hmle : m ≤ 500000100 := by
      have := wraps_le L j
      rw [hm, List.length_append]
      omega
    clear hm
    by_cases hlt : j < n
    · have hjl : j < L.length := by omega
      obtain ⟨g, o, Ae, ce, rfl, hcell, hce, hse⟩ := (hs.below hbj).get hlt
      have hel := wrap_mem_le hjl
      have hstep := wraps_take L j hjl
      generalize L.getD j [] = x at hcell hce hse hel hstep
      obtain ⟨xl, hxl⟩ : ∃ xl, xl = x.length := ⟨_, rfl⟩
      rw [← hxl] at hcell hce hse hel
      have HX := Lib.hid hxl
      have HS := Lib.hid hstep
      clear hxl hstep
      have he := enc_ten (n := xl) (by omega)
      go_wp2_with fail
      refine (refWrap_any Ae xl ce x wr hse (by omega)).mono ?_
      rintro e w2 ⟨A2, c2, rfl, hown2, hb2⟩
      have hs2 := Sees.of_own hown2
      have hownj2 := Own.below hownj hb2 (Nat.le_refl _)
      have bj2 := hbj.trans (hb2.mono hwj)
      have hw2 := bj2.size
      clear hown2
      go_wp2_with (first | (at_builtin; refine wpList_app rfl _ _ 37 rfl w.heap.size 5 i (.int .u8 0) Tryd.underlying37 hi hz hsz hby rfl A' m c' _ rfl hownj2 A2 _ c2 _ rfl hs2 ?d1 ?d2 ?_))
      case d1 => omega
      case d2 => exact hw2
      intro A3 c3 w3 hown3 hb3
      rw [← HS.out] at hown3
      go_wp2
      go_roundw
      case rel =>
        refine ⟨A3, _, c3, j + 1, rfl, rfl, by omega, ?_, hown3, bj2.trans hb3⟩
        have h1 := HM.out
        have h2 := HS.out
        have h3 := HX.out
        rw [h2, h1]
        simp only [List.length_append, wrap_length, ← h3]
        omega
      case measure => simp [intOf]; omega
    · have hjn : j = n := by omega
      subst hjn
      have ht : L.take j = L := List.take_of_length_le (by omega)
      rw [ht] at hownj HM
      have HW := Lib.hid hownj
      clear hownj
      go_wp2
      go_ret
      have h1 := HM.out
      subst h1
      exact ⟨A', c', rfl, HW.out, hbj⟩
end Go.Proofs.YtokfajlmephdeaaDoor.Sht
