/- The functions that the laws of layer 5 call: short, same, head, lay. head and lay, as the laws of layer 5 reckon them. -/
import Derived.Test.YtfdnlgigllflfaaDoorBSheet
import Derived.Test.YtfdnlgigllflfaaDoorBPlain
import Derived.Deep.QuietTactic
import Derived.BigQuiet
import Derived.Test.YtfdnlgigllflfaaDoorBCheck
import Derived.WalkSpells
import Derived.Lib.SlBytesConst
import Derived.Laws.StructEq
namespace Go.Proofs.YtfdnlgigllflfaaDoor.Sht
open Go Go.RowKit Go.Proofs.YtfdnlgigllflfaaDoor.Words Go.Proofs.YtfdnlgigllflfaaDoor.Enc Go.Proofs.YtfdnlgigllflfaaDoor.Made Go.Proofs.YtfdnlgigllflfaaDoor.Dsk
set_option linter.unusedVariables false

set_option maxRecDepth 100000 in
theorem short_any (A : Option Addr) (n c : Nat) (L : List (List UInt8)) (w : World) (hs : SeesAll w A n L) (hL : lens L ≤ 1000000000000) :
    Calls Tryd.prog 9 #[.slice A n c] w fun e w' => e = .returned (.bool (decide (lens L ≤ 2000))) ∧ w = w' := by
  have hl := hs.len
  have hln := lens_len L
  go_enter Tryd.func9, Tryd.ntmps9
  go_wp2_with fail
  go_loopw [3, 4] (fun v x wr => ∃ j : Nat, v = .int .i64 (lens (L.take j) : Int) ∧ x = .int .i64 (j : Int) ∧ j ≤ n ∧ w = wr) (fun _ x _ => n - (intOf x).toNat)
  case atStart => exact ⟨0, rfl, rfl, by omega, rfl⟩
  case round =>
    obtain ⟨j, rfl, rfl, hj, rfl⟩ := hrel
    by_cases hlt : j < n
    · obtain ⟨g, o, Ae, ce, rfl, hcell, hce, hse⟩ := hs.get hlt
      have hstep := lens_take L j (by omega)
      have hle := lens_le L (j + 1)
      generalize (L.getD j []).length = m at hcell hstep
      obtain ⟨a, ha⟩ : ∃ a, a = lens (L.take j) := ⟨_, rfl⟩
      rw [← ha] at hstep ⊢
      rw [hstep] at hle
      have hw1 : IntKind.i64.wrap ((m : Int) + 10) = (m : Int) + 10 := IntWalk.i64_in _ (by omega)
      have hw2 : IntKind.i64.wrap ((a : Int) + ((m : Int) + 10)) = (a : Int) + ((m : Int) + 10) := IntWalk.i64_in _ (by omega)
      have HS := Lib.hid hstep
      clear hse hce hstep ha hle
      go_wp2
      go_roundw
      case rel => exact ⟨j + 1, by rw [HS.out]; simp, by simp, by omega, by first | rfl | trivial⟩
      case measure => simp [intOf]; omega
    · have hjn : j = n := by omega
      subst hjn
      rw [List.take_of_length_le (by omega)]
      obtain ⟨a, ha⟩ : ∃ a, a = lens L := ⟨_, rfl⟩
      rw [← ha]
      have HA := Lib.hid ha
      clear ha hL hln
      go_wp2
      go_ret
      exact ⟨by
        rw [← HA.out]
        show Ending.returned (.bool (decide ((a : Int) ≤ 2000))) = _
        rw [show decide ((a : Int) ≤ 2000) = decide (a ≤ 2000) from decide_eq_decide.2 (by omega)], rfl⟩

theorem take_snoc_eq {L M : List (List UInt8)} {j : Nat} (hl : j < L.length) (hm : j < M.length) (h : L.take j = M.take j) (he : L.getD j [] = M.getD j []) : L.take (j + 1) = M.take (j + 1) := by
  rw [List.take_add_one, List.take_add_one, h, List.getElem?_eq_getElem hl, List.getElem?_eq_getElem hm]
  rw [List.getD_eq_getElem?_getD, List.getD_eq_getElem?_getD, List.getElem?_eq_getElem hl, List.getElem?_eq_getElem hm] at he
  simp only [Option.getD_some] at he
  rw [he]
theorem bytes_ne {p q : List UInt8} (h : p ≠ q) : ((⟨p.toArray⟩ : ByteArray).toList == (⟨q.toArray⟩ : ByteArray).toList) = false := by
  rw [bytes_toList, bytes_toList]
  simpa using h

set_option maxRecDepth 100000 in
set_option maxHeartbeats 1000000 in
theorem same_any (A : Option Addr) (n c : Nat) (L : List (List UInt8)) (B : Option Addr) (m d : Nat) (M : List (List UInt8)) (w : World) (hs : SeesAll w A n L) (hq : SeesAll w B m M) (hn : n ≤ 1000000000) :
    Calls Tryd.prog 15 #[.slice A n c, .slice B m d] w fun e w' => e = .returned (.bool (decide (L = M))) ∧ ∃ k, w' = w.drewN k := by
  have hl := hs.len
  have hm := hq.len
  by_cases hnm : n = m
  · subst hnm
    go_enter Tryd.func15, Tryd.ntmps15
    go_wp2_with fail
    go_loopw [5] (fun x wr => ∃ (j k : Nat), x = .int .i64 (j : Int) ∧ j ≤ n ∧ Hid (L.take j = M.take j) ∧ wr = w.drewN k) (fun x _ => n - (intOf x).toNat)
    case atStart => exact ⟨0, 0, rfl, by omega, rfl, rfl⟩
    case round =>
      obtain ⟨j, k, rfl, hj, heq, rfl⟩ := hrel
      by_cases hlt : j < n
      · obtain ⟨g, o, Ae, ce, rfl, hcell, hce, hse⟩ := hs.get hlt
        obtain ⟨g2, o2, Be, de, rfl, hcell2, hce2, hse2⟩ := hq.get hlt
        have hstep := @take_snoc_eq L M j (by omega) (by omega)
        have hsub : ∀ l : List (List UInt8), (l.getD j []) = l.getD j [] := fun _ => rfl
        have hne : L.getD j [] ≠ M.getD j [] → L ≠ M := fun h e => h (by rw [e])
        generalize L.getD j [] = x at hcell hse hstep hne
        generalize M.getD j [] = y at hcell2 hse2 hstep hne
        have x1 := fun i => (hse.drewN i).string (P := Tryd.prog) ce (s := 9) Tryd.underlying37 Tryd.underlying5 Tryd.underlying9
        have x2 := fun i => (hse2.drewN i).string (P := Tryd.prog) de (s := 9) Tryd.underlying37 Tryd.underlying5 Tryd.underlying9
        have hji : (0 : Int) ≤ (j : Int) := by omega
        have hjn' : (j : Int) < (n : Int) := by omega
        have HST := Lib.hid hstep
        have HNE := Lib.hid hne
        clear hse hse2 hce hce2 hstep hne hsub hs hq
        by_cases hxy : x = y
        · subst hxy
          generalize (⟨x.toArray⟩ : ByteArray) = sx at x1 x2
          go_wp2
          go_quiet (fail)
          go_wp2
          go_roundw
          case rel => exact ⟨j + 1, k + nq, by simp, by omega, HST.out heq.out (by first | rfl | trivial), by simp⟩
          case measure => simp [intOf]; omega
        · have hb := bytes_ne hxy
          generalize (⟨x.toArray⟩ : ByteArray) = sx at x1 hb
          generalize (⟨y.toArray⟩ : ByteArray) = sy at x2 hb
          go_wp2
          go_quiet (fail)
          go_wp2
          go_ret
          have hLM := HNE.out hxy
          exact ⟨by simp [hLM], k + nq, by simp⟩
      · have hjn : j = n := by omega
        subst hjn
        have hLM : L = M := by
          have := heq.out
          rwa [List.take_of_length_le (by omega), List.take_of_length_le (by omega)] at this
        have HLM := Lib.hid hLM
        clear heq hLM
        go_wp2
        go_ret
        exact ⟨by simp [HLM.out], _, rfl⟩
  · have hLM : L ≠ M := fun e => hnm (by rw [← hl, ← hm, e])
    have h1 : ((n : Int) != (m : Int)) = true := bne_iff_ne.2 (by omega)
    have HLM := Lib.hid hLM
    clear hLM
    go_enter Tryd.func15, Tryd.ntmps15
    go_wp2
    go_ret
    exact ⟨by simp [HLM.out], 0, rfl⟩
end Go.Proofs.YtfdnlgigllflfaaDoor.Sht
namespace Go.Proofs.YtfdnlgigllflfaaDoor.Sht
open Go Go.RowKit Go.Proofs.YtfdnlgigllflfaaDoor.Words Go.Proofs.YtfdnlgigllflfaaDoor.Enc Go.Proofs.YtfdnlgigllflfaaDoor.Made Go.Proofs.YtfdnlgigllflfaaDoor.Dsk
set_option linter.unusedVariables false

set_option maxRecDepth 100000 in
set_option maxHeartbeats 1000000 in
theorem headLaw_any (k : UInt8) (a b : Nat) (w : World) (ha : a < 18446744073709551616) (hb : b < 18446744073709551616) :
    Calls Tryd.prog 17 #[titleV k a b] w (New w.heap.size (headL k a b).length (headL k a b) w) := by
  obtain ⟨i, hi, hz, hsz, hby⟩ := info_parts info8
  have hea := enc_ten ha
  have heb := enc_ten hb
  have hconv := fun (W : World) (C : Array Value) (n c : Nat) => Lib.run_convert_bytes_const (P := Tryd.prog) W 37 5 C n c Tryd.underlying37 Tryd.underlying5
  have hb0 : Below w.heap.size w (w.alloc (.cells #[.int .u8 (k.toNat : Int), .int .u64 (a : Int), .int .u64 (b : Int)] 24)) := (Below.refl _ _).alloc (Nat.le_refl _) _
  have g0 : (w.alloc (.cells #[.int .u8 (k.toNat : Int), .int .u64 (a : Int), .int .u64 (b : Int)] 24)).heap[w.heap.size]? = some (.cells #[.int .u8 (k.toNat : Int), .int .u64 (a : Int), .int .u64 (b : Int)] 24 (0, 0)) := heap_alloc_new w _
  unfold titleV
  go_enter Tryd.func17, Tryd.ntmps17
  go_upto_region 1 with fail
  have hlt : w.heap.size < (w.alloc (.cells #[.int .u8 (k.toNat : Int), .int .u64 (a : Int), .int .u64 (b : Int)] 24)).heap.size := (Array.getElem?_eq_some_iff.1 g0).1
  generalize w.alloc (.cells #[.int .u8 (k.toNat : Int), .int .u64 (a : Int), .int .u64 (b : Int)] 24) = W0 at hb0 g0 hlt ⊢
  have q0 : W0.cell? ⟨w.heap.size, 0, none⟩ = some (.int .u8 (k.toNat : Int)) := by rw [cell_of_row W0 w.heap.size _ _ _ _ g0]; rfl
  have hbm : Below W0.heap.size W0 ((W0.alloc (.cells #[.int .u8 97, .int .u8 110, .int .u8 97, .int .u8 49] 5 (4, 5))).alloc (.cells #[.int .u8 (k.toNat : Int)] 5)) := ((Below.refl _ _).alloc (Nat.le_refl _) _).alloc (by simp) _
  have s1 : Sees ((W0.alloc (.cells #[.int .u8 97, .int .u8 110, .int .u8 97, .int .u8 49] 5 (4, 5))).alloc (.cells #[.int .u8 (k.toNat : Int)] 5)) (some ⟨W0.heap.size, 0, none⟩) 4 [97, 110, 97, 49] :=
    (sees_marked W0 _ _ _ 4 [97, 110, 97, 49] rfl (fun j u hj => by match j, hj with | 0, hj => simp at hj; subst hj; rfl | 1, hj => simp at hj; subst hj; rfl | 2, hj => simp at hj; subst hj; rfl | 3, hj => simp at hj; subst hj; rfl)).below ((Below.refl _ _).alloc (Nat.le_refl _) _)
  have s2 := sees_new (W0.alloc (.cells #[.int .u8 97, .int .u8 110, .int .u8 97, .int .u8 49] 5 (4, 5))) 5 #[.int .u8 (k.toNat : Int)] 1 [k] rfl (fun j u hj => by match j, hj with | 0, hj => simp at hj; subst hj; rfl)
  simp only [World.size_alloc] at s2
  have hne : w.heap.size ≠ W0.heap.size := by omega
  go_wp2_with (first | (at_builtin; go_must (refine wpList_full rfl _ _ 37 rfl 5 i (.int .u8 0) Tryd.underlying37 hi hz hsz hby _ 4 [97, 110, 97, 49] rfl s1 _ 1 1 [k] rfl s2 ?d ?_)))
  case d => omega
  intro A1 c1 w1 hs1 hc1 hcc1 hb1
  have b1 : Below W0.heap.size W0 w1 := hbm.trans (hb1.mono (by omega))
  have bw1 := hb0.trans (b1.mono hb0.size)
  have g1 := (b1.block w.heap.size hlt).trans g0
  have hlt1 : w.heap.size < w1.heap.size := (Array.getElem?_eq_some_iff.1 g1).1
  have cell : ∀ W : World, Below w1.drew.heap.size w1.drew W → W.cell? ⟨w.heap.size, 1, none⟩ = some (.int .u64 (a : Int)) ∧ W.cell? ⟨w.heap.size, 2, none⟩ = some (.int .u64 (b : Int)) := fun W hR => by
    have g2 : W.heap[w.heap.size]? = _ := (hR.block w.heap.size hlt1).trans g1
    refine ⟨?_, ?_⟩ <;> (rw [cell_of_row W w.heap.size _ _ _ _ g2]; rfl)
  have CELL := Lib.hid cell
  have hlen := titleL_len (k := k) ha hb
  have e1 : [97, 110, 97, 49] ++ [k] ++ enc a ++ enc b = titleL k a b := by simp [titleL]
  have E1 := Lib.hid e1
  have SS1 := Lib.hid hs1
  clear s1 s2 q0 g0 hbm cell g1 hconv e1 hs1
  go_wp2_with fail
  refine Facts.wp_region_preds (n := 18) (by kernel_rfl) (by kernel_rfl) rfl [Facts.Pred.is (.slice A1 5 c1), Facts.Pred.is (.pointer (some ⟨w.heap.size, 1, none⟩)), Facts.Pred.is (.int .u64 (a : Int)), Facts.Pred.shows (5 + (enc a).length) ([97, 110, 97, 49] ++ [k] ++ enc a), Facts.Pred.is (.pointer (some ⟨w.heap.size, 2, none⟩)), Facts.Pred.is (.int .u64 (b : Int)),
    Facts.Pred.shows (titleL k a b).length (titleL k a b), Take.ownPred w1.heap.size (headL k a b).length (headL k a b), Take.ownPred w1.heap.size (headL k a b).length (headL k a b)] ?_ ?_
  · refine ⟨?_, ?_, ?_, ?_, ?_, ?_, ?_, ?_, ?_, trivial⟩
    · refine Facts.step_is (.slice A1 5 c1) fun a' W hR hold hnew => ?_
      have f3 : a'.tmps.getD 3 undef = .slice A1 5 c1 := hold 3 (by kernel_rfl)
      refine ⟨Facts.wanted_free rfl, ?_, fun _ => rfl⟩
      simp [go_sem, Act.eval, f3]
    · refine Facts.step_is (.pointer (some ⟨w.heap.size, 1, none⟩)) fun a' W hR hold hnew => ?_
      have f1 : a'.tmps.getD 1 undef = .pointer (some ⟨w.heap.size, 0, none⟩) := hold 1 (by kernel_rfl)
      refine ⟨Facts.wanted_free rfl, ?_, fun _ => rfl⟩
      simp [go_sem, Act.eval, f1]
    · refine Facts.step_is (.int .u64 (a : Int)) fun a' W hR hold hnew => ?_
      have f11 : a'.tmps.getD 11 undef = .pointer (some ⟨w.heap.size, 1, none⟩) := hnew 1 11 (by kernel_rfl)
      have hc := (CELL.out W hR).1
      refine ⟨Facts.wanted_free rfl, ?_, fun _ => rfl⟩
      simp [go_sem, Act.eval, f11, hc]
    · refine Facts.step_call fun a' W hR hold hnew => ?_
      have f10 : a'.tmps.getD 10 undef = .slice A1 5 c1 := hnew 0 10 (by kernel_rfl)
      have f12 : a'.tmps.getD 12 undef = .int .u64 (a : Int) := hnew 2 12 (by kernel_rfl)
      refine ⟨Facts.wanted_free rfl, 33, #[.slice A1 5 c1, .int .u64 (a : Int)], by simp [go_sem, Act.eval, f10, f12], ?_⟩
      refine (refLay_any A1 5 c1 _ (a : Int) W (SS1.out.drew.below hR) (by omega) (by omega) (by omega)).mono ?_
      rw [Int.toNat_natCast]
      rintro e w7 ⟨A7, c7, rfl, hown7, hb7⟩
      exact ⟨_, rfl, hb7, A7, c7, rfl, Sees.of_own hown7⟩
    · refine Facts.step_is (.pointer (some ⟨w.heap.size, 2, none⟩)) fun a' W hR hold hnew => ?_
      have f1 : a'.tmps.getD 1 undef = .pointer (some ⟨w.heap.size, 0, none⟩) := hold 1 (by kernel_rfl)
      refine ⟨Facts.wanted_free rfl, ?_, fun _ => rfl⟩
      simp [go_sem, Act.eval, f1]
    · refine Facts.step_is (.int .u64 (b : Int)) fun a' W hR hold hnew => ?_
      have f14 : a'.tmps.getD 14 undef = .pointer (some ⟨w.heap.size, 2, none⟩) := hnew 4 14 (by kernel_rfl)
      have hc := (CELL.out W hR).2
      refine ⟨Facts.wanted_free rfl, ?_, fun _ => rfl⟩
      simp [go_sem, Act.eval, f14, hc]
    · refine Facts.step_call fun a' W hR hold hnew => ?_
      have h13 : ∃ A c, a'.tmps.getD 13 undef = .slice A (5 + (enc a).length) c ∧ Sees W A (5 + (enc a).length) ([97, 110, 97, 49] ++ [k] ++ enc a) := hnew 3 13 (by kernel_rfl)
      have f15 : a'.tmps.getD 15 undef = .int .u64 (b : Int) := hnew 5 15 (by kernel_rfl)
      obtain ⟨A3, c3, f13, s3⟩ := h13
      refine ⟨Facts.wanted_free rfl, 33, #[.slice A3 (5 + (enc a).length) c3, .int .u64 (b : Int)], by simp [go_sem, Act.eval, f13, f15], ?_⟩
      refine (refLay_any A3 _ c3 _ (b : Int) W s3 (by omega) (by omega) (by omega)).mono ?_
      rw [Int.toNat_natCast, E1.out, ← hlen.1]
      rintro e w7 ⟨A7, c7, rfl, hown7, hb7⟩
      exact ⟨_, rfl, hb7, A7, c7, rfl, Sees.of_own hown7⟩
    · refine Facts.step_call fun a' W hR hold hnew => ?_
      have h16 : ∃ A c, a'.tmps.getD 16 undef = .slice A (titleL k a b).length c ∧ Sees W A (titleL k a b).length (titleL k a b) := hnew 6 16 (by kernel_rfl)
      obtain ⟨A3, c3, f16, s3⟩ := h16
      refine ⟨Facts.wanted_free rfl, 32, #[.slice A3 (titleL k a b).length c3], by simp [go_sem, Act.eval, f16], ?_⟩
      refine (refWrap_any A3 _ c3 _ W s3 (by omega)).mono ?_
      rw [← wrap_length]
      rintro e w7 ⟨A7, c7, rfl, hown7, hb7⟩
      exact ⟨_, rfl, hb7, A7, c7, rfl, Own.lower hown7 hR.size⟩
    · refine Facts.step_some fun a' W hR hold hnew => ?_
      have h17 : ∃ A c, a'.tmps.getD 17 undef = .slice A (headL k a b).length c ∧ W.ownsRow w1.heap.size 5 1 (.slice A (headL k a b).length c) (headL k a b).length (cs (headL k a b)) := hnew 7 17 (by kernel_rfl)
      obtain ⟨A3, c3, f17, s3⟩ := h17
      exact ⟨Facts.wanted_free rfl, .slice A3 _ c3, by simp [go_sem, Act.eval, f17], A3, c3, rfl, s3⟩
  · intro a' W hR hsize hdef hnew hold
    have h2 : ∃ A c, a'.tmps.getD 2 undef = .slice A (headL k a b).length c ∧ W.ownsRow w1.heap.size 5 1 (.slice A (headL k a b).length c) (headL k a b).length (cs (headL k a b)) := hnew 8 2 (by kernel_rfl)
    obtain ⟨A2, c2, f2, r1⟩ := h2
    have hbb : Below w.heap.size w W := bw1.drew.trans (hR.mono bw1.drew.size)
    go_wp2
    try simp only [Exit.inBlock, Exit.then]
    refine bodyPost_ret (results_tmp rfl _ _ _) hdef ?_
    rw [f2]
    exact ⟨A2, c2, rfl, Own.lower r1 bw1.size, hbb⟩

theorem count_le : ∀ M : List (List UInt8), M.length ≤ (wraps M).length := by
  intro M
  induction M with
  | nil => simp
  | cons x r ih =>
    simp only [wraps, List.map_cons, List.flatten_cons, List.length_append, List.length_cons] at ih ⊢
    have := wrap_length x
    omega

set_option maxRecDepth 100000 in
theorem layLaw_any (k : UInt8) (a b : Nat) (A : Option Addr) (n c : Nat) (L : List (List UInt8)) (w : World) (ha : a < 18446744073709551616) (hb : b < 18446744073709551616) (hs : SeesAll w A n L) (hw : (wraps L).length ≤ 500000000) :
    Calls Tryd.prog 16 #[titleV k a b, .slice A n c] w (New w.heap.size (wholeL k a b L).length (wholeL k a b L) w) := by
  obtain ⟨i, hi, hz, hsz, hby⟩ := info_parts info8
  have hl := hs.len
  have hhl := headL_len (k := k) ha hb
  have htl := (titleL_len (k := k) ha hb).2
  have hlen : (headL k a b).length ≤ 50 := by omega
  have hn : n ≤ 500000000 := by have := count_le L; omega
  have hb1 : Below w.heap.size w (w.alloc (.cells #[.int .u8 (k.toNat : Int), .int .u64 (a : Int), .int .u64 (b : Int)] 24)) := (Below.refl _ _).alloc (Nat.le_refl _) _
  have hhead := headLaw_any k a b (w.alloc (.cells #[.int .u8 (k.toNat : Int), .int .u64 (a : Int), .int .u64 (b : Int)] 24)) ha hb
  unfold titleV at hhead ⊢
  clear hhl htl
  go_enter Tryd.func16, Tryd.ntmps16
  go_wp2_with fail
  refine hhead.mono ?_
  rintro e w1 ⟨A1, c1, rfl, hown, hb2⟩
  have b2 := hb1.trans (hb2.mono hb1.size)
  have hown := Own.lower hown hb1.size
  clear hhead hb2
  go_wp2_with fail
  go_loopw [5, 6] (fun v x wr => ∃ (A' : Option Addr) (m c' j : Nat), v = .slice A' m c' ∧ x = .int .i64 (j : Int) ∧ j ≤ n ∧ m = (headL k a b ++ wraps (L.take j)).length ∧ wr.ownsRow w.heap.size 5 1 (.slice A' m c') m (cs (headL k a b ++ wraps (L.take j))) ∧ Below w.heap.size w wr) (fun _ x _ => n - (intOf x).toNat)
  case atStart => exact ⟨A1, _, c1, 0, rfl, rfl, by omega, by simp [wraps], by simpa [wraps] using hown, b2⟩
  case round =>
    obtain ⟨A', m, c', j, rfl, rfl, hj, hm, hownj, hbj⟩ := hrel
    have HM := Lib.hid hm
    have hwj := hbj.size
    have hmle : m ≤ 500000100 := by
      have := wraps_le L j
      rw [hm, List.length_append]
      omega
    clear hm
    by_cases hlt : j < n
    · have hjl : j < L.length := by omega
      obtain ⟨g, o, Ae, ce, rfl, hcell, hce, hse⟩ := (hs.below hbj).get hlt
      have hel := wrap_mem_le hjl
      have hstep := wraps_take L j hjl
      generalize L.getD j [] = x at hcell hce hse hel hstep
      obtain ⟨xl, hxl⟩ : ∃ xl, xl = x.length := ⟨_, rfl⟩
      rw [← hxl] at hcell hce hse hel
      have HX := Lib.hid hxl
      have HS := Lib.hid hstep
      clear hxl hstep
      have he := enc_ten (n := xl) (by omega)
      go_wp2_with fail
      refine (refWrap_any Ae xl ce x wr hse (by omega)).mono ?_
      rintro e w2 ⟨A2, c2, rfl, hown2, hb2⟩
      have hs2 := Sees.of_own hown2
      have hownj2 := Own.below hownj hb2 (Nat.le_refl _)
      have bj2 := hbj.trans (hb2.mono hwj)
      have hw2 := bj2.size
      clear hown2
      go_wp2_with (first | (at_builtin; refine wpList_app rfl _ _ 37 rfl w.heap.size 5 i (.int .u8 0) Tryd.underlying37 hi hz hsz hby rfl A' m c' _ rfl hownj2 A2 _ c2 _ rfl hs2 ?d1 ?d2 ?_))
      case d1 => omega
      case d2 => exact hw2
      intro A3 c3 w3 hown3 hb3
      rw [← HS.out] at hown3
      go_wp2
      go_roundw
      case rel =>
        refine ⟨A3, _, c3, j + 1, rfl, rfl, by omega, ?_, hown3, bj2.trans hb3⟩
        have h1 := HM.out
        have h2 := HS.out
        have h3 := HX.out
        rw [h2, h1]
        simp only [List.length_append, wrap_length, ← h3]
        omega
      case measure => simp [intOf]; omega
    · have hjn : j = n := by omega
      subst hjn
      have ht : L.take j = L := List.take_of_length_le (by omega)
      rw [ht] at hownj HM
      have HW := Lib.hid hownj
      clear hownj
      go_wp2
      go_ret
      have h1 := HM.out
      subst h1
      exact ⟨A', c', rfl, HW.out, hbj⟩
end Go.Proofs.YtfdnlgigllflfaaDoor.Sht

/- The example with which the laws of layer 5 begin. What Swap comes to, on a disk of one file: plain lists. Calls of the laws of layer 5, held against the world in which the law began. -/
namespace Go.Proofs.YtfdnlgigllflfaaDoor.Sht
open Go Go.RowKit Go.Proofs.YtfdnlgigllflfaaDoor.Words Go.Proofs.YtfdnlgigllflfaaDoor.Enc Go.Proofs.YtfdnlgigllflfaaDoor.Made Go.Proofs.YtfdnlgigllflfaaDoor.Dsk
set_option linter.unusedVariables false

theorem hd_fits5 {h : Hd} (h1 : -9223372036854775808 ≤ h.room) (h2 : h.room ≤ 9223372036854775807) (h3 : h.acts ≤ 1000000000000) (h4 : -9223372036854775808 ≤ h.left) (h5 : h.left ≤ 9223372036854775807) (h6 : -9223372036854775808 ≤ h.torn) (h7 : h.torn ≤ 9223372036854775807) : h.fits := ⟨⟨h1, h2⟩, h3, ⟨h4, h5⟩, ⟨h6, h7⟩⟩
theorem ok_f5 : okName [102] = true := by decide +kernel
theorem ok_fn5 : okName ([102] ++ suff) = true := by decide +kernel
/-- Behind a step on a disk of the call's own. -/
theorem step_low5 {w0 w w' : World} {S S' : List Nat} (b : Below w0.heap.size w0 w) (hS : ∀ k ∈ S, w0.heap.size ≤ k) (hb : Beside S w w') (hs : ∀ k ∈ S', k ∈ S ∨ w.heap.size ≤ k) : Below w0.heap.size w0 w' ∧ ∀ k ∈ S', w0.heap.size ≤ k :=
  ⟨Below.beside b hb b.size hS, fun k hk => by
    rcases hs k hk with h | h
    · exact hS k h
    · have := b.size; omega⟩
theorem junk_ex : allL [49, 50, 51, 52] most = ([], 0, 5) := by decide +kernel
theorem head_ex : (headL 120 0 0).length = 12 := by
  rw [headL_len (by omega) (by omega)]
  simp [titleL, enc_small]
theorem wrap_ex : (wrap [120]).length = 6 := by
  rw [wrap_length]
  simp [enc_small]

set_option maxRecDepth 100000 in
set_option maxHeartbeats 1000000 in
theorem awake5 (w : World) (T : Chk.Tabs w) : Calls Tryd.prog 8 #[] w fun e w' => e = .returned (.bool true) ∧ Below w.heap.size w w' := by
  have hconv := fun (W : World) (C : Array Value) (n c : Nat) => Lib.run_convert_bytes_const (P := Tryd.prog) W 37 5 C n c Tryd.underlying37 Tryd.underlying5
  obtain ⟨h0, hh0⟩ : ∃ h0 : Hd, h0 = ⟨1000, 0, -1, 0, false⟩ := ⟨_, rfl⟩
  obtain ⟨hl, hhl⟩ : ∃ hl : List UInt8, hl = headL 120 0 0 := ⟨_, rfl⟩
  have hll : hl.length = 12 := by rw [hhl]; exact head_ex
  obtain ⟨xl, hxl⟩ : ∃ xl : List UInt8, xl = wrap [120] := ⟨_, rfl⟩
  have hxll : xl.length = 6 := by rw [hxl]; exact wrap_ex
  have HHL := Lib.hid hhl
  have HXL := Lib.hid hxl
  have HLL := Lib.hid hll
  have HXLL := Lib.hid hxll
  -- Begin, Add, Append, Mend: what they come to
  have r1 : beginR h0 [102] hl [] = (0, [⟨[102], hl, 12⟩], h0.act.act) := by
    subst hh0
    simp [beginR, readE, lookA, createR, appE, appF, Hd.may, Hd.act, sumA, put, thereE, thereF, upd, syncG, hll]
  have r2 : appE h0.act.act [102] xl [⟨[102], hl, 12⟩] = 0 ∧ appF h0.act.act [102] xl [⟨[102], hl, 12⟩] = [⟨[102], hl ++ xl, 12⟩] := by
    subst hh0
    simp [appE, appF, Hd.may, Hd.act, sumA, put, hll, hxll]
  have r3 : appE h0.act.act.act [102] [49, 50, 51, 52] [⟨[102], hl ++ xl, 12⟩] = 0 ∧ appF h0.act.act.act [102] [49, 50, 51, 52] [⟨[102], hl ++ xl, 12⟩] = [⟨[102], hl ++ xl ++ [49, 50, 51, 52], 12⟩] := by
    subst hh0
    simp [appE, appF, Hd.may, Hd.act, sumA, put, hll, hxll]
  have hall : allL (xl ++ [49, 50, 51, 52]) most = ([[120]], 6, 5) := by
    rw [hxl, allL_wrap [120] [49, 50, 51, 52] most (by decide) (by simp), junk_ex, wrap_ex]
    rfl
  have hgood : goodN 120 0 0 (xl ++ [49, 50, 51, 52]) = 18 := by unfold goodN; rw [hall, head_ex]; rfl
  have r4 : mendF [102] 120 0 0 (xl ++ [49, 50, 51, 52]) [⟨[102], hl ++ xl ++ [49, 50, 51, 52], 12⟩] = [⟨[102], hl ++ xl, 18⟩] := by
    unfold mendF
    rw [hall, hgood, if_neg (by decide)]
    simp [upd, cutG, hll, hxll, List.take_append]
    rw [List.take_of_length_le (by omega)]
  have hmay3 : h0.act.act.act.act.may = true := by subst hh0; decide +kernel
  have hof3 : h0.act.act.act.act.act.off = false := by subst hh0; decide +kernel
  have hfit : h0.fits ∧ h0.act.act.fits ∧ h0.act.act.act.fits ∧ h0.act.act.act.act.fits := by
    subst hh0
    refine ⟨?_, ?_, ?_, ?_⟩ <;> (refine hd_fits5 ?_ ?_ ?_ ?_ ?_ ?_ ?_ <;> decide +kernel)
  have hacts : h0.acts < 999999999999 ∧ h0.act.act.acts < 1000000000000 ∧ h0.act.act.act.acts < 1000000000000 := by
    subst hh0
    refine ⟨?_, ?_, ?_⟩ <;> decide +kernel
  have HR1 := Lib.hid r1
  have HR2 := Lib.hid r2
  have HR3 := Lib.hid r3
  have HR4 := Lib.hid r4
  have HALL := Lib.hid hall
  have HGOOD := Lib.hid hgood
  have HMAY := Lib.hid hmay3
  have HOF := Lib.hid hof3
  have HFIT := Lib.hid hfit
  have HAC := Lib.hid hacts
  have HH0 := Lib.hid hh0
  clear r1 r2 r3 r4 hall hgood hmay3 hof3 hfit hacts hhl hxl hll hxll hh0
  have hnew := newC 1000 w
  rw [← HH0.out] at hnew
  have hbeg := fun d S W hT hd => begin_any d S [] h0 [102] 120 0 0 W hT (by omega) (by omega) hd HFIT.out.1 HAC.out.1 ok_f5 (by simp [sumA])
    (by rw [← HHL.out]; have h1 := HLL.out; have h2 := HH0.out; subst h2; simp [appF, sumA, put, h1]) (by simp)
  rw [← HHL.out, HR1.out] at hbeg
  unfold titleV at hbeg
  simp only [show ((120 : UInt8).toNat : Int) = 120 from rfl, Int.natCast_zero] at hbeg
  have HB := Lib.hid hbeg
  clear hbeg
  go_enter Tryd.func8, Tryd.ntmps8
  go_wp2_with fail
  refine hnew.mono ?_
  rintro e w1 ⟨d, S1, rfl, hd1, hS1, b1⟩
  clear hnew
  go_wp2_with fail
  refine (HB.out d S1 w1 (T.below b1) hd1).mono ?_
  rintro e w2 ⟨rfl, S2, hd2, hb2, hs2⟩
  obtain ⟨b2, hS2⟩ := step_low5 b1 hS1 hb2 hs2
  clear hd1 hb2 hs2 hS1 b1
  have hbx : Below w2.heap.size w2 (w2.alloc (.cells #[.int .u8 120] 5 (1, 2))) := (Below.refl _ _).alloc (Nat.le_refl _) _
  have hadd := add_any d S2 [⟨[102], hl, 12⟩] h0.act.act [102] (some ⟨w2.heap.size, 0, none⟩) 1 1 [120] _ (T.below (b2.trans (hbx.mono b2.size))) (hd2.below hbx) HFIT.out.2.1 HAC.out.2.1 ok_f5 (by simp [sumA, HLL.out]) (by simp) (by omega) (by omega)
    (sees_marked w2 _ _ _ 1 [120] rfl (fun j u hj => by match j, hj with | 0, hj => simp at hj; subst hj; rfl))
  rw [← HXL.out, HR2.out.1, HR2.out.2] at hadd
  go_wp2_with fail
  refine hadd.mono ?_
  rintro e w3 ⟨rfl, S3, hd3, hb3, hs3⟩
  obtain ⟨b3, hS3⟩ := step_low5 (b2.trans (hbx.mono b2.size)) hS2 hb3 hs3
  clear hadd hd2 hb3 hs3 hS2 b2 hbx
  have hbx : Below w3.heap.size w3 (w3.alloc (.cells #[.int .u8 49, .int .u8 50, .int .u8 51, .int .u8 52] 5 (4, 5))) := (Below.refl _ _).alloc (Nat.le_refl _) _
  have happ := appendC d S3 [⟨[102], hl ++ xl, 12⟩] h0.act.act.act [102] (some ⟨w3.heap.size, 0, none⟩) 4 4 [49, 50, 51, 52] _ (hd3.below hbx) HFIT.out.2.2.1 HAC.out.2.2 ok_f5 (by simp [sumA, HLL.out, HXLL.out]) (by simp) (by omega) (by omega) (by omega)
    (sees_marked w3 _ _ _ 4 [49, 50, 51, 52] rfl (fun j u hj => by match j, hj with | 0, hj => simp at hj; subst hj; rfl | 1, hj => simp at hj; subst hj; rfl | 2, hj => simp at hj; subst hj; rfl | 3, hj => simp at hj; subst hj; rfl)) (fun _ a ha hm => by cases ha; have := hd3.lt _ hm; simp at this)
  rw [HR3.out.1, HR3.out.2] at happ
  go_wp2_with fail
  refine happ.mono ?_
  rintro e w4 ⟨rfl, S4, hd4, hb4, hs4⟩
  obtain ⟨b4, hS4⟩ := step_low5 (b3.trans (hbx.mono b3.size)) hS3 hb4 hs4
  clear happ hd3 hb4 hs4 hS3 b3 hbx
  have hmend := mend_any d S4 [⟨[102], hl ++ xl ++ [49, 50, 51, 52], 12⟩] h0.act.act.act.act [102] ⟨[102], hl ++ xl ++ [49, 50, 51, 52], 12⟩ 120 0 0 (xl ++ [49, 50, 51, 52]) w4 (T.below b4) (by omega) (by omega) hd4 (by simp) (by simp [sumA, HLL.out, HXLL.out]) HFIT.out.2.2.2 HMAY.out (by simp [lookA]) (by rw [← HHL.out, List.append_assoc])
  go_wp2_with fail
  refine hmend.mono ?_
  rintro e w5 ⟨Al, nl, cl, vs, rfl, hown5, heach5, S5, hd5, hb5, hs5⟩
  rw [HR4.out] at hd5
  rw [HALL.out] at heach5
  rw [HGOOD.out]
  obtain ⟨b5, hS5⟩ := step_low5 b4 hS4 hb5 hs5
  unfold sheetV
  simp only [show ((120 : UInt8).toNat : Int) = 120 from rfl, Int.natCast_zero]
  clear hmend hd4 hb5 hs5 hS4
  obtain ⟨x, rfl⟩ : ∃ x, vs = [x] := by
    have := heach5.1
    cases vs with
    | nil => simp at this
    | cons x r => cases r with
      | nil => exact ⟨x, rfl⟩
      | cons y r => simp at this
  obtain ⟨Ax, cx, hx, hownx⟩ := heach5.2 0 [120] rfl
  simp at hx
  subst hx
  have hnl : nl = 1 := by have := hown5.1; simp at this; omega
  subst hnl
  have hcl1 := (Own.cap hown5).1
  obtain ⟨g, rfl, _⟩ := Own.at_ hown5 (by omega)
  have hcg : w5.cell? ⟨g, 0, none⟩ = some (.slice Ax 1 cx) := by
    have := hown5.cells (g := g) rfl 0 (.slice Ax 1 cx) rfl
    simpa [Addr.add] using this
  have hsx : Sees w5 Ax 1 [120] := hownx.sees
  clear heach5 hown5 hownx
  go_upto_region 6 with fail
  have hbv : Below w5.heap.size w5 (w5.alloc (.cells #[.int .u8 120, .int .u64 0, .int .u64 0, .slice (some ⟨g, 0, none⟩) 1 cl, .int .i64 18, .int .i64 0] 32)) := (Below.refl _ _).alloc (Nat.le_refl _) _
  have v6 := sheetAt_new w5 (.int .u8 120) (.int .u64 0) (.int .u64 0) (.slice (some ⟨g, 0, none⟩) 1 cl) (.int .i64 18) (.int .i64 0)
  have hd6 := hd5.below hbv
  have b6 := b5.trans (hbv.mono b5.size)
  have hcg6 := (hbv.cell (World.block_lt_of_cell? _ _ hcg)).trans hcg
  have hsx6 := hsx.below hbv
  have hd6 : Disk (w5.alloc (.cells #[.int .u8 120, .int .u64 0, .int .u64 0, .slice (some ⟨g, 0, none⟩) 1 cl, .int .i64 18, .int .i64 0] 32)) d S5 [⟨[102], hl ++ xl, 18⟩] (mendH (xl ++ [49, 50, 51, 52]) h0.act.act.act.act) := hd6
  generalize w5.alloc (.cells #[.int .u8 120, .int .u64 0, .int .u64 0, .slice (some ⟨g, 0, none⟩) 1 cl, .int .i64 18, .int .i64 0] 32) = W6 at v6 hd6 b6 hcg6 hsx6 ⊢
  generalize w5.heap.size = r at v6 ⊢
  obtain ⟨p6, hp6⟩ : ∃ p6, p6 = hl ++ xl := ⟨_, rfl⟩
  have hp18 : p6.length = 18 := by rw [hp6, List.length_append, HLL.out, HXLL.out]
  rw [← hp6] at hd6
  have hH : mendH (xl ++ [49, 50, 51, 52]) h0.act.act.act.act = h0.act.act.act.act.act := by unfold mendH; rw [HALL.out, if_neg (by decide)]
  rw [hH] at hd6
  have hread := readC d S5 [⟨[102], p6, 18⟩] h0.act.act.act.act.act [102] W6 hd6 (by simp) (by simp [sumA, hp18])
  have hrp := read_bytes (h := h0.act.act.act.act.act) (s := [102]) (files := [⟨[102], p6, 18⟩]) (f := ⟨[102], p6, 18⟩) HOF.out (by simp [lookA])
  rw [hrp.1, hrp.2] at hread
  simp only [] at hread
  unfold Tells at hread
  rw [hp18] at hread
  clear hd6 hd5 hp6 hH hrp hS5 hbv hsx hcg b5
  go_wp2_with fail
  refine hread.mono ?_
  rintro e w7 ⟨A7, c7, rfl, hown7, hb7⟩
  have b7 := b6.trans (hb7.mono b6.size)
  have hc7 : w7.cell? ⟨g, 0, none⟩ = some (.slice Ax 1 cx) := by rw [hb7.cell (World.block_lt_of_cell? _ _ hcg6)]; exact hcg6
  have hs7 := (hsx6.below hb7).string (P := Tryd.prog) cx (s := 9) Tryd.underlying37 Tryd.underlying5 Tryd.underlying9
  obtain ⟨⟨y0, y1, y2, y3, y4, y5⟩, zz⟩ := (v6.below hb7).cells
  rw [show (⟨[120].toArray⟩ : ByteArray) = ⟨#[120]⟩ from rfl] at hs7
  have hcl : 1 ≤ cl := hcl1
  clear zz hown7 hb7 hcg6 hsx6 v6 hread
  go_wp2
  go_ret
  exact ⟨rfl, b7⟩
end Go.Proofs.YtfdnlgigllflfaaDoor.Sht
namespace Go.Proofs.YtfdnlgigllflfaaDoor.Sht
open Go Go.RowKit Go.Proofs.YtfdnlgigllflfaaDoor.Words Go.Proofs.YtfdnlgigllflfaaDoor.Enc Go.Proofs.YtfdnlgigllflfaaDoor.Made Go.Proofs.YtfdnlgigllflfaaDoor.Dsk
set_option linter.unusedVariables false

abbrev fN : List UInt8 := [102]
abbrev tN : List UInt8 := [102, 46, 110, 101, 119]
theorem tN_is : fN ++ suff = tN := rfl
theorem act_un {room left torn : Int} {acts : Nat} (hl : left < 0) : Hd.act ⟨room, acts, left, torn, false⟩ = ⟨room, acts + 1, left, torn, false⟩ := by
  have h1 : ¬ left = 0 := by omega
  have h2 : ¬ 0 < left := by omega
  simp [Hd.act, h1, h2]
theorem may_un {room left torn : Int} {acts : Nat} (hl : left ≠ 0) : Hd.may ⟨room, acts, left, torn, false⟩ = true := by simp [Hd.may, hl]

/-- The new file, made and moved: on a disk that holds nothing else. -/
theorem swap_new {room left torn : Int} {acts : Nat} {q : List UInt8} (hl : left < 0) (hq : (q.length : Int) ≤ room) :
    swapR ⟨room, acts, left, torn, false⟩ fN tN q [] = (0, [⟨fN, q, q.length⟩], ⟨room, acts + 4, left, torn, false⟩) := by
  have h0 : left ≠ 0 := by omega
  have hr : removeF ⟨room, acts, left, torn, false⟩ tN [] = [] := by simp [removeF, dropF]
  have ht : thereE ⟨room, acts, left, torn, false⟩ tN [] = 2 := by simp [thereE, may_un h0, lookA]
  have ha : appE ⟨room, acts + 1, left, torn, false⟩ tN q [] = 0 := by simp [appE, may_un h0, sumA, hq]
  have hf : appF ⟨room, acts + 1, left, torn, false⟩ tN q [] = [⟨tN, q, 0⟩] := by simp [appF, h0, sumA, hq, put]
  have hc : createR ⟨room, acts + 1, left, torn, false⟩ tN q [] = (0, [⟨tN, q, q.length⟩], ⟨room, acts + 3, left, torn, false⟩) := by
    unfold createR
    rw [ha, if_pos rfl, hf, act_un hl, act_un hl]
    simp [thereE, thereF, may_un h0, lookA, upd, syncG]
  unfold swapR
  rw [ht, if_neg (by decide), hr, act_un hl, hc, if_neg (by simp)]
  simp only [act_un hl]
  simp [thereE, moveF, may_un h0, moved, lookA, dropF]
/-- .. beside the old one; with what is left of a new file, or without. -/
theorem swap_old {room left torn : Int} {acts : Nat} {p q p2 : List UInt8} {n n2 : Nat} (hl : left < 0) (rest : List File) (hrest : rest = [] ∨ rest = [⟨tN, p2, n2⟩]) :
    swapR ⟨room, acts, left, torn, false⟩ fN tN q (⟨fN, p, n⟩ :: rest) = if (p.length : Int) + q.length ≤ room then (0, [⟨fN, q, q.length⟩], ⟨room, acts + 4, left, torn, false⟩) else (3, [⟨fN, p, n⟩], ⟨room, acts + 2, left, torn, false⟩) := by
  have h0 : left ≠ 0 := by omega
  have hr : removeF ⟨room, acts, left, torn, false⟩ tN (⟨fN, p, n⟩ :: rest) = [⟨fN, p, n⟩] := by
    rcases hrest with rfl | rfl <;> simp [removeF, dropF, may_un h0]
  have ht : thereE ⟨room, acts, left, torn, false⟩ tN (⟨fN, p, n⟩ :: rest) ≠ 7 := by
    rcases hrest with rfl | rfl <;> simp [thereE, may_un h0, lookA]
  unfold swapR
  rw [if_neg ht, hr, act_un hl]
  by_cases hq : (p.length : Int) + q.length ≤ room
  · have ha : appE ⟨room, acts + 1, left, torn, false⟩ tN q [⟨fN, p, n⟩] = 0 := by simp [appE, may_un h0, sumA, hq]
    have hf : appF ⟨room, acts + 1, left, torn, false⟩ tN q [⟨fN, p, n⟩] = [⟨fN, p, n⟩, ⟨tN, q, 0⟩] := by simp [appF, h0, sumA, hq, put]
    have hc : createR ⟨room, acts + 1, left, torn, false⟩ tN q [⟨fN, p, n⟩] = (0, [⟨fN, p, n⟩, ⟨tN, q, q.length⟩], ⟨room, acts + 3, left, torn, false⟩) := by
      unfold createR
      rw [ha, if_pos rfl, hf, act_un hl, act_un hl]
      simp [thereE, thereF, may_un h0, lookA, upd, syncG]
    rw [hc, if_neg (by simp), if_pos hq]
    simp only [act_un hl]
    simp [thereE, moveF, may_un h0, moved, lookA, dropF, upd]
  · have ha : appE ⟨room, acts + 1, left, torn, false⟩ tN q [⟨fN, p, n⟩] = 3 := by simp [appE, may_un h0, sumA, hq]
    have hf : appF ⟨room, acts + 1, left, torn, false⟩ tN q [⟨fN, p, n⟩] = [⟨fN, p, n⟩] := by simp [appF, h0, sumA, hq]
    have hc : createR ⟨room, acts + 1, left, torn, false⟩ tN q [⟨fN, p, n⟩] = (3, [⟨fN, p, n⟩], ⟨room, acts + 2, left, torn, false⟩) := by
      unfold createR
      rw [ha, if_neg (by decide), hf, act_un hl]
    rw [hc, if_pos (by simp), if_neg hq]
/-- The sums that Swap's contract asks for, where all is small. -/
theorem swap_small {h : Hd} {files : List File} {q : List UInt8} {B : Nat} (hB : sumA files + q.length ≤ B) :
    sumA (removeF h tN files) ≤ B ∧ sumA (appF h.act tN q (removeF h tN files)) ≤ B ∧ sumA (createR h.act tN q (removeF h tN files)).2.1 ≤ B := by
  have hdrop : ∀ l : List File, sumA (dropF tN l) ≤ sumA l := by
    intro l
    induction l with
    | nil => simp [dropF]
    | cons x r ih =>
      simp only [dropF, List.filter_cons] at ih ⊢
      split
      · simp only [sumA]; omega
      · simp only [sumA]; omega
  have h1 : sumA (removeF h tN files) ≤ sumA files := by
    unfold removeF
    split
    · exact hdrop files
    · exact Nat.le_refl _
  have hput : ∀ (x : List UInt8) (l : List File), sumA (put tN x l) = sumA l + x.length := by
    intro x l
    induction l with
    | nil => simp [put, sumA]
    | cons f r ih =>
      simp only [put]
      split
      · simp only [sumA, List.length_append]; omega
      · simp only [sumA, ih]; omega
  have h2 : ∀ (g : Hd) (l : List File), sumA (appF g tN q l) ≤ sumA l + q.length := by
    intro g l
    unfold appF tornF
    split
    · omega
    · split
      · split
        · rw [hput, List.length_take]; omega
        · omega
      · split
        · rw [hput]; omega
        · omega
  have hupd : ∀ l : List File, sumA (upd tN syncG l) = sumA l := by
    intro l
    induction l with
    | nil => rfl
    | cons f r ih =>
      simp only [upd, List.map_cons, sumA] at ih ⊢
      rw [ih]
      split <;> simp [syncG]
  have h3 := h2 h.act (removeF h tN files)
  refine ⟨by omega, by omega, ?_⟩
  unfold createR
  split
  · simp only [thereF]
    split
    · rw [hupd]; omega
    · omega
  · simp only []; omega
theorem swap_few {h : Hd} {files : List File} {q : List UInt8} : (removeF h tN files).length ≤ files.length ∧ (createR h.act tN q (removeF h tN files)).2.1.length ≤ files.length + 1 := by
  have h1 : (removeF h tN files).length ≤ files.length := by
    unfold removeF dropF
    split
    · exact List.length_filter_le _ _
    · exact Nat.le_refl _
  have hput : ∀ (x : List UInt8) (l : List File), (put tN x l).length ≤ l.length + 1 := by
    intro x l
    induction l with
    | nil => simp [put]
    | cons f r ih =>
      simp only [put]
      split
      · simp
      · simp only [List.length_cons]; omega
  have h2 : ∀ (g : Hd) (l : List File), (appF g tN q l).length ≤ l.length + 1 := by
    intro g l
    unfold appF tornF
    split
    · omega
    · split
      · split
        · exact hput _ _
        · omega
      · split
        · exact hput _ _
        · omega
  have h3 := h2 h.act (removeF h tN files)
  refine ⟨h1, ?_⟩
  unfold createR
  split
  · simp only [thereF]
    split
    · simp [upd]; omega
    · omega
  · simp only []; omega
end Go.Proofs.YtfdnlgigllflfaaDoor.Sht
namespace Go.Proofs.YtfdnlgigllflfaaDoor.Sht
open Go Go.RowKit Go.Proofs.YtfdnlgigllflfaaDoor.Words Go.Proofs.YtfdnlgigllflfaaDoor.Enc Go.Proofs.YtfdnlgigllflfaaDoor.Made Go.Proofs.YtfdnlgigllflfaaDoor.Dsk
set_option linter.unusedVariables false

/-- A disk of the law's own: all that it owns is new since w0; what was there in w0 is as it was. -/
def Since (w0 : World) (d : Nat) (files : List File) (h : Hd) (w : World) : Prop := ∃ S, Disk w d S files h ∧ Below w0.heap.size w0 w ∧ ∀ k ∈ S, w0.heap.size ≤ k
theorem Since.below {w0 w : World} {d : Nat} {files : List File} {h : Hd} (s : Since w0 d files h w) : Below w0.heap.size w0 w := by obtain ⟨_, _, b, _⟩ := s; exact b
theorem Since.after {w0 w w' : World} {d : Nat} {files : List File} {h : Hd} (s : Since w0 d files h w) (hb : Below w.heap.size w w') : Since w0 d files h w' := by
  obtain ⟨S, hd, b, hS⟩ := s
  exact ⟨S, hd.below hb, b.trans (hb.mono b.size), hS⟩
theorem since_next {w0 w w' : World} {d : Nat} {S : List Nat} {files : List File} {h : Hd} (b : Below w0.heap.size w0 w) (hS : ∀ k ∈ S, w0.heap.size ≤ k) (hn : Dsk.Next S w d files h w') : Since w0 d files h w' := by
  obtain ⟨S', hd, hb, hs⟩ := hn
  obtain ⟨b', hS'⟩ := step_low5 b hS hb hs
  exact ⟨S', hd, b', hS'⟩
/-- What is seen in w0 is seen still, and a disk's call leaves it alone. -/
theorem since_sees {w0 w W : World} {S : List Nat} {A : Option Addr} {n : Nat} {L : List (List UInt8)} (hs : SeesAll w0 A n L) (b : Below w0.heap.size w0 w) (hS : ∀ k ∈ S, w0.heap.size ≤ k) (hb : Beside S w W) : SeesAll W A n L :=
  hs.below (Below.beside b hb b.size hS)

theorem newL (w0 w : World) (b : Below w0.heap.size w0 w) (room : Int) :
    Calls Tryd.prog 10 #[.int .i64 room] w fun e w' => ∃ d, e = .returned (.pointer (some ⟨d, 0, none⟩)) ∧ Since w0 d [] ⟨room, 0, -1, 0, false⟩ w' := by
  refine (newC room w).mono ?_
  rintro e w1 ⟨d, S, rfl, hd, hS, hb⟩
  exact ⟨d, rfl, S, hd, b.trans (hb.mono b.size), fun k hk => Nat.le_trans b.size (hS k hk)⟩

theorem swapL (w0 w : World) (d : Nat) (files : List File) (h : Hd) (k : UInt8) (a b : Nat) (A : Option Addr) (n c : Nat) (L : List (List UInt8)) (T : Chk.Tabs w0) (hs : SeesAll w0 A n L) (ha : a < 18446744073709551616) (hb : b < 18446744073709551616)
    (hd : Since w0 d files h w) (hf : h.fits) (hac : h.acts < 1000) (hL : lens L ≤ 2000) (hsm : sumA files ≤ 100000) (hfl : files.length ≤ 10) {E : Int} {files' : List File} {h' : Hd} (hr : swapR h fN tN (wholeL k a b L) files = (E, files', h')) :
    Calls Tryd.prog 20 #[.pointer (some ⟨d, 0, none⟩), .string ⟨#[102]⟩, titleV k a b, .slice A n c] w fun e w' => e = .returned (.int .i64 E) ∧ Since w0 d files' h' w' := by
  obtain ⟨S, hd, bel, hS⟩ := hd
  have hln := hs.len
  have hl2 := lens_len L
  have hws := wraps_short hL
  have hhl := headL_len (k := k) ha hb
  have htl := (titleL_len (k := k) ha hb).2
  have hwh : (wholeL k a b L).length ≤ 2100 := by unfold wholeL; rw [List.length_append]; omega
  obtain ⟨s1, s2, s3⟩ := swap_small (h := h) (files := files) (q := wholeL k a b L) (B := 200000) (by omega)
  obtain ⟨f1, f2⟩ := swap_few (h := h) (files := files) (q := wholeL k a b L)
  have := swap_any d S files h fN k a b A n c L w (fun W hW => T.below (Below.beside bel hW bel.size hS)) ha hb hd hf (by omega) ok_f5 ok_fn5 (by omega) (by omega) (hs.below bel) (by omega)
    (fun l hl => by have := short_each hL l hl; omega) (by omega) (fun W hW => since_sees hs bel hS hW)
    (by rw [tN_is]; omega) (by rw [tN_is]; omega) (by rw [tN_is]; omega) (by rw [tN_is]; omega) (by rw [tN_is]; omega)
  rw [tN_is, hr] at this
  refine this.mono ?_
  rintro e w' ⟨rfl, hn⟩
  exact ⟨rfl, since_next bel hS hn⟩

theorem readL (w0 w : World) (d : Nat) (files : List File) (h : Hd) (s p : List UInt8) (E : Int) (hd : Since w0 d files h w) (hs : s.length ≤ 100) (hsm : sumA files ≤ 1000000000000) (hp : readP h s files = p) (hE : readE h s files = E) :
    Calls Tryd.prog 14 #[.pointer (some ⟨d, 0, none⟩), .string ⟨s.toArray⟩] w fun e w' => ∃ A c, e = .returned (.tuple #[.slice A p.length c, .int .i64 E]) ∧ w'.ownsRow w.heap.size 5 1 (.slice A p.length c) p.length (cs p) ∧ Below w.heap.size w w' ∧ Since w0 d files h w' := by
  obtain ⟨S, hd, bel, hS⟩ := hd
  have := readC d S files h s w hd (by omega) hsm
  rw [hp, hE] at this
  refine this.mono ?_
  rintro e w' ⟨A, c, rfl, hown, hb⟩
  exact ⟨A, c, rfl, hown, hb, S, hd.below hb, bel.trans (hb.mono bel.size), hS⟩
theorem widenL (w0 w : World) (d : Nat) (files : List File) (h : Hd) (room : Int) (hd : Since w0 d files h w) :
    Calls Tryd.prog 24 #[.pointer (some ⟨d, 0, none⟩), .int .i64 room] w fun e w' => e = .returned (.tuple #[]) ∧ Since w0 d files { h with room := room } w' := by
  obtain ⟨S, hd, bel, hS⟩ := hd
  refine (widenC d S files h room w hd).mono ?_
  rintro e w' ⟨rfl, hn⟩
  exact ⟨rfl, since_next bel hS hn⟩
theorem armL (w0 w : World) (d : Nat) (files : List File) (h : Hd) (acts torn : Int) (hd : Since w0 d files h w) :
    Calls Tryd.prog 21 #[.pointer (some ⟨d, 0, none⟩), .int .i64 acts, .int .i64 torn] w fun e w' => e = .returned (.tuple #[]) ∧ Since w0 d files { h with left := acts, torn := torn } w' := by
  obtain ⟨S, hd, bel, hS⟩ := hd
  refine (armC d S files h acts torn w hd).mono ?_
  rintro e w' ⟨rfl, hn⟩
  exact ⟨rfl, since_next bel hS hn⟩
theorem crashL (w0 w : World) (d : Nat) (files : List File) (h : Hd) (keep : Int) (hd : Since w0 d files h w) (hsm : sumA files ≤ 1000000000000) (hk1 : -9223372036854775808 ≤ keep) (hk2 : keep ≤ 9223372036854775807) :
    Calls Tryd.prog 22 #[.pointer (some ⟨d, 0, none⟩), .int .i64 keep] w fun e w' => e = .returned (.tuple #[]) ∧ Since w0 d (files.map (crashG keep)) { h with off := false, left := -1 } w' := by
  obtain ⟨S, hd, bel, hS⟩ := hd
  refine (crashC d S files h keep w hd hsm hk1 hk2).mono ?_
  rintro e w' ⟨rfl, hn⟩
  exact ⟨rfl, since_next bel hS hn⟩
theorem namesL (w0 w : World) (d : Nat) (f : File) (h : Hd) (hd : Since w0 d [f] h w) (hoff : h.off = false) (hlen : f.name.length ≤ 100000) :
    Calls Tryd.prog 23 #[.pointer (some ⟨d, 0, none⟩), .string ByteArray.empty] w fun e w' => ∃ A c, e = .returned (.slice A 1 c) ∧ Below w.heap.size w w' := by
  obtain ⟨S, hd, bel, hS⟩ := hd
  exact namesC d S f h w hd hoff hlen

/-- A title's variable. -/
def TitleAt (w : World) (m : Nat) (k : UInt8) (a b : Nat) : Prop := w.heap[m]? = some (.cells #[.int .u8 (k.toNat : Int), .int .u64 (a : Int), .int .u64 (b : Int)] 24 (0, 0))
theorem TitleAt.cells {w : World} {m : Nat} {k : UInt8} {a b : Nat} (h : TitleAt w m k a b) : w.cell? ⟨m, 0, none⟩ = some (.int .u8 (k.toNat : Int)) ∧ w.cell? ⟨m, 1, none⟩ = some (.int .u64 (a : Int)) ∧ w.cell? ⟨m, 2, none⟩ = some (.int .u64 (b : Int)) := by
  unfold TitleAt at h
  refine ⟨?_, ?_, ?_⟩ <;> (rw [cell_of_row w m _ _ _ _ h]; rfl)
theorem TitleAt.lt {w : World} {m : Nat} {k : UInt8} {a b : Nat} (h : TitleAt w m k a b) : m < w.heap.size := (Array.getElem?_eq_some_iff.1 h).1
theorem TitleAt.below {w0 w : World} {m : Nat} {k : UInt8} {a b : Nat} (h : TitleAt w0 m k a b) (hb : Below w0.heap.size w0 w) : TitleAt w m k a b := (hb.block m h.lt).trans h
end Go.Proofs.YtfdnlgigllflfaaDoor.Sht

/- More calls of the laws of layer 5: Begin, Add, Read, held against the world in which the law began; two titles that are one. -/
namespace Go.Proofs.YtfdnlgigllflfaaDoor.Sht
open Go Go.RowKit Go.Proofs.YtfdnlgigllflfaaDoor.Words Go.Proofs.YtfdnlgigllflfaaDoor.Enc Go.Proofs.YtfdnlgigllflfaaDoor.Made Go.Proofs.YtfdnlgigllflfaaDoor.Dsk
set_option linter.unusedVariables false

theorem beginL (w0 w : World) (d : Nat) (k : UInt8) (a b : Nat) (T : Chk.Tabs w0) (ha : a < 18446744073709551616) (hb : b < 18446744073709551616) (hd : Since w0 d [] ⟨65536, 0, -1, 0, false⟩ w) :
    Calls Tryd.prog 12 #[.pointer (some ⟨d, 0, none⟩), .string ⟨#[102]⟩, titleV k a b] w fun e w' => e = .returned (.int .i64 0) ∧ Since w0 d [⟨fN, headL k a b, (headL k a b).length⟩] ⟨65536, 2, -1, 0, false⟩ w' := by
  obtain ⟨S, hd, bel, hS⟩ := hd
  have hhl := headL_len (k := k) ha hb
  have htl := (titleL_len (k := k) ha hb).2
  have hlen : (headL k a b).length ≤ 50 := by omega
  have ha1 : appE ⟨65536, 0, -1, 0, false⟩ fN (headL k a b) [] = 0 := by simp [appE, may_un, sumA]; omega
  have hf1 : appF ⟨65536, 0, -1, 0, false⟩ fN (headL k a b) [] = [⟨fN, headL k a b, 0⟩] := by simp [appF, sumA, put]; omega
  have hr : beginR ⟨65536, 0, -1, 0, false⟩ fN (headL k a b) [] = (0, [⟨fN, headL k a b, (headL k a b).length⟩], ⟨65536, 2, -1, 0, false⟩) := by
    have he : readE ⟨65536, 0, -1, 0, false⟩ fN [] = 2 := by simp [readE, lookA]
    unfold beginR
    rw [he, if_neg (by decide)]
    unfold createR
    rw [ha1, if_pos rfl, hf1, act_un (by decide), act_un (by decide)]
    simp [thereE, thereF, may_un, lookA, upd, syncG]
  have := begin_any d S [] ⟨65536, 0, -1, 0, false⟩ fN k a b w (T.below bel) ha hb hd (hd_fits5 (by simp) (by simp) (by simp) (by simp) (by simp) (by simp) (by simp)) (by simp) ok_f5 (by simp [sumA]) (by rw [hf1]; simp only [sumA]; omega) (by simp)
  rw [hr] at this
  refine this.mono ?_
  rintro e w' ⟨rfl, hn⟩
  exact ⟨rfl, since_next bel hS hn⟩
theorem beginL2 (w0 w : World) (d : Nat) (k : UInt8) (a b : Nat) (p : List UInt8) (N : Nat) (acts : Nat) (T : Chk.Tabs w0) (ha : a < 18446744073709551616) (hb : b < 18446744073709551616) (hp : p.length ≤ 100000) (hac : acts < 100000) (hd : Since w0 d [⟨fN, p, N⟩] ⟨65536, acts, -1, 0, false⟩ w) :
    Calls Tryd.prog 12 #[.pointer (some ⟨d, 0, none⟩), .string ⟨#[102]⟩, titleV k a b] w fun e w' => e = .returned (.int .i64 10) ∧ Since w0 d [⟨fN, p, N⟩] ⟨65536, acts, -1, 0, false⟩ w' := by
  obtain ⟨S, hd, bel, hS⟩ := hd
  have hhl := headL_len (k := k) ha hb
  have htl := (titleL_len (k := k) ha hb).2
  have hlen : (headL k a b).length ≤ 50 := by omega
  have hr : beginR ⟨65536, acts, -1, 0, false⟩ fN (headL k a b) [⟨fN, p, N⟩] = (10, [⟨fN, p, N⟩], ⟨65536, acts, -1, 0, false⟩) := by
    have he : readE ⟨65536, acts, -1, 0, false⟩ fN [⟨fN, p, N⟩] = 0 := by simp [readE, lookA]
    unfold beginR
    rw [he, if_pos rfl]
  have hsz : sumA (appF ⟨65536, acts, -1, 0, false⟩ fN (headL k a b) [⟨fN, p, N⟩]) ≤ 1000000000000 := by
    unfold appF
    simp only [sumA, put]
    repeat' split
    all_goals simp [sumA, tornF, put]
    all_goals omega
  have := begin_any d S [⟨fN, p, N⟩] ⟨65536, acts, -1, 0, false⟩ fN k a b w (T.below bel) ha hb hd (hd_fits5 (by simp) (by simp) (by show acts ≤ _; omega) (by simp) (by simp) (by simp) (by simp)) (by show acts < _; omega) ok_f5 (by simp only [sumA]; omega) hsz (by simp)
  rw [hr] at this
  refine this.mono ?_
  rintro e w' ⟨rfl, hn⟩
  exact ⟨rfl, since_next bel hS hn⟩
theorem addL (w0 w : World) (d : Nat) (p : List UInt8) (N acts : Nat) (A : Option Addr) (n c : Nat) (l : List UInt8) (T : Chk.Tabs w0) (hd : Since w0 d [⟨fN, p, N⟩] ⟨65536, acts, -1, 0, false⟩ w) (hac : acts < 100000) (hn : n ≤ 2000) (hnc : n ≤ c) (hs : Sees w A n l) (hfit : p.length + (wrap l).length ≤ 65536) :
    Calls Tryd.prog 13 #[.pointer (some ⟨d, 0, none⟩), .string ⟨#[102]⟩, .slice A n c] w fun e w' => e = .returned (.int .i64 0) ∧ Since w0 d [⟨fN, p ++ wrap l, N⟩] ⟨65536, acts + 1, -1, 0, false⟩ w' := by
  obtain ⟨S, hd, bel, hS⟩ := hd
  have hfi : (p.length : Int) + (wrap l).length ≤ 65536 := by omega
  have hr : appE ⟨65536, acts, -1, 0, false⟩ fN (wrap l) [⟨fN, p, N⟩] = 0 := by simp [appE, may_un, sumA, hfi]
  have hf : appF ⟨65536, acts, -1, 0, false⟩ fN (wrap l) [⟨fN, p, N⟩] = [⟨fN, p ++ wrap l, N⟩] := by simp [appF, sumA, put, hfi]
  have := add_any d S [⟨fN, p, N⟩] ⟨65536, acts, -1, 0, false⟩ fN A n c l w (T.below bel) hd (hd_fits5 (by simp) (by simp) (by show acts ≤ _; omega) (by simp) (by simp) (by simp) (by simp)) (by show acts < _; omega) ok_f5 (by simp only [sumA]; omega) (by simp) (by omega) hnc hs
  rw [hr, hf, act_un (by decide)] at this
  refine this.mono ?_
  rintro e w' ⟨rfl, hn⟩
  exact ⟨rfl, since_next bel hS hn⟩
theorem sheetL (w0 w : World) (d : Nat) (k : UInt8) (a b : Nat) (L : List (List UInt8)) (N acts : Nat) (T : Chk.Tabs w0) (ha : a < 18446744073709551616) (hb : b < 18446744073709551616) (hd : Since w0 d [⟨fN, wholeL k a b L, N⟩] ⟨65536, acts, -1, 0, false⟩ w) (hL : lens L ≤ 2000) :
    Calls Tryd.prog 11 #[.pointer (some ⟨d, 0, none⟩), .string ⟨#[102]⟩] w fun e w' => ∃ Al nl cl, e = .returned (.tuple #[sheetV k a b Al nl cl (wholeL k a b L).length 0, .int .i64 0]) ∧ SeesAll w' Al nl L ∧ nl ≤ 2000 ∧ Below w.heap.size w w' := by
  obtain ⟨S, hd, bel, hS⟩ := hd
  have hhl := headL_len (k := k) ha hb
  have htl := (titleL_len (k := k) ha hb).2
  have hwa := wraps_short hL
  have hla : (wholeL k a b L).length ≤ 2100 := by unfold wholeL; rw [List.length_append]; omega
  have hall := allL_wraps most L [] (fun l hl => by have := short_each hL l hl; unfold most; omega)
  rw [List.append_nil] at hall
  have h0 : allL [] most = ([], 0, 0) := by decide +kernel
  rw [h0] at hall
  have hg : goodN k a b (wraps L) = (wholeL k a b L).length := by unfold goodN wholeL; rw [hall, List.length_append]; simp
  have := read_ok d S [⟨fN, wholeL k a b L, N⟩] ⟨65536, acts, -1, 0, false⟩ fN ⟨fN, wholeL k a b L, N⟩ k a b (wraps L) w (T.below bel) ha hb hd (by simp) (by simp only [sumA]; omega) rfl (by simp [lookA]) rfl
  rw [hg, hall] at this
  refine this.mono ?_
  rintro e w' ⟨Al, nl, cl, vs, rfl, hown, heach, hb'⟩
  have hs := SeesAll.of_own hown heach.each
  simp only [List.append_nil] at hs
  have hln := hs.len
  have := lens_len L
  exact ⟨Al, nl, cl, rfl, hs, by omega, hb'⟩
theorem noSheetL (w0 w : World) (d : Nat) (hd : Since w0 d [] ⟨65536, 0, -1, 0, false⟩ w) :
    Calls Tryd.prog 11 #[.pointer (some ⟨d, 0, none⟩), .string ⟨#[102]⟩] w fun e w' => e = .returned (.tuple #[zeroSheet, .int .i64 2]) ∧ Since w0 d [] ⟨65536, 0, -1, 0, false⟩ w' := by
  have hd' := hd
  obtain ⟨S, hd, bel, hS⟩ := hd
  refine (read_none d S [] _ fN w hd (by simp) (by simp [sumA]) rfl (by simp [lookA])).mono ?_
  rintro e w' ⟨rfl, hb⟩
  exact ⟨rfl, hd'.after hb⟩
theorem tFields : Tryd.prog.underlying 24 = some (.struct (Tryd.prog.fieldsOf 24)) := by kernel_rfl
theorem tHeld : Tryd.prog.stoodInHeld 24 = false := by kernel_rfl
theorem title_same (k : UInt8) (a b : Nat) (W : World) :
    (binOp .eql 24 (.agg #[.int .u8 (k.toNat : Int), .int .u64 (a : Int), .int .u64 (b : Int)]) (.agg #[.int .u8 (k.toNat : Int), .int .u64 (a : Int), .int .u64 (b : Int)])).run Tryd.prog W = .ok (.bool true) W := by
  rw [run_eql_struct, run_equalIn_agg _ _ _ _ _ tFields tHeld]
  simp only [Program.fieldsOf, Tryd.underlying24]
  simp [go_sem]
end Go.Proofs.YtfdnlgigllflfaaDoor.Sht

/- Mend of a sheet that is torn, and what follows it: held against the world in which the law began. -/
namespace Go.Proofs.YtfdnlgigllflfaaDoor.Sht
open Go Go.RowKit Go.Proofs.YtfdnlgigllflfaaDoor.Words Go.Proofs.YtfdnlgigllflfaaDoor.Enc Go.Proofs.YtfdnlgigllflfaaDoor.Made Go.Proofs.YtfdnlgigllflfaaDoor.Dsk
set_option linter.unusedVariables false

theorem sees_take {w : World} {A : Option Addr} {n : Nat} {L : List (List UInt8)} (h : SeesAll w A n L) {k : Nat} (hk : k ≤ n) : SeesAll w A k (L.take k) := by
  obtain ⟨vs, h1, h2, h3⟩ := h
  refine ⟨vs.take k, ⟨by rw [List.length_take, List.length_take, h1.1], fun j l hj => ?_⟩, by rw [List.length_take]; omega, fun hk0 => ?_⟩
  · have hjk : j < k := by
      rcases Nat.lt_or_ge j k with h5 | h5
      · exact h5
      · rw [List.getElem?_eq_none (by rw [List.length_take]; omega)] at hj; cases hj
    rw [List.getElem?_take, if_pos hjk] at hj
    obtain ⟨A', c', hv, hr⟩ := h1.2 j l hj
    exact ⟨A', c', by rw [List.getElem?_take, if_pos hjk]; exact hv, hr⟩
  · obtain ⟨b, o, hA, hc⟩ := h3 (by omega)
    refine ⟨b, o, hA, fun j v hj => hc j v ?_⟩
    rw [List.getElem?_take] at hj
    split at hj
    · exact hj
    · cases hj
/-- A torn sheet, mended. -/
theorem mendL (w0 w : World) (d : Nat) (k : UInt8) (a b : Nat) (L : List (List UInt8)) (c N acts : Nat) (T : Chk.Tabs w0) (ha : a < 18446744073709551616) (hb : b < 18446744073709551616) (hL : lens L ≤ 2000) (hc : c ≤ (wraps L).length) (hac : acts < 100000)
    (hd : Since w0 d [⟨fN, headL k a b ++ (wraps L).take c, N⟩] ⟨65536, acts, -1, 0, false⟩ w) :
    ∃ j, j ≤ L.length ∧ (j < L.length → c < (wraps (L.take (j + 1))).length) ∧ Calls Tryd.prog 19 #[.pointer (some ⟨d, 0, none⟩), .string ⟨#[102]⟩] w fun e w' => ∃ Al cl N' acts', e = .returned (.tuple #[sheetV k a b Al j cl (wholeL k a b (L.take j)).length 0, .int .i64 0]) ∧ SeesAll w' Al j (L.take j) ∧ acts' ≤ acts + 1 ∧
      Since w0 d [⟨fN, wholeL k a b (L.take j), N'⟩] ⟨65536, acts', -1, 0, false⟩ w' := by
  obtain ⟨S, hd, bel, hS⟩ := hd
  have hhl := headL_len (k := k) ha hb
  have htl := (titleL_len (k := k) ha hb).2
  have hws := wraps_short hL
  have hone := short_each hL
  obtain ⟨j, E, hj, hall, hle, hlt, h0⟩ := allL_torn most L c (fun l hl => by have := hone l hl; unfold most; omega) hc
  refine ⟨j, hj, hlt, ?_⟩
  have hg : goodN k a b ((wraps L).take c) = (wholeL k a b (L.take j)).length := by unfold goodN wholeL; rw [hall, List.length_append]
  have hpre : (wraps L).take (wraps (L.take j)).length = wraps (L.take j) := by
    have h1 := wraps_append (L.take j) (L.drop j)
    rw [List.take_append_drop] at h1
    rw [h1, List.take_append_of_le_length (Nat.le_refl _), List.take_length]
  have hact : (Hd.act ⟨65536, acts, -1, 0, false⟩) = ⟨65536, acts + 1, -1, 0, false⟩ := act_un (by decide)
  have hmf : ∃ N' acts', mendF fN k a b ((wraps L).take c) [⟨fN, headL k a b ++ (wraps L).take c, N⟩] = [⟨fN, wholeL k a b (L.take j), N'⟩] ∧ mendH ((wraps L).take c) ⟨65536, acts, -1, 0, false⟩ = ⟨65536, acts', -1, 0, false⟩ ∧ acts' ≤ acts + 1 := by
    unfold mendF mendH
    rw [hall]
    by_cases hE : E = 0
    · rw [if_pos hE, if_pos hE, h0 hE, hpre]
      exact ⟨N, acts, rfl, rfl, by omega⟩
    · rw [if_neg hE, if_neg hE, hg, hact]
      refine ⟨(wholeL k a b (L.take j)).length, acts + 1, ?_, rfl, Nat.le_refl _⟩
      simp only [upd, List.map_cons, List.map_nil, if_true, cutG, Int.toNat_natCast]
      have e1 : (headL k a b ++ (wraps L).take c).take (wholeL k a b (L.take j)).length = wholeL k a b (L.take j) := by
        unfold wholeL
        rw [List.length_append, List.take_length_add_append, List.take_take, Nat.min_eq_left hle, hpre]
      have hnc : ¬ (((wholeL k a b (L.take j)).length : Int) < 0 ∨ ((headL k a b ++ (wraps L).take c).length : Int) < ((wholeL k a b (L.take j)).length : Int)) := by
        unfold wholeL
        rw [List.length_append, List.length_append, List.length_take]
        omega
      rw [if_neg hnc, e1]
  obtain ⟨N', acts', hm1, hm2, hm3⟩ := hmf
  have := mend_any d S [⟨fN, headL k a b ++ (wraps L).take c, N⟩] ⟨65536, acts, -1, 0, false⟩ fN ⟨fN, headL k a b ++ (wraps L).take c, N⟩ k a b ((wraps L).take c) w (T.below bel) ha hb hd (by simp) (by simp only [sumA, List.length_append, List.length_take]; omega) (hd_fits5 (by simp) (by simp) (by show acts ≤ _; omega) (by simp) (by simp) (by simp) (by simp)) (may_un (by decide)) (by simp [lookA]) rfl
  refine this.mono ?_
  rintro e w' ⟨Al, nl, cl, vs, rfl, hown, heach, hn⟩
  rw [hall] at heach
  rw [hm1, hm2] at hn
  have hs := SeesAll.of_own hown heach.each
  have hln := hs.len
  rw [List.length_take, Nat.min_eq_left hj] at hln
  subst hln
  rw [hg]
  exact ⟨Al, cl, N', acts', rfl, hs, hm3, since_next bel hS hn⟩
/-- Add, with a disk that stood in v: what was made since then, beside the disk, is as it was. -/
theorem addK (w0 v w : World) (d : Nat) (p : List UInt8) (N acts : Nat) (A : Option Addr) (n c : Nat) (l : List UInt8) (T : Chk.Tabs w0) (hd : Since w0 d [⟨fN, p, N⟩] ⟨65536, acts, -1, 0, false⟩ v) (hb : Below v.heap.size v w) (hac : acts < 100000) (hn : n ≤ 2000) (hnc : n ≤ c) (hs : Sees w A n l) (hfit : p.length + (wrap l).length ≤ 65536) :
    Calls Tryd.prog 13 #[.pointer (some ⟨d, 0, none⟩), .string ⟨#[102]⟩, .slice A n c] w fun e w' => e = .returned (.int .i64 0) ∧ Since w0 d [⟨fN, p ++ wrap l, N⟩] ⟨65536, acts + 1, -1, 0, false⟩ w' ∧ ∀ g, v.heap.size ≤ g → g < w.heap.size → w'.heap[g]? = w.heap[g]? := by
  obtain ⟨S, hd, bel, hS⟩ := hd
  have hlt := hd.lt
  have hd := hd.below hb
  have bel := bel.trans (hb.mono bel.size)
  have hfi : (p.length : Int) + (wrap l).length ≤ 65536 := by omega
  have hr : appE ⟨65536, acts, -1, 0, false⟩ fN (wrap l) [⟨fN, p, N⟩] = 0 := by simp [appE, may_un, sumA, hfi]
  have hf : appF ⟨65536, acts, -1, 0, false⟩ fN (wrap l) [⟨fN, p, N⟩] = [⟨fN, p ++ wrap l, N⟩] := by simp [appF, sumA, put, hfi]
  have := add_any d S [⟨fN, p, N⟩] ⟨65536, acts, -1, 0, false⟩ fN A n c l w (T.below bel) hd (hd_fits5 (by simp) (by simp) (by show acts ≤ _; omega) (by simp) (by simp) (by simp) (by simp)) (by show acts < _; omega) ok_f5 (by simp only [sumA]; omega) (by simp) (by omega) hnc hs
  rw [hr, hf, act_un (by decide)] at this
  refine this.mono ?_
  rintro e w' ⟨rfl, hn⟩
  refine ⟨rfl, since_next bel hS hn, fun g h1 h2 => ?_⟩
  obtain ⟨_, _, hbs, _⟩ := hn
  exact hbs.block g h2 fun hm => by have := hlt _ hm; omega
/-- The first bytes of a file, appended. -/
theorem appendL (w0 w : World) (d : Nat) (A : Option Addr) (n c : Nat) (q : List UInt8) (hd : Since w0 d [] ⟨65536, 0, -1, 0, false⟩ w) (hs : Sees w0 A n q) (hn : n ≤ 60000) (hnc : n ≤ c) (hcc : c ≤ 9223372036854775807) :
    Calls Tryd.prog 18 #[.pointer (some ⟨d, 0, none⟩), .string ⟨#[102]⟩, .slice A n c] w fun e w' => e = .returned (.int .i64 0) ∧ Since w0 d [⟨fN, q, 0⟩] ⟨65536, 1, -1, 0, false⟩ w' := by
  obtain ⟨S, hd, bel, hS⟩ := hd
  have hql := hs.1
  have hfi : (q.length : Int) ≤ 65536 := by omega
  have hr : appE ⟨65536, 0, -1, 0, false⟩ fN q [] = 0 := by simp [appE, may_un, sumA, hfi]
  have hf : appF ⟨65536, 0, -1, 0, false⟩ fN q [] = [⟨fN, q, 0⟩] := by simp [appF, sumA, put, hfi]
  have := appendC d S [] ⟨65536, 0, -1, 0, false⟩ fN A n c q w hd (hd_fits5 (by simp) (by simp) (by simp) (by simp) (by simp) (by simp) (by simp)) (by simp) ok_f5 (by simp [sumA]) (by simp) (by omega) hnc hcc (hs.below bel) (Out.of_lt hs (Nat.le_refl _) hS)
  rw [hr, hf, act_un (by decide)] at this
  refine this.mono ?_
  rintro e w' ⟨rfl, hn⟩
  exact ⟨rfl, since_next bel hS hn⟩
/-- An operation that isn't wanted. -/
theorem wanted_not {ops : Array Oper} {o : Oper} {a : Act} {g d : Nat} {b : Bool} (h : o.guard = some (g, b)) (hd : (ops[g]?).bind (·.dst) = some d) (hv : a.tmps.getD d undef = .bool (!b)) : Region.wanted o (yielded ops a.tmps) = false := by
  have hlt : d < a.tmps.size := by
    rcases Nat.lt_or_ge d a.tmps.size with h' | h'
    · exact h'
    · rw [Array.getD_eq_getD_getElem?, Array.getElem?_eq_none h'] at hv
      cases hv
  have hy : yielded ops a.tmps g = some (!b) := by
    unfold yielded
    rw [hd]
    simp only [Option.bind_some]
    rw [Array.getD_eq_getD_getElem?, Array.getElem?_eq_getElem hlt] at hv
    rw [Array.getElem?_eq_getElem hlt]
    simp only [Option.getD_some] at hv
    rw [hv]
  cases b <;> simp [Region.wanted, h, hy]
theorem step_skip {P : Program} {ops : Array Oper} {a0 : Act} {w0 : World} {L : List Facts.Pred} {j : Nat} {o : Oper}
    (h : ∀ (a : Act) (w : World), (∀ i d, Facts.dep ops j i d = true → Facts.holds L i (a.tmps.getD d undef) w) → Region.wanted o (yielded ops a.tmps) = false) (hu : ∀ w, Facts.holds L j undef w) :
    Facts.Step P ops a0 w0 (fun a b => Below a.heap.size a b) (Facts.holds L) j o := fun a w _ _ hnew =>
  ⟨fun hw => absurd hw (by rw [h a w hnew]; decide), fun _ => hu w⟩
theorem wraps_short3 {L : List (List UInt8)} (h : lens L ≤ 10000) : (wraps L).length ≤ lens L := by
  induction L with
  | nil => simp [wraps]
  | cons x r ih =>
    simp only [lens] at h ⊢
    have h1 := ih (by omega)
    have h2 := enc_two (n := x.length) (by omega)
    have h3 := wrap_length x
    have h4 : (wraps (x :: r)).length = (wrap x).length + (wraps r).length := by simp [wraps]
    omega
theorem sheetL3 (w0 w : World) (d : Nat) (k : UInt8) (a b : Nat) (L : List (List UInt8)) (N acts : Nat) (T : Chk.Tabs w0) (ha : a < 18446744073709551616) (hb : b < 18446744073709551616) (hd : Since w0 d [⟨fN, wholeL k a b L, N⟩] ⟨65536, acts, -1, 0, false⟩ w) (hL : lens L ≤ 10000) :
    Calls Tryd.prog 11 #[.pointer (some ⟨d, 0, none⟩), .string ⟨#[102]⟩] w fun e w' => ∃ Al cl, e = .returned (.tuple #[sheetV k a b Al L.length cl (wholeL k a b L).length 0, .int .i64 0]) ∧ SeesAll w' Al L.length L ∧ Below w.heap.size w w' := by
  obtain ⟨S, hd, bel, hS⟩ := hd
  have hhl := headL_len (k := k) ha hb
  have htl := (titleL_len (k := k) ha hb).2
  have hwa := wraps_short3 hL
  have hla : (wholeL k a b L).length ≤ 11000 := by unfold wholeL; rw [List.length_append]; omega
  have hall := allL_wraps most L [] (fun l hl => by have := lens_mem l hl; unfold most; omega)
  rw [List.append_nil] at hall
  have h0 : allL [] most = ([], 0, 0) := by decide +kernel
  rw [h0] at hall
  have hg : goodN k a b (wraps L) = (wholeL k a b L).length := by unfold goodN wholeL; rw [hall, List.length_append]; simp
  have := read_ok d S [⟨fN, wholeL k a b L, N⟩] ⟨65536, acts, -1, 0, false⟩ fN ⟨fN, wholeL k a b L, N⟩ k a b (wraps L) w (T.below bel) ha hb hd (by simp) (by simp only [sumA]; omega) rfl (by simp [lookA]) rfl
  rw [hg, hall] at this
  refine this.mono ?_
  rintro e w' ⟨Al, nl, cl, vs, rfl, hown, heach, hb'⟩
  have hs := SeesAll.of_own hown heach.each
  simp only [List.append_nil] at hs
  have hln := hs.len
  subst hln
  exact ⟨Al, cl, rfl, hs, hb'⟩
end Go.Proofs.YtfdnlgigllflfaaDoor.Sht
