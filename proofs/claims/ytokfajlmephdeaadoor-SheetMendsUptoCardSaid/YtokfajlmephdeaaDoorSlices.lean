/- slices.Grow of nil, slices.Concat and slices.Equal of bytes: their contracts. -/
import Derived.Test.YtokfajlmephdeaaDoorNew
import Derived.Test.YtokfajlmephdeaaDoorRows2
import Derived.Lib.AppendZeros
import Derived.Lib.Hide
import Derived.Deep.QuietTactic
import Derived.BigQuiet
namespace Go.Proofs.YtokfajlmephdeaaDoor.Made
open Go Go.RowKit Go.Proofs.YtokfajlmephdeaaDoor.Words Go.Proofs.YtokfajlmephdeaaDoor.Enc
set_option linter.unusedVariables false

set_option maxRecDepth 100000 in
theorem grow_nil (m : Nat) (w : World) (hm : m ≤ 1000000000) :
    Calls Tryd.prog 71 #[.slice none 0 0, .int .i64 (m : Int)] w (New w.heap.size 0 [] w) := by
  obtain ⟨i, hi, hz, hsz, hby⟩ := info_parts info8
  by_cases h0 : m = 0
  · subst h0
    go_enter Tryd.func71, Tryd.ntmps71
    go_wp2
    go_ret
    exact ⟨none, 0, rfl, Own.nil _ _ _, Below.refl _ _⟩
  · have hm0 : (0 : Int) < (m : Int) := by omega
    have hm1 : decide ((m : Int) < 0) = false := by simp
    go_enter Tryd.func71, Tryd.ntmps71
    have hr := Lib.run_append_nil_zeros (P := Tryd.prog) w 37 3 37 5 i (.int .u8 0) .i64 .i64 Tryd.underlying37 Tryd.underlying3 hi hz m (by omega) (by omega) (by omega) (by rw [hby]; omega)
    have hge := grownCap_ge w m 0 5
    have hgm := grownCap_le_maxLen w m 0 5 (by unfold maxLen; omega)
    generalize grownCap w m 0 5 = G at hr hge hgm
    obtain ⟨Z, hZ⟩ : ∃ Z, Z = Builtin.zeroCells (Value.int .u8 0).cells m ++ Builtin.zeroCells (Value.int .u8 0).cells (G - m) := ⟨_, rfl⟩
    rw [← hZ] at hr
    have hZs : Z.size = G := by rw [hZ]; simp [size_zeroCells, Value.cells]; omega
    clear hZ
    have HR := Lib.hid hr
    clear hr
    have hgm2 : G ≤ 9223372036854775807 := by unfold maxLen at hgm; exact hgm
    go_wp2_with (first | (at_builtin; refine Lib.wpList_append_run w rfl _ _ _ _ rfl _ _ rfl rfl _ _ HR.out ?_))
    go_wp2
    go_ret
    exact ⟨_, G, rfl, ⟨rfl, .inr ⟨w.heap.size, G, Z, rfl, Nat.le_refl _, heap_alloc_new w.drew _, Nat.zero_le _, hgm, by omega, rfl⟩⟩, ((Below.refl _ _).drew).alloc (Nat.le_refl _) _⟩

/-- How many bytes lists have. -/
def total : List (List UInt8) → Nat
  | [] => 0
  | l :: r => l.length + total r
theorem total_flatten : ∀ L : List (List UInt8), L.flatten.length = total L
  | [] => rfl
  | l :: r => by simp [total, total_flatten r]
theorem total_take : ∀ (L : List (List UInt8)) (k : Nat), k < L.length → total (L.take (k + 1)) = total (L.take k) + (L.getD k []).length
  | [], k, h => by simp at h
  | l :: r, 0, h => by simp [total]
  | l :: r, k + 1, h => by
    have := total_take r k (by simpa using h)
    simp only [List.take_succ_cons, total, this, List.getD_cons_succ]
    omega
theorem total_le (L : List (List UInt8)) : ∀ k, total (L.take k) ≤ total L := by
  induction L with
  | nil => intro k; simp [total]
  | cons l r ih => intro k; cases k with
    | zero => simp [total]
    | succ k => simp only [List.take_succ_cons, total]; have := ih k; omega
theorem flatten_take (L : List (List UInt8)) (k : Nat) (h : k < L.length) : (L.take (k + 1)).flatten = (L.take k).flatten ++ L.getD k [] := by
  rw [List.take_add_one, List.getElem?_eq_getElem h, List.flatten_append, List.getD_eq_getElem?_getD, List.getElem?_eq_getElem h]
  simp

set_option maxRecDepth 100000 in
/-- slices.Concat. -/
theorem concat_any (A : Option Addr) (n c : Nat) (L : List (List UInt8)) (w : World) (hs : SeesAll w A n L) (hn : n ≤ 1000000000) (hm : total L ≤ 1000000000) :
    Calls Tryd.prog 51 #[.slice A n c] w (New w.heap.size (total L) L.flatten w) := by
  obtain ⟨i, hi, hz, hsz, hby⟩ := info_parts info8
  have hl := hs.len
  go_enter Tryd.func51, Tryd.ntmps51
  go_wp2_with fail
  go_loopw [3, 11] (fun s a W => ∃ k : Nat, k ≤ n ∧ a = .int .i64 (k : Int) ∧ s = .int .i64 (total (L.take k) : Int) ∧ w = W) (fun _ a _ => n - (intOf a).toNat)
  case atStart => exact ⟨0, by omega, rfl, rfl, rfl⟩
  case round =>
    obtain ⟨k, hk, rfl, rfl, rfl⟩ := hrel
    by_cases hlt : k < n
    · obtain ⟨b, o, A', c', rfl, hcell, hlc, _⟩ := hs.get hlt
      have h1 := total_take L k (by omega)
      have h2 := total_le L (k + 1)
      have H1 := Lib.hid h1
      generalize hS : total (L.take k) = S at H1 h1
      generalize hX : (L.getD k []).length = X at hcell H1 h1 hlc
      have hb1 : S + X ≤ 1000000000 := by omega
      have hneg : decide ((S : Int) + (X : Int) < 0) = false := by simp; omega
      have hk2 : (k : Int) < (n : Int) := by omega
      clear h1 h2 hS hX
      go_wp2
      go_roundw
      case rel => exact ⟨k + 1, by omega, by go_num, by rw [H1.out]; go_num, trivial⟩
      case measure => simp [intOf]; omega
    · have hk' : k = n := by omega
      subst hk'
      rw [show L.take k = L by rw [← hl]; exact List.take_length]
      generalize hT : total L = T at hm
      clear hlt
      go_wp2_with fail
      refine (grow_nil T w (by omega)).mono ?_
      rintro e w1 ⟨A1, c1, rfl, hown, hb⟩
      have hs1 := hs.below hb
      go_wp2_with fail
      go_loopw [6, 27] (fun s a W => ∃ (j : Nat) (A2 : Option Addr) (c2 : Nat), j ≤ k ∧ a = .int .i64 (j : Int) ∧ s = .slice A2 (total (L.take j)) c2 ∧ W.ownsRow w.heap.size 5 1 (.slice A2 (total (L.take j)) c2) (total (L.take j)) (cs (L.take j).flatten) ∧ Below w.heap.size w W) (fun _ a _ => k - (intOf a).toNat)
      case atStart => exact ⟨0, A1, c1, by omega, rfl, rfl, hown, hb⟩
      case round =>
        obtain ⟨j, A2, c2, hj, rfl, rfl, hown2, hb2⟩ := hrel
        have hs2 := hs.below hb2
        have hsz2 := hb2.size
        by_cases hlt2 : j < k
        · obtain ⟨b, o, A', c', rfl, hcell, hlc, hsee⟩ := hs2.get hlt2
          have h1 := total_take L j (by omega)
          have h2 := total_le L (j + 1)
          have h3 := flatten_take L j (by omega)
          have H1 := Lib.hid h1
          have H3 := Lib.hid h3
          generalize hS : total (L.take j) = S at H1 h1 hown2
          generalize hX : L.getD j [] = X at hcell H1 H3 h1 hlc hsee
          generalize hF : (L.take j).flatten = F at H3 hown2
          have hb1 : S + X.length ≤ 1000000000 := by omega
          have hk2 : (j : Int) < (k : Int) := by omega
          clear h1 h2 h3 hS hX hF
          go_wp2_with (first | (at_builtin; refine wpList_app rfl _ _ 37 rfl w.heap.size 5 i (.int .u8 0) Tryd.underlying37 hi hz hsz hby rfl A2 S c2 F rfl hown2 A' X.length c' X rfl hsee ?d1 ?d2 ?_))
          case d1 => omega
          case d2 => exact hsz2
          intro A4 c4 w4 hown4 hb4
          go_wp2
          go_roundw
          case rel => exact ⟨j + 1, A4, c4, by omega, by go_num, by rw [H1.out], by rw [H1.out, H3.out]; exact hown4, hb2.trans hb4⟩
          case measure => simp [intOf]; omega
        · have hj' : j = k := by omega
          subst hj'
          have ht : L.take j = L := by rw [← hl]; exact List.take_length
          rw [ht, hT] at hown2 ⊢
          clear hlt2
          go_wp2
          go_ret
          rw [hT]
          exact ⟨A2, c2, rfl, hown2, hb2⟩

theorem take_ne {l q : List UInt8} {k : Nat} {u v : UInt8} (hu : l[k]? = some u) (hv : q[k]? = some v) (h : u ≠ v) : l ≠ q := by
  rintro rfl
  rw [hu] at hv
  exact h (Option.some.inj hv)
theorem take_same {l q : List UInt8} {k : Nat} {u : UInt8} (h : l.take k = q.take k) (hu : l[k]? = some u) (hv : q[k]? = some u) : l.take (k + 1) = q.take (k + 1) := by
  rw [List.take_add_one, List.take_add_one, h, hu, hv]

set_option maxRecDepth 100000 in
/-- slices.Equal. -/
theorem equal_any (A : Option Addr) (n c : Nat) (l : List UInt8) (B : Option Addr) (m d : Nat) (q : List UInt8) (w : World) (hs : Sees w A n l) (hq : Sees w B m q) (hn : n ≤ 1000000000) (hm : m ≤ 1000000000) :
    Calls Tryd.prog 65 #[.slice A n c, .slice B m d] w fun e w' => e = .returned (.bool (decide (l = q))) ∧ ∃ x, w' = w.drewN x := by
  have hl := hs.1
  have hl2 := hq.1
  by_cases hnm : n = m
  · subst hnm
    go_enter Tryd.func65, Tryd.ntmps65
    go_wp2_with fail
    go_loopw [13] (fun a W => ∃ k x : Nat, k ≤ n ∧ a = .int .i64 (k : Int) ∧ Hid (l.take k = q.take k) ∧ W = w.drewN x) (fun a _ => n - (intOf a).toNat)
    case atStart => exact ⟨0, 0, by omega, rfl, by unfold Hid; simp, rfl⟩
    case round =>
      obtain ⟨k, x, hk, rfl, HT, rfl⟩ := hrel
      by_cases hlt : k < n
      · obtain ⟨b, o, rfl, hcell⟩ := hs.2 (by omega)
        obtain ⟨b2, o2, rfl, hcell2⟩ := hq.2 (by omega)
        have hu := List.getElem?_eq_getElem (l := l) (i := k) (by omega)
        have hv := List.getElem?_eq_getElem (l := q) (i := k) (by omega)
        have hc1 := hcell k _ hu
        have hc2 := hcell2 k _ hv
        generalize l[k] = u at hu hc1
        generalize q[k] = v at hv hc2
        have HU := Lib.hid hu
        have HV := Lib.hid hv
        have hk2 : (k : Int) < (n : Int) := by omega
        have hb1 : (0 : Int) ≤ (k : Int) := by omega
        clear hcell hcell2 hu hv
        by_cases huv : u = v
        · subst huv
          have HN := Lib.hid (take_same HT.out HU.out HV.out)
          go_wp2
          go_quiet (fail)
          go_wp2
          go_roundw
          case rel => exact ⟨k + 1, x + nq, by omega, by go_num, HN, rfl⟩
          case measure => simp [intOf]; omega
        · have hne : ((u.toNat : Int) != (v.toNat : Int)) = true := by
            simp only [bne_iff_ne, ne_eq]
            intro h
            exact huv (UInt8.toNat_inj.1 (by omega))
          have hneq := take_ne HU.out HV.out huv
          have HD : Hid (decide (l = q) = false) := by unfold Hid; simpa using hneq
          clear huv hneq
          go_wp2
          go_quiet (fail)
          go_wp2
          go_ret
          rw [HD.out]
          exact ⟨rfl, x + nq, by rw [World.drewN_drewN]⟩
      · have hk' : k = n := by omega
        subst hk'
        have h1 := HT.out
        rw [List.take_of_length_le (by omega), List.take_of_length_le (by omega)] at h1
        have HD : Hid (decide (l = q) = true) := by unfold Hid; simpa using h1
        clear h1 HT hlt
        go_wp2
        go_ret
        rw [HD.out]
        exact ⟨rfl, x, rfl⟩
  · have hne : ((n : Int) != (m : Int)) = true := by simp; omega
    have HD : Hid (decide (l = q) = false) := by
      unfold Hid
      simp only [decide_eq_false_iff_not]
      rintro rfl
      omega
    clear hnm
    go_enter Tryd.func65, Tryd.ntmps65
    go_wp2
    go_ret
    rw [HD.out]
    exact ⟨rfl, 0, rfl⟩
end Go.Proofs.YtokfajlmephdeaaDoor.Made
