/- Words for slices of u64 in memory; vectors as lists of numbers; what the law's own reference functions answer. A vector's bytes, as plain data, and what is read of bytes. The law's own reference for vectors: Within. What is asked of package vector, by its operations; the laws VectorJoins, VectorOrders, VectorLacks out of it. The law's own reference for a vector's bytes; the law's test for small vectors. The law's test for small vectors; what is asked of package vector about bytes. Package vector: Get, Trim, and two vectors combined by a function that is handed over. Package vector: Within, Same, Apart, Lack. The law VectorReads, walked out of what is asked of package vector. Package vector: Read, of any tape. Package vector: Lay, Bytes, Of. -/
import Derived.Test.YtjceeojbnpcpfaaGreatBGround
import Derived.Test.YtjceeojbnpcpfaaGreatBCheck
import Derived.Deep.QuietTactic
import Derived.Lib.Hide
import Derived.Test.YtjceeojbnpcpfaaGreatBPlain
import Derived.Laws.OwnMore
import Derived.Lib.SliceRun
import Derived.Laws.Externs
namespace Go.Proofs.YtjceeojbnpcpfaaGreat.Vec
open Go Go.RowKit Go.Proofs.YtjceeojbnpcpfaaGreat.Words
set_option linter.unusedVariables false
set_option linter.unusedSimpArgs false

/-- Numbers as cells. -/
def us (l : List Nat) : List Value := l.map fun (x : Nat) => Value.int .u64 (x : Int)
theorem us_length (l : List Nat) : (us l).length = l.length := by simp [us]
theorem us_get {l : List Nat} {j x : Nat} (h : l[j]? = some x) : (us l)[j]? = some (.int .u64 (x : Int)) := by simp [us, h]
theorem us_one (l : List Nat) : ∀ u ∈ us l, u.oneCell' = true := by
  intro u hu
  obtain ⟨_, _, rfl⟩ := List.mem_map.1 hu
  rfl

/-- The slice of n numbers at A shows l. -/
def SeesU (w : World) (A : Option Addr) (n : Nat) (l : List Nat) : Prop :=
  l.length = n ∧ (0 < n → ∃ b o, A = some ⟨b, o, none⟩ ∧ ∀ (j x : Nat), l[j]? = some x → w.cell? ⟨b, o + j, none⟩ = some (.int .u64 (x : Int)))
theorem SeesU.nil (w : World) (A : Option Addr) : SeesU w A 0 [] := ⟨rfl, fun h => absurd h (by omega)⟩
theorem SeesU.drew {w : World} {A : Option Addr} {n : Nat} {l : List Nat} (h : SeesU w A n l) : SeesU w.drew A n l := h
theorem SeesU.drewN {w : World} {A : Option Addr} {n : Nat} {l : List Nat} (h : SeesU w A n l) (k : Nat) : SeesU (w.drewN k) A n l := h
theorem SeesU.below {w w' : World} {A : Option Addr} {n : Nat} {l : List Nat} (h : SeesU w A n l) (hb : Below w.heap.size w w') : SeesU w' A n l := by
  refine ⟨h.1, fun hn => ?_⟩
  obtain ⟨b, o, hA, hc⟩ := h.2 hn
  refine ⟨b, o, hA, fun j u hu => ?_⟩
  have hcell := hc j u hu
  have hlt := World.block_lt_of_cell? _ _ hcell
  rw [hb.cell (p := ⟨b, o + j, none⟩) hlt]
  exact hcell
theorem SeesU.of_own {w : World} {base : Nat} {e : TypeId} {A : Option Addr} {n c : Nat} {l : List Nat} (h : w.ownsRow base e 1 (.slice A n c) n (us l)) : SeesU w A n l := by
  refine ⟨by have := h.1; rw [us_length] at this; omega, fun hn => ?_⟩
  obtain ⟨g, rfl, _⟩ := Own.at_ h hn
  exact ⟨g, 0, rfl, fun j u hu => by rw [← add_plain]; exact h.cells (g := g) rfl j _ (us_get hu)⟩
theorem SeesU.take {w : World} {A : Option Addr} {n : Nat} {l : List Nat} (h : SeesU w A n l) {k : Nat} (hk : k ≤ n) : SeesU w A k (l.take k) := by
  refine ⟨by rw [List.length_take, h.1]; omega, fun hn => ?_⟩
  obtain ⟨b, o, e, hc⟩ := h.2 (by omega)
  refine ⟨b, o, e, fun j u hu => ?_⟩
  rw [List.getElem?_take] at hu
  split at hu
  · exact hc j u hu
  · cases hu
/-- The number at place i; 0 behind the end. -/
def at_ (l : List Nat) (i : Nat) : Nat := l.getD i 0
theorem at_lt {l : List Nat} {i : Nat} (h : i < l.length) : l[i]? = some (at_ l i) := by
  unfold at_
  rw [List.getD_eq_getElem?_getD, List.getElem?_eq_getElem h]
  rfl
theorem at_ge {l : List Nat} {i : Nat} (h : l.length ≤ i) : at_ l i = 0 := by
  unfold at_
  rw [List.getD_eq_getElem?_getD, List.getElem?_eq_none h]
  rfl
/-- Each is below 2^64. -/
def Fits (l : List Nat) : Prop := ∀ i, at_ l i < 18446744073709551616
theorem SeesU.get {w : World} {A : Option Addr} {n : Nat} {l : List Nat} (h : SeesU w A n l) {j : Nat} (hj : j < n) : ∃ b o, A = some ⟨b, o, none⟩ ∧ w.cell? ⟨b, o + j, none⟩ = some (.int .u64 (at_ l j : Int)) := by
  obtain ⟨b, o, hA, hc⟩ := h.2 (by omega)
  exact ⟨b, o, hA, hc j _ (at_lt (by rw [h.1]; exact hj))⟩
theorem SeesU.cell {w : World} {g o n : Nat} {l : List Nat} (h : SeesU w (some ⟨g, o, none⟩) n l) {j : Nat} (hj : j < n) : w.cell? ⟨g, o + j, none⟩ = some (.int .u64 (at_ l j : Int)) := by
  obtain ⟨b, o', hA, hc⟩ := h.get hj
  injection hA with hA
  injection hA with h1 h2
  subst h1; subst h2
  exact hc
/-! What vectors are. -/
/-- No 0 behind. -/
def Trimmed (l : List Nat) : Prop := l = [] ∨ at_ l (l.length - 1) ≠ 0
/-! The law's own reference. -/
set_option maxRecDepth 100000 in
theorem refGet_any (A : Option Addr) (n c : Nat) (a : List Nat) (i : Nat) (w : World) (hs : SeesU w A n a) :
    Calls Tryz.prog 61 #[.slice A n c, .int .i64 (i : Int)] w fun e w' => e = .returned (.int .u64 (at_ a i : Int)) ∧ w' = w := by
  have h0 : decide ((i : Int) < 0) = false := decide_eq_false (by omega)
  by_cases hi : i < n
  · obtain ⟨b, o, rfl, hc⟩ := hs.get hi
    generalize at_ a i = x at hc ⊢
    have h1 : decide ((n : Int) ≤ (i : Int)) = false := decide_eq_false (by omega)
    have h2 : (i : Int) < (n : Int) := by omega
    clear hs hi
    go_enter Tryz.func61, Tryz.ntmps61
    go_wp2
    go_ret
    exact ⟨rfl, rfl⟩
  · have h1 : n ≤ i := by omega
    rw [at_ge (by rw [hs.1]; omega)]
    clear hs hi
    go_enter Tryz.func61, Tryz.ntmps61
    go_wp2
    go_ret
    exact ⟨rfl, rfl⟩
end Go.Proofs.YtjceeojbnpcpfaaGreat.Vec

namespace Go.Proofs.YtjceeojbnpcpfaaGreat.Vec
open Go Go.RowKit Go.Proofs.YtjceeojbnpcpfaaGreat.Words Go.Proofs.YtjceeojbnpcpfaaGreat.Enc Go.Proofs.YtjceeojbnpcpfaaGreat.Tape
set_option linter.unusedVariables false
set_option linter.unusedSimpArgs false

/-- How many numbers of the first k are left without the zeros behind. -/
def trimN (v : List Nat) : Nat → Nat
  | 0 => 0
  | k + 1 => if at_ v k = 0 then trimN v k else k + 1
theorem trimN_le (v : List Nat) : ∀ k, trimN v k ≤ k
  | 0 => Nat.le_refl _
  | k + 1 => by
    unfold trimN
    split
    · exact Nat.le_succ_of_le (trimN_le v k)
    · exact Nat.le_refl _
theorem trimN_zero (v : List Nat) : ∀ k i, trimN v k ≤ i → i < k → at_ v i = 0
  | 0, i, _, h => absurd h (by omega)
  | k + 1, i, h1, h2 => by
    unfold trimN at h1
    split at h1
    · rename_i h0
      rcases Nat.lt_or_ge i k with h | h
      · exact trimN_zero v k i h1 h
      · obtain rfl : i = k := by omega
        exact h0
    · omega
theorem trimN_last (v : List Nat) : ∀ k, 0 < trimN v k → at_ v (trimN v k - 1) ≠ 0
  | 0, h => absurd h (by simp [trimN])
  | k + 1, h => by
    unfold trimN at h ⊢
    split
    · rename_i h0
      rw [if_pos h0] at h
      exact trimN_last v k h
    · rename_i h0
      exact h0
/-- The vector without the zeros behind. -/
def trimL (v : List Nat) : List Nat := v.take (trimN v v.length)
theorem trimL_len (v : List Nat) : (trimL v).length = trimN v v.length := by
  unfold trimL
  rw [List.length_take]
  have := trimN_le v v.length
  omega
theorem at_take (v : List Nat) (k i : Nat) : at_ (v.take k) i = if i < k then at_ v i else 0 := by
  unfold at_
  rw [List.getD_eq_getElem?_getD, List.getElem?_take]
  split
  · rw [List.getD_eq_getElem?_getD]
  · rfl
theorem trimL_at (v : List Nat) (i : Nat) : at_ (trimL v) i = at_ v i := by
  unfold trimL
  rw [at_take]
  split
  · rfl
  · rename_i h
    rcases Nat.lt_or_ge i v.length with h' | h'
    · exact (trimN_zero v v.length i (by omega) h').symm
    · exact (at_ge h').symm
theorem trimL_trimmed (v : List Nat) : Trimmed (trimL v) := by
  rcases Nat.eq_zero_or_pos (trimN v v.length) with h | h
  · left
    exact List.eq_nil_of_length_eq_zero (by rw [trimL_len, h])
  · right
    rw [trimL_len, trimL_at]
    exact trimN_last v _ h
theorem trimN_trimmed {v : List Nat} (h : Trimmed v) : trimN v v.length = v.length := by
  rcases h with rfl | h
  · rfl
  · cases hl : v.length with
    | zero => rfl
    | succ k =>
      rw [hl] at h
      unfold trimN
      exact if_neg h
/-- Numbers, as their bytes. -/
def encs (v : List Nat) : List UInt8 := v.flatMap enc
theorem encs_snoc (v : List Nat) (x : Nat) : encs (v ++ [x]) = encs v ++ enc x := by simp [encs]
/-- A vector's bytes. -/
def layL (v : List Nat) : List UInt8 := enc (trimN v v.length) ++ encs (trimL v)
theorem trimL_self {v : List Nat} (h : Trimmed v) : trimL v = v := by
  unfold trimL
  rw [trimN_trimmed h, List.take_length]

/-- At most 64 numbers, each at most End. -/
def Small (v : List Nat) : Prop := v.length ≤ 64 ∧ ∀ i, at_ v i ≤ 9223372036854775807
theorem small_trim {v : List Nat} (h : Small v) : Small (trimL v) := ⟨by rw [trimL_len]; exact Nat.le_trans (trimN_le _ _) h.1, fun i => by rw [trimL_at]; exact h.2 i⟩

end Go.Proofs.YtjceeojbnpcpfaaGreat.Vec

namespace Go.Proofs.YtjceeojbnpcpfaaGreat.Vec
open Go Go.RowKit Go.Proofs.YtjceeojbnpcpfaaGreat.Words
set_option linter.unusedVariables false
set_option linter.unusedSimpArgs false

end Go.Proofs.YtjceeojbnpcpfaaGreat.Vec

namespace Go.Proofs.YtjceeojbnpcpfaaGreat.Vec
open Go Go.RowKit Go.Proofs.YtjceeojbnpcpfaaGreat.Words
set_option linter.unusedVariables false
set_option linter.unusedSimpArgs false

/-- A vector that is handed back: seen, trimmed, at most so long, with these numbers. -/
def Gives (w : World) (most : Nat) (f : Nat → Nat) (e : Ending) (w' : World) : Prop :=
  ∃ R k rc l, e = .returned (.slice R k rc) ∧ SeesU w' R k l ∧ k ≤ rc ∧ rc ≤ 9223372036854775807 ∧ k ≤ most ∧ Trimmed l ∧ (∀ i, at_ l i = f i) ∧ Below w.heap.size w w'
def Took2 (w : World) (A : Option Addr) (n c : Nat) (a : List Nat) : Prop := SeesU w A n a ∧ Fits a ∧ n ≤ c ∧ c ≤ 9223372036854775807 ∧ n ≤ 900000
theorem Took2.below {w w' : World} {A : Option Addr} {n c : Nat} {a : List Nat} (h : Took2 w A n c a) (hb : Below w.heap.size w w') : Took2 w' A n c a := ⟨h.1.below hb, h.2⟩
theorem SeesU.new (w : World) (l : List Nat) (T : TypeId) : SeesU (w.alloc (.cells (us l).toArray T)) (some ⟨w.heap.size, 0, none⟩) l.length l :=
  ⟨rfl, fun _ => ⟨w.heap.size, 0, rfl, fun j x hx => by
    rw [Nat.zero_add, cell_of_row _ w.heap.size _ _ _ _ (heap_alloc_new w (.cells (us l).toArray T))]
    have := us_get hx
    simpa using this⟩⟩
theorem Took2.new (w : World) (l : List Nat) (T : TypeId) (k : Nat) (hk : l.length = k) (hf : Fits l) (hl : k ≤ 900000) : Took2 (w.alloc (.cells (us l).toArray T)) (some ⟨w.heap.size, 0, none⟩) k k l := by
  subst hk
  exact ⟨SeesU.new w l T, hf, Nat.le_refl _, by omega, hl⟩
end Go.Proofs.YtjceeojbnpcpfaaGreat.Vec

namespace Go.Proofs.YtjceeojbnpcpfaaGreat.Vec
open Go Go.RowKit Go.Proofs.YtjceeojbnpcpfaaGreat.Words Go.Proofs.YtjceeojbnpcpfaaGreat.Enc Go.Proofs.YtjceeojbnpcpfaaGreat.Made
set_option linter.unusedVariables false
set_option linter.unusedSimpArgs false

theorem trimN_yes {v : List Nat} {k : Nat} (h : at_ v k = 0) : trimN v (k + 1) = trimN v k := if_pos h
theorem trimN_no {v : List Nat} {k : Nat} (h : at_ v k ≠ 0) : trimN v (k + 1) = k + 1 := if_neg h
theorem encs_take (v : List Nat) (i : Nat) (h : i < v.length) : encs (v.take (i + 1)) = encs (v.take i) ++ enc (at_ v i) := by
  rw [List.take_add_one, at_lt h, Option.toList_some, encs_snoc]

set_option maxRecDepth 100000 in
set_option maxHeartbeats 1000000 in
theorem refLayV_any (Q A : Option Addr) (pn pc n c : Nat) (p : List UInt8) (v : List Nat) (w : World) (hp : Sees w Q pn p) (hv : SeesU w A n v) (hs : Small v) (hpn : pn ≤ 100000) :
    Calls Tryz.prog 66 #[.slice Q pn pc, .slice A n c] w (New w.heap.size (pn + (layL v).length) (p ++ layL v) w) := by
  have hn : n ≤ 64 := by rw [← hv.1]; exact hs.1
  obtain ⟨K, hK⟩ : ∃ K, K = trimN v n := ⟨_, rfl⟩
  have hKn : K ≤ n := by rw [hK]; exact trimN_le v n
  have hlay : layL v = enc K ++ encs (v.take K) := by unfold layL trimL; rw [hv.1, ← hK]
  have HLAY := Lib.hid hlay
  have HK := Lib.hid hK.symm
  clear hlay hK
  go_enter Tryz.func66, Tryz.ntmps66
  go_wp2_with fail
  go_loopw [5] (fun x wr => ∃ j : Nat, x = .int .i64 (j : Int) ∧ j ≤ n ∧ Hid (trimN v j = K) ∧ w = wr) (fun x _ => (intOf x).toNat)
  case atStart => exact ⟨n, rfl, Nat.le_refl _, HK, rfl⟩
  case round =>
    obtain ⟨j, rfl, hj, HJ, rfl⟩ := hrel
    have rest : j = K → _ := fun h => h
    by_cases h0 : ∃ k, j = k + 1 ∧ at_ v k = 0
    · obtain ⟨k, rfl, hz⟩ := h0
      obtain ⟨g, o, rfl, hcell⟩ := hv.get (j := k) (by omega)
      rw [hz] at hcell
      have HJ' := Lib.hid (by rw [← trimN_yes hz]; exact HJ.out : trimN v k = K)
      clear hz HJ
      go_wp2
      go_roundw
      case rel => exact ⟨k, by simp, by omega, HJ', by trivial⟩
      case measure => simp [intOf]
    · have hjK : j = K := by
        cases j with
        | zero => exact HJ.out
        | succ k => rw [← HJ.out, trimN_no fun h => h0 ⟨k, rfl, h⟩]
      subst hjK
      by_cases hj0 : j = 0
      · subst hj0
        clear h0
        go_wp2_with fail
        refine (refLay_any Q pn pc p 0 w hp (by omega) (by omega) (by omega)).mono ?_
        rintro e w1 ⟨P1, c1, rfl, own1, b1⟩
        rw [show (0 : Int).toNat = 0 from rfl] at own1 ⊢
        obtain ⟨L1, hL1⟩ : ∃ L1, L1 = (enc 0).length := ⟨_, rfl⟩
        have hL1' : L1 ≤ 10 := by rw [hL1]; exact enc_ten (by omega)
        have OWN1 := Lib.hid own1
        have HL1 := Lib.hid hL1
        clear own1
        rw [← hL1]
        clear hL1
        go_wp2_with fail
        go_loopw [0, 6] (fun x y wr => ∃ (P' : Option Addr) (c' M i : Nat), x = .slice P' M c' ∧ y = .int .i64 (i : Int) ∧ i ≤ 0 ∧ M ≤ pn + 10 + 10 * i ∧ Hid (M = (p ++ (enc 0 ++ encs (v.take i))).length) ∧
          wr.ownsRow w.heap.size 5 1 (.slice P' M c') M (cs (p ++ (enc 0 ++ encs (v.take i)))) ∧ Below w.heap.size w wr) (fun _ y _ => 0 - (intOf y).toNat)
        case atStart => exact ⟨P1, c1, pn + L1, 0, rfl, rfl, by omega, by omega, by rw [HL1.out]; simp [encs, Hid, hp.1], by rw [HL1.out]; simpa [encs] using OWN1.out, b1⟩
        case round =>
          obtain ⟨P', c', M, i, rfl, rfl, hi, hM, HM, own, bb⟩ := hrel
          obtain rfl : i = 0 := by omega
          rw [← HLAY.out] at own HM
          go_wp2
          go_ret
          have hMM : M = pn + (layL v).length := by rw [HM.out, List.length_append, hp.1]
          subst hMM
          exact ⟨P', c', rfl, own, bb⟩
      · obtain ⟨g, o, rfl, hcell⟩ := hv.get (j := j - 1) (by omega)
        have hne : at_ v (j - 1) ≠ 0 := fun h => h0 ⟨j - 1, by omega, h⟩
        generalize at_ v (j - 1) = z at hcell hne
        have z1 : ((z : Int) == 0) = false := by rw [beq_eq_false_iff_ne]; omega
        clear hne h0
        go_wp2_with fail
        refine (refLay_any Q pn pc p (j : Int) w hp (by omega) (by omega) (by omega)).mono ?_
        rintro e w1 ⟨P1, c1, rfl, own1, b1⟩
        rw [Int.toNat_natCast] at own1 ⊢
        obtain ⟨L1, hL1⟩ : ∃ L1, L1 = (enc j).length := ⟨_, rfl⟩
        have hL1' : L1 ≤ 10 := by rw [hL1]; exact enc_ten (by omega)
        have OWN1 := Lib.hid own1
        have HL1 := Lib.hid hL1
        clear own1
        rw [← hL1]
        clear hL1
        go_wp2_with fail
        go_loopw [0, 6] (fun x y wr => ∃ (P' : Option Addr) (c' M i : Nat), x = .slice P' M c' ∧ y = .int .i64 (i : Int) ∧ i ≤ j ∧ M ≤ pn + 10 + 10 * i ∧ Hid (M = (p ++ (enc j ++ encs (v.take i))).length) ∧
          wr.ownsRow w.heap.size 5 1 (.slice P' M c') M (cs (p ++ (enc j ++ encs (v.take i)))) ∧ Below w.heap.size w wr) (fun _ y _ => j - (intOf y).toNat)
        case atStart => exact ⟨P1, c1, pn + L1, 0, rfl, rfl, by omega, by omega, by rw [HL1.out]; simp [encs, Hid, hp.1], by rw [HL1.out]; simpa [encs] using OWN1.out, b1⟩
        case round =>
          obtain ⟨P', c', M, i, rfl, rfl, hi, hM, HM, own, bb⟩ := hrel
          by_cases hlt : i < j
          · have hcell := (hv.below bb).cell (j := i) (by omega)
            have hx := hs.2 i
            have hst := encs_take v i (by have := hv.1; omega)
            have HST := Lib.hid hst
            clear hst
            generalize at_ v i = x at hcell hx HST
            have hbw := bb.size
            go_wp2_with fail
            refine (refLay_any P' M c' _ (x : Int) wr (Sees.of_own own) (by omega) (by omega) (by omega)).mono ?_
            rintro e w2 ⟨P2, c2, rfl, own2, b2⟩
            rw [Int.toNat_natCast] at own2 ⊢
            have hl2 : (enc x).length ≤ 10 := enc_ten (by omega)
            have own2 := Own.lower own2 hbw
            have e2 : p ++ (enc j ++ encs (v.take i)) ++ enc x = p ++ (enc j ++ encs (v.take (i + 1))) := by rw [HST.out]; simp only [List.append_assoc]
            rw [e2] at own2
            have HM2 := Lib.hid (show M + (enc x).length = (p ++ (enc j ++ encs (v.take (i + 1)))).length by rw [← e2, List.length_append, ← HM.out])
            have b22 := bb.trans (b2.mono hbw)
            clear e2 own b2
            generalize (enc x).length = X at own2 HM2 hl2 ⊢
            go_wp2
            go_roundw
            case rel => exact ⟨P2, c2, M + X, i + 1, rfl, by simp, by omega, by omega, HM2, own2, b22⟩
            case measure => simp [intOf]; omega
          · obtain rfl : i = j := by omega
            rw [← HLAY.out] at own HM
            go_wp2
            go_ret
            have hMM : M = pn + (layL v).length := by rw [HM.out, List.length_append, hp.1]
            subst hMM
            exact ⟨P', c', rfl, own, bb⟩
end Go.Proofs.YtjceeojbnpcpfaaGreat.Vec

namespace Go.Proofs.YtjceeojbnpcpfaaGreat.Vec
open Go Go.RowKit Go.Proofs.YtjceeojbnpcpfaaGreat.Words Go.Proofs.YtjceeojbnpcpfaaGreat.Enc Go.Proofs.YtjceeojbnpcpfaaGreat.Made Go.Proofs.YtjceeojbnpcpfaaGreat.Tape
set_option linter.unusedVariables false
set_option linter.unusedSimpArgs false

/-- Bytes that are handed back. -/
def GivesB (w : World) (p : List UInt8) (e : Ending) (w' : World) : Prop := ∃ R rc, e = .returned (.slice R p.length rc) ∧ Sees w' R p.length p ∧ p.length ≤ rc ∧ rc ≤ 9223372036854775807 ∧ Below w.heap.size w w'
def BytesSaid : Prop := ∀ (A : Option Addr) (n c : Nat) (v : List Nat) (w : World), Took2 w A n c v → Small v →
  Calls Tryz.prog 63 #[.slice A n c] w (GivesB w (layL v))
def LaySaid : Prop := ∀ (A Q : Option Addr) (n c pn pc : Nat) (v : List Nat) (p : List UInt8) (w : World), Took2 w A n c v → Small v → Sees w Q pn p → pn ≤ pc → pc ≤ 9223372036854775807 → pn ≤ 100000 →
  Calls Tryz.prog 83 #[.slice A n c, .slice Q pn pc] w (GivesB w (p ++ layL v))
theorem small_fits {v : List Nat} (h : Small v) : Fits v := fun i => by have := h.2 i; omega
end Go.Proofs.YtjceeojbnpcpfaaGreat.Vec

namespace Go.Proofs.YtjceeojbnpcpfaaGreat.Vec
open Go Go.RowKit Go.Proofs.YtjceeojbnpcpfaaGreat.Words Go.Proofs.YtjceeojbnpcpfaaGreat.Enc Go.Proofs.YtjceeojbnpcpfaaGreat.Made Go.Proofs.YtjceeojbnpcpfaaGreat.Tape
set_option linter.unusedVariables false
set_option linter.unusedSimpArgs false

theorem us_append (a b : List Nat) : us (a ++ b) = us a ++ us b := by simp [us]
theorem of_us_get {l : List Nat} {j : Nat} {u : Value} (h : (us l)[j]? = some u) : ∃ x, l[j]? = some x ∧ u = .int .u64 (x : Int) := by
  unfold us at h
  rw [List.getElem?_map] at h
  cases hx : l[j]? with
  | none => rw [hx] at h; cases h
  | some x => rw [hx] at h; injection h with h; exact ⟨x, rfl, h.symm⟩
/-- append onto what the call owns, of numbers that are seen, wherever they lie. -/
theorem run_appU {P : Program} {w : World} (base : Nat) (t ty e : TypeId) (i : TypeInfo) (z : Value) (ht : P.underlying t = some (.slice e)) (hi : P.info? e = some i) (hz : i.zero = some z)
    (hsize : i.size = 1) (hby : i.bytes = 8) (hzs : z.cells.size = 1)
    (A : Option Addr) (n c : Nat) (l : List Nat) (hown : w.ownsRow base e 1 (.slice A n c) n (us l))
    (S : Option Addr) (m k : Nat) (q : List Nat) (hs : SeesU w S m q) (h63 : n + m ≤ 1000000000000) (hbase : base ≤ w.heap.size) :
    ∃ A' c' w', (Builtin.append_ #[t, t] ty #[.slice A n c, .slice S m k]).run P w = .ok (.slice A' (n + m) c') w' ∧ w'.ownsRow base e 1 (.slice A' (n + m) c') (n + m) (us (l ++ q)) ∧ Below base w w' := by
  have hmx : n + m ≤ maxLen := by unfold maxLen; omega
  cases S with
  | none =>
    have hm : m = 0 := by
      rcases Nat.eq_zero_or_pos m with h0 | h0
      · exact h0
      · obtain ⟨b, o, h, _⟩ := hs.2 h0
        cases h
    subst hm
    have hq : q = [] := List.eq_nil_of_length_eq_zero hs.1
    subst hq
    refine ⟨A, c, w, ?_, by simpa using hown, Below.refl _ _⟩
    rcases hown.2 with ⟨hv, rfl⟩ | ⟨g, cap, cur, hv, _, _, hnc, _⟩
    · injection hv with h1 h2 h3
      subst h1; subst h3
      simp [Builtin.append_, run_underlying ht, sizeOf, typeInfo, hi, Builtin.lenOf, Builtin.firstCells]
    · injection hv with h1 h2 h3
      subst h1; subst h3
      simp [Builtin.append_, run_underlying ht, sizeOf, typeInfo, hi, Builtin.lenOf, Builtin.firstCells, hnc, storeCells]
  | some ad =>
    have hcells : ∀ j u, (us q)[j]? = some u → w.cell? (ad.add j) = some u := by
      intro j u hu
      obtain ⟨y, hy, rfl⟩ := of_us_get hu
      have hj : j < q.length := (List.getElem?_eq_some_iff.1 hy).1
      obtain ⟨b, o, h, hc⟩ := hs.2 (by have := hs.1; omega)
      injection h with h
      subst h
      rw [add_plain]
      exact hc j y hy
    obtain ⟨v', w', hrun, h2, h3, _⟩ := run_append_own (P := P) w base t ty e i z 1 8 ht hi hz hsize hby hzs (by decide) (.slice A n c) n (us l) hown ad m k (us q) (by rw [us_length, hs.1]; simp) hcells (us_one q) hmx (by omega) hbase
    rw [← us_append] at h2
    have hB : Below base w w' := (Below.refl base w).grown h3 hbase fun g hg => (hown.lt g hg).1
    obtain ⟨A', c', rfl⟩ : ∃ A' c', v' = .slice A' (n + m) c' := by
      rcases h2.2 with ⟨rfl, h0⟩ | ⟨g, cap, cur, rfl, _⟩
      · exact ⟨none, 0, by rw [h0]⟩
      · exact ⟨_, cap, rfl⟩
    exact ⟨A', c', w', hrun, h2, hB⟩
theorem eql_none (w : World) (n c : Nat) : (binOp .eql 81 (.slice none n c) (.slice none 0 0)).run Tryz.prog w = .ok (.bool true) w := by
  rw [Lib.run_eql_slice_nil w 81 29 none n c 0 0 Tryz.underlying81]
  rfl
theorem eql_some (w : World) (a : Addr) (n c : Nat) : (binOp .eql 81 (.slice (some a) n c) (.slice none 0 0)).run Tryz.prog w = .ok (.bool false) w := by
  rw [Lib.run_eql_slice_nil w 81 29 (some a) n c 0 0 Tryz.underlying81]
  rfl
theorem info64 : (Tryz.prog.info? 29).map (fun i => (i.zero, i.size, i.bytes)) = some (some (.int .u64 0), 1, 8) := by kernel_rfl
/-- The same for the program's own vectors. -/
theorem app_vec (ty : TypeId) (base : Nat) (A : Option Addr) (n c : Nat) (l : List Nat) (w : World) (hown : w.ownsRow base 29 1 (.slice A n c) n (us l))
    (S : Option Addr) (m k : Nat) (q : List Nat) (hs : SeesU w S m q) (h63 : n + m ≤ 1000000000000) (hbase : base ≤ w.heap.size) :
    ∃ A' c' w', (Builtin.append_ #[81, 81] ty #[.slice A n c, .slice S m k]).run Tryz.prog w = .ok (.slice A' (n + m) c') w' ∧ w'.ownsRow base 29 1 (.slice A' (n + m) c') (n + m) (us (l ++ q)) ∧ Below base w w' := by
  have hi := info64
  cases hc : Tryz.prog.info? 29 with
  | none => rw [hc] at hi; cases hi
  | some i =>
    rw [hc] at hi
    simp only [Option.map_some, Option.some.injEq, Prod.mk.injEq] at hi
    obtain ⟨hz, hsz, hby⟩ := hi
    exact run_appU base 81 ty 29 i (.int .u64 0) Tryz.underlying81 hc hz hsz hby rfl A n c l hown S m k q hs h63 hbase

theorem wpList_vec {w : World} {ops : Array Oper} {rest : List Oper} {o : Oper} {a : Act} {Q : Exit → Act → World → Prop} (hgd : o.guard = none) (s x : Operand)
    (ho : o.op = .call { callee := .builtin .append, args := #[s, x], argTypes := #[81, 81] })
    (base : Nat) (A : Option Addr) (n c : Nat) (l : List Nat) (hs : a.eval s = .slice A n c) (hown : w.ownsRow base 29 1 (.slice A n c) n (us l))
    (S : Option Addr) (m k : Nat) (q : List Nat) (hx : a.eval x = .slice S m k) (hq : SeesU w S m q) (h63 : n + m ≤ 1000000000000) (hbase : base ≤ w.heap.size)
    (h : ∀ A' c' w', w'.ownsRow base 29 1 (.slice A' (n + m) c') (n + m) (us (l ++ q)) → Below base w w' → wpList Tryz.prog ops Q rest (a.put o.dst (.slice A' (n + m) c')) w') : wpList Tryz.prog ops Q (o :: rest) a w :=
  wpList_plain hgd fun _ hK => by
    obtain ⟨A', c', w', hrun, h2, h3⟩ := app_vec o.type base A n c l w hown S m k q hq h63 hbase
    unfold Oper.wp execOp
    simp only [ho, resolve, invoke, builtin, Sem.run_bind, Sem.run_pure, Result.andThen_ok, List.map_toArray, List.map_cons, List.map_nil, hs, hx, hrun]
    exact hK _ _ (h A' c' w' h2 h3)
/-- The same numbers, in memory of their own. -/
def Clones (w : World) (v : List Nat) (n : Nat) (e : Ending) (w' : World) : Prop :=
  ∃ A' c', e = .returned (.slice A' n c') ∧ w'.ownsRow w.heap.size 29 1 (.slice A' n c') n (us v) ∧ Below w.heap.size w w'
set_option maxRecDepth 100000 in
theorem clone_u (A : Option Addr) (n c : Nat) (v : List Nat) (w : World) (hv : SeesU w A n v) (hn : n ≤ 900000) :
    Calls Tryz.prog 82 #[.slice A n c] w (Clones w v n) := by
  cases A with
  | none =>
    have h0 : n = 0 := by
      rcases Nat.eq_zero_or_pos n with h | h
      · exact h
      · obtain ⟨b, o, e, _⟩ := hv.2 h
        cases e
    subst h0
    have hl0 : v = [] := List.eq_nil_of_length_eq_zero hv.1
    subst hl0
    have he := eql_none w 0 c
    have FIN : Hid (Clones w [] 0 (.returned (.slice none 0 0)) w) := Lib.hid ⟨none, 0, rfl, Own.nil _ _ _, Below.refl _ _⟩
    go_enter Tryz.func82, Tryz.ntmps82
    go_wp2
    go_ret
    exact FIN.out
  | some a =>
    have he := eql_some w a n c
    have hv1 := hv.below ((Below.refl w.heap.size w).alloc (Nat.le_refl _) (.cells #[] 29))
    have hb1 := (Below.refl w.heap.size w).alloc (Nat.le_refl _) (.cells #[] 29)
    have own0 := World.ownsRow_lit (base := w.heap.size) (e := 29) (size := 1) w #[] 0 (Nat.le_refl _) (by decide) rfl
    have hsz : w.heap.size ≤ (w.alloc (.cells #[] 29)).heap.size := hb1.size
    clear hv
    go_enter Tryz.func82, Tryz.ntmps82
    go_wp2_with (first | (at_builtin; refine wpList_vec rfl _ _ rfl w.heap.size (some ⟨w.heap.size, 0, none⟩) 0 0 [] rfl own0 (some a) n c v rfl hv1 (by omega) hsz ?_))
    intro A' c' w' own bel
    have FIN : Hid (Clones w v n (.returned (.slice A' n c')) w') := Lib.hid ⟨_, _, rfl, own, hb1.trans bel⟩
    clear hv1 hb1 own bel own0
    go_wp2
    go_ret
    exact FIN.out

/-- The vector without the zeros behind, in memory of its own. -/
def Trims (w : World) (v : List Nat) (n : Nat) (e : Ending) (w' : World) : Prop :=
  ∃ R rc, e = .returned (.slice R (trimN v n) rc) ∧ w'.ownsRow w.heap.size 29 1 (.slice R (trimN v n) rc) (trimN v n) (us (v.take (trimN v n))) ∧ Below w.heap.size w w'
set_option maxRecDepth 100000 in
theorem trim_at (A : Option Addr) (n c : Nat) (v : List Nat) (w : World) (hv : SeesU w A n v) (hc : n ≤ c) (hn : n ≤ 900000) (hc2 : c ≤ 9223372036854775807) :
    Calls Tryz.prog 62 #[.slice A n c] w (Trims w v n) := by
  obtain ⟨K, hK⟩ : ∃ K, K = trimN v n := ⟨_, rfl⟩
  have hKn : K ≤ n := by rw [hK]; exact trimN_le v n
  have HK := Lib.hid hK.symm
  have CL := Lib.hid (clone_u A K c (v.take K) w (hv.take hKn) (by omega))
  unfold Trims
  rw [← hK]
  clear hK
  go_enter Tryz.func62, Tryz.ntmps62
  go_wp2_with fail
  go_loopw [3] (fun x wr => ∃ j : Nat, x = .int .i64 (j : Int) ∧ j ≤ n ∧ Hid (trimN v j = K) ∧ w = wr) (fun x _ => (intOf x).toNat)
  case atStart => exact ⟨n, rfl, Nat.le_refl _, HK, rfl⟩
  case round =>
    obtain ⟨j, rfl, hj, HJ, rfl⟩ := hrel
    by_cases h0 : ∃ k, j = k + 1 ∧ at_ v k = 0
    · obtain ⟨k, rfl, hz⟩ := h0
      obtain ⟨g, o, rfl, hcell⟩ := hv.get (j := k) (by omega)
      rw [hz] at hcell
      have HJ' := Lib.hid (by rw [← trimN_yes hz]; exact HJ.out : trimN v k = K)
      clear hz HJ
      go_wp2
      go_roundw
      case rel => exact ⟨k, by simp, by omega, HJ', by trivial⟩
      case measure => simp [intOf]
    · have hjK : j = K := by
        cases j with
        | zero => exact HJ.out
        | succ k => rw [← HJ.out, trimN_no fun h => h0 ⟨k, rfl, h⟩]
      subst hjK
      by_cases hj0 : j = 0
      · subst hj0
        clear h0 HJ
        cases A with
        | none =>
          go_wp2_with fail
          refine CL.out.mono ?_
          rintro e w2 ⟨R, rc, rfl, h1, h2⟩
          have FIN := Lib.hid (And.intro h1 h2)
          clear h1 h2 CL
          go_wp2
          go_ret
          exact ⟨_, _, rfl, FIN.out⟩
        | some ad =>
          go_wp2_with fail
          refine CL.out.mono ?_
          rintro e w2 ⟨R, rc, rfl, h1, h2⟩
          have FIN := Lib.hid (And.intro h1 h2)
          clear h1 h2 CL
          go_wp2
          go_ret
          exact ⟨_, _, rfl, FIN.out⟩
      · obtain ⟨g, o, rfl, hcell⟩ := hv.get (j := j - 1) (by omega)
        have hne : at_ v (j - 1) ≠ 0 := fun h => h0 ⟨j - 1, by omega, h⟩
        generalize at_ v (j - 1) = z at hcell hne
        have z1 : ((z : Int) == 0) = false := by rw [beq_eq_false_iff_ne]; omega
        clear hne h0 HJ
        go_wp2_with fail
        refine CL.out.mono ?_
        rintro e w2 ⟨R, rc, rfl, h1, h2⟩
        have FIN := Lib.hid (And.intro h1 h2)
        clear h1 h2 CL
        go_wp2
        go_ret
        exact ⟨_, _, rfl, FIN.out⟩

/-! Two vectors, number by number, by a function that is handed over. -/
end Go.Proofs.YtjceeojbnpcpfaaGreat.Vec

namespace Go.Proofs.YtjceeojbnpcpfaaGreat.Vec
open Go Go.RowKit Go.Proofs.YtjceeojbnpcpfaaGreat.Words Go.Proofs.YtjceeojbnpcpfaaGreat.Enc Go.Proofs.YtjceeojbnpcpfaaGreat.Made Go.Proofs.YtjceeojbnpcpfaaGreat.Tape
set_option linter.unusedVariables false
set_option linter.unusedSimpArgs false

theorem below_drewN (w : World) (k : Nat) : Below w.heap.size w (w.drewN k) := by
  have := Below.refl w.heap.size w
  exact ⟨this.os, this.tape, this.output, this.size, this.block⟩
end Go.Proofs.YtjceeojbnpcpfaaGreat.Vec

namespace Go.Proofs.YtjceeojbnpcpfaaGreat.Vec
open Go Go.RowKit Go.Proofs.YtjceeojbnpcpfaaGreat.Words Go.Proofs.YtjceeojbnpcpfaaGreat.Enc Go.Proofs.YtjceeojbnpcpfaaGreat.Made Go.Proofs.YtjceeojbnpcpfaaGreat.Tape
set_option linter.unusedVariables false
set_option linter.unusedSimpArgs false

theorem SeesU.beside {S : List Nat} {w w' : World} {A : Option Addr} {n : Nat} {l : List Nat} (h : SeesU w A n l) (hb : Beside S w w') (hS : Out S A n) : SeesU w' A n l := by
  refine ⟨h.1, fun hn => ?_⟩
  obtain ⟨b, o, hA, hc⟩ := h.2 hn
  exact ⟨b, o, hA, fun j u hu => hb.cell (hc j u hu) (show b ∉ S from hS hn _ hA)⟩
theorem Took2.beside {S : List Nat} {w w' : World} {A : Option Addr} {n c : Nat} {a : List Nat} (h : Took2 w A n c a) (hb : Beside S w w') (hS : Out S A n) : Took2 w' A n c a := ⟨h.1.beside hb hS, h.2⟩
theorem Out.two {p1 p2 : Nat} {A : Option Addr} {n : Nat} (h1 : Out [p1] A n) (h2 : Out [p2] A n) : Out [p1, p2] A n := fun hn a ha hm => by
  simp only [List.mem_cons, List.not_mem_nil, or_false] at hm
  rcases hm with hm | hm
  · exact h1 hn a ha (by simp [hm])
  · exact h2 hn a ha (by simp [hm])

end Go.Proofs.YtjceeojbnpcpfaaGreat.Vec

namespace Go.Proofs.YtjceeojbnpcpfaaGreat.Vec
open Go Go.RowKit Go.Proofs.YtjceeojbnpcpfaaGreat.Words Go.Proofs.YtjceeojbnpcpfaaGreat.Enc Go.Proofs.YtjceeojbnpcpfaaGreat.Made Go.Proofs.YtjceeojbnpcpfaaGreat.Tape
set_option linter.unusedVariables false
set_option linter.unusedSimpArgs false

end Go.Proofs.YtjceeojbnpcpfaaGreat.Vec

namespace Go.Proofs.YtjceeojbnpcpfaaGreat.Vec
open Go Go.RowKit Go.Proofs.YtjceeojbnpcpfaaGreat.Words Go.Proofs.YtjceeojbnpcpfaaGreat.Enc Go.Proofs.YtjceeojbnpcpfaaGreat.Made Go.Proofs.YtjceeojbnpcpfaaGreat.Tape
set_option linter.unusedVariables false
set_option linter.unusedSimpArgs false

set_option maxRecDepth 100000 in
set_option maxHeartbeats 2000000 in
theorem vlay_any : LaySaid := fun A Q n c pn pc v p w tv hs hp hpc hpc2 hpn => by
  have hn : n ≤ 64 := by rw [← tv.1.1]; exact hs.1
  obtain ⟨K, hK⟩ : ∃ K, K = trimN v n := ⟨_, rfl⟩
  have hKn : K ≤ n := by rw [hK]; exact trimN_le v n
  have hlay : layL v = enc K ++ encs (v.take K) := by unfold layL trimL; rw [tv.1.1, ← hK]
  have HLAY := Lib.hid hlay
  have TR := trim_at A n c v w tv.1 tv.2.2.1 tv.2.2.2.2 tv.2.2.2.1
  unfold Trims at TR
  rw [← hK] at TR
  have LEN := Lib.hid tv.1.1
  have HT := Lib.hid TR
  clear hlay hK TR tv
  have hi := info8
  cases hc : Tryz.prog.info? 5 with
  | none => rw [hc] at hi; cases hi
  | some i =>
  rw [hc] at hi
  simp only [Option.map_some, Option.some.injEq, Prod.mk.injEq] at hi
  obtain ⟨hz, hsz, hby⟩ := hi
  have hi := hc
  clear hc
  go_enter Tryz.func83, Tryz.ntmps83
  go_wp2_with fail
  refine HT.out.mono ?_
  rintro e w0 ⟨R, rc, rfl, own0, b0⟩
  have sr := SeesU.of_own own0
  have hp0 := hp.below b0
  have hw : IntKind.u64.wrap (K : Int) = (K : Int) := by
    have h : IntKind.u64.wrap (K : Int) = (K : Int) % 18446744073709551616 := rfl
    rw [h]; omega
  have SV : Hid (∀ W, Below w0.heap.size w0 W → ∀ j, j < K → ∃ g o, R = some ⟨g, o, none⟩ ∧ W.cell? ⟨g, o + j, none⟩ = some (.int .u64 (at_ v j : Int))) := Lib.hid fun W hW j hj => by
    obtain ⟨g, o, h1, h2⟩ := (sr.below hW).get hj
    rw [at_take, if_pos hj] at h2
    exact ⟨g, o, h1, h2⟩
  clear own0 sr hp HT
  go_wp2_with fail
  refine (lay_any Q pn pc p (K : Int) w0 hp0 (by omega) (by omega) (by omega)).mono ?_
  rintro e w1 ⟨P1, c1, rfl, own1, b1⟩
  rw [Int.toNat_natCast] at own1 ⊢
  obtain ⟨L1, hL1⟩ : ∃ L1, L1 = (enc K).length := ⟨_, rfl⟩
  have hL1' : L1 ≤ 10 := by rw [hL1]; exact enc_ten (by omega)
  have OWN1 := Lib.hid own1
  have HL1 := Lib.hid hL1
  clear own1
  rw [← hL1]
  clear hL1
  have HPN := Lib.hid hp0.1
  clear hp0
  go_wp2_with fail
  go_loopw [1, 17] (fun x y wr => ∃ (P' : Option Addr) (c' M i : Nat), x = .slice P' M c' ∧ y = .int .i64 (i : Int) ∧ i ≤ K ∧ M ≤ pn + 10 + 10 * i ∧ Hid (M = (p ++ (enc K ++ encs (v.take i))).length) ∧
    wr.ownsRow w0.heap.size 5 1 (.slice P' M c') M (cs (p ++ (enc K ++ encs (v.take i)))) ∧ Below w0.heap.size w0 wr) (fun _ y _ => K - (intOf y).toNat)
  case atStart => exact ⟨P1, c1, pn + L1, 0, rfl, rfl, by omega, by omega, by rw [HL1.out]; simp [encs, Hid, HPN.out], by rw [HL1.out]; simpa [encs] using OWN1.out, b1⟩
  case round =>
    obtain ⟨P', c', M, i', rfl, rfl, hi', hM, HM, own, bb⟩ := hrel
    by_cases hlt : i' < K
    · obtain ⟨g, o, rfl, hcell⟩ := SV.out wr bb i' hlt
      have hx := hs.2 i'
      have hst := encs_take v i' (by rw [LEN.out]; omega)
      have HST := Lib.hid hst
      clear hst
      generalize at_ v i' = x at hcell hx HST
      have hbw := bb.size
      have h1 : (i' : Int) < (K : Int) := by omega
      have LX := Lib.hid (lay_any none 0 0 [] (x : Int) wr (Sees.nil _ _) (by decide) (by omega) (by omega))
      have OWN := Lib.hid own
      clear own
      go_wp2_with fail
      refine LX.out.mono ?_
      rintro e w2 ⟨P2, c2, rfl, own2, b2⟩
      rw [Int.toNat_natCast, Nat.zero_add] at own2 ⊢
      rw [List.nil_append] at own2
      have hl2 : (enc x).length ≤ 10 := enc_ten (by omega)
      have hs2 := Sees.of_own own2
      have ownp := Own.below OWN.out b2 (Nat.le_refl _)
      have b22 := bb.trans (b2.mono hbw)
      have hz2 : w0.heap.size ≤ w2.heap.size := b22.size
      clear own2 b2 LX OWN
      have e2 : p ++ (enc K ++ encs (v.take i')) ++ enc x = p ++ (enc K ++ encs (v.take (i' + 1))) := by rw [HST.out]; simp only [List.append_assoc]
      have HM2 := Lib.hid (show M + (enc x).length = (p ++ (enc K ++ encs (v.take (i' + 1)))).length by rw [← e2, List.length_append, ← HM.out])
      have HE2 := Lib.hid e2
      clear e2
      generalize hX : (enc x).length = X at hs2 HM2 hl2 ⊢
      clear hX
      go_wp2_with (first | (at_builtin; refine wpList_app rfl _ _ 35 rfl w0.heap.size 5 i (.int .u8 0) Tryz.underlying35 hi hz hsz hby rfl P' M c' (p ++ (enc K ++ encs (v.take i'))) rfl ownp P2 X c2 (enc x) rfl hs2 ?d1 ?d2 ?_))
      case d1 => omega
      case d2 => exact hz2
      intro P3 c3 w3 own3 b3
      rw [← HST.out] at own3
      have b33 := b22.trans b3
      clear ownp hs2 b22 b3
      go_wp2
      go_roundw
      case rel => exact ⟨P3, c3, M + X, i' + 1, rfl, by simp, by omega, by omega, HM2, own3, b33⟩
      case measure => simp [intOf]; omega
    · obtain rfl : i' = K := by omega
      rw [← HLAY.out] at own HM
      have FIN : Hid (GivesB w (p ++ layL v) (.returned (.slice P' M c')) wr) := Lib.hid (by
        have hMM := HM.out
        subst hMM
        exact ⟨P', c', rfl, Sees.of_own own, (Own.cap own).1, (Own.cap own).2, b0.trans (bb.mono b0.size)⟩)
      clear own HM bb
      go_wp2
      go_ret
      exact FIN.out

set_option maxRecDepth 100000 in
theorem vbytes_any : BytesSaid := fun A n c v w tv hs => by
  have LX := vlay_any A none n c 0 0 v [] w tv hs (Sees.nil _ _) (by decide) (by decide) (by decide)
  rw [List.nil_append] at LX
  have HX := Lib.hid LX
  clear LX tv hs
  go_enter Tryz.func63, Tryz.ntmps63
  go_wp2_with fail
  refine HX.out.mono ?_
  rintro e w1 ⟨R, rc, rfl, h1, h2, h3, h4⟩
  have F := Lib.hid (show GivesB w _ (.returned (.slice R (layL v).length rc)) w1 from ⟨R, rc, rfl, h1, h2, h3, h4⟩)
  clear h1 h2 h3 h4 HX
  go_wp2
  go_ret
  exact F.out
end Go.Proofs.YtjceeojbnpcpfaaGreat.Vec
