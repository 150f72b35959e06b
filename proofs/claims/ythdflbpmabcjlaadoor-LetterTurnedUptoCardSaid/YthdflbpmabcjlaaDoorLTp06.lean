/- Words for slices of u64 in memory; vectors as lists of numbers; what the law's own reference functions answer. A vector's bytes, as plain data, and what is read of bytes. The law's own reference for a vector's bytes; the law's test for small vectors. What is asked of package vector, by its operations; the laws VectorJoins, VectorOrders, VectorLacks out of it. Package vector: Get, Trim, and two vectors combined by a function that is handed over. Package vector: Within, Same, Apart, Lack. The law VectorReads, walked out of what is asked of package vector. Package vector: Read, of any tape. -/
import Derived.Lib.Hide
import Derived.Deep.QuietTactic
import Derived.Laws.OwnMore
import Derived.Lib.SliceRun
import Derived.Laws.Externs
import Derived.Test.YthdflbpmabcjlaaDoorLTp01
import Derived.Test.YthdflbpmabcjlaaDoorLTp03
import Derived.Test.YthdflbpmabcjlaaDoorLTp04
namespace Go.Proofs.YthdflbpmabcjlaaDoor.Vec
open Go Go.RowKit Go.Proofs.YthdflbpmabcjlaaDoor.Words
set_option linter.unusedVariables false
set_option linter.unusedSimpArgs false

/-- Numbers as cells. -/
def us (l : List Nat) : List Value := l.map fun (x : Nat) => Value.int .u64 (x : Int)
theorem us_length (l : List Nat) : (us l).length = l.length := by simp [us]
theorem us_get {l : List Nat} {j x : Nat} (h : l[j]? = some x) : (us l)[j]? = some (.int .u64 (x : Int)) := by simp [us, h]
/-- The slice of n numbers at A shows l. -/
def SeesU (w : World) (A : Option Addr) (n : Nat) (l : List Nat) : Prop :=
  l.length = n ∧ (0 < n → ∃ b o, A = some ⟨b, o, none⟩ ∧ ∀ (j x : Nat), l[j]? = some x → w.cell? ⟨b, o + j, none⟩ = some (.int .u64 (x : Int)))
theorem SeesU.nil (w : World) (A : Option Addr) : SeesU w A 0 [] := ⟨rfl, fun h => absurd h (by omega)⟩
theorem SeesU.drew {w : World} {A : Option Addr} {n : Nat} {l : List Nat} (h : SeesU w A n l) : SeesU w.drew A n l := h
theorem SeesU.drewN {w : World} {A : Option Addr} {n : Nat} {l : List Nat} (h : SeesU w A n l) (k : Nat) : SeesU (w.drewN k) A n l := h
theorem SeesU.below {w w' : World} {A : Option Addr} {n : Nat} {l : List Nat} (h : SeesU w A n l) (hb : Below w.heap.size w w') : SeesU w' A n l := by
  refine ⟨h.1, fun hn => ?_⟩
  obtain ⟨b, o, hA, hc⟩ := h.2 hn
  refine ⟨b, o, hA, fun j u hu => ?_⟩
  have hcell := hc j u hu
  have hlt := World.block_lt_of_cell? _ _ hcell
  rw [hb.cell (p := ⟨b, o + j, none⟩) hlt]
  exact hcell
theorem SeesU.of_own {w : World} {base : Nat} {e : TypeId} {A : Option Addr} {n c : Nat} {l : List Nat} (h : w.ownsRow base e 1 (.slice A n c) n (us l)) : SeesU w A n l := by
  refine ⟨by have := h.1; rw [us_length] at this; omega, fun hn => ?_⟩
  obtain ⟨g, rfl, _⟩ := Own.at_ h hn
  exact ⟨g, 0, rfl, fun j u hu => by rw [← add_plain]; exact h.cells (g := g) rfl j _ (us_get hu)⟩
theorem SeesU.take {w : World} {A : Option Addr} {n : Nat} {l : List Nat} (h : SeesU w A n l) {k : Nat} (hk : k ≤ n) : SeesU w A k (l.take k) := by
  refine ⟨by rw [List.length_take, h.1]; omega, fun hn => ?_⟩
  obtain ⟨b, o, e, hc⟩ := h.2 (by omega)
  refine ⟨b, o, e, fun j u hu => ?_⟩
  rw [List.getElem?_take] at hu
  split at hu
  · exact hc j u hu
  · cases hu
/-- The number at place i; 0 behind the end. -/
def at_ (l : List Nat) (i : Nat) : Nat := l.getD i 0
theorem at_lt {l : List Nat} {i : Nat} (h : i < l.length) : l[i]? = some (at_ l i) := by
  unfold at_
  rw [List.getD_eq_getElem?_getD, List.getElem?_eq_getElem h]
  rfl
theorem at_ge {l : List Nat} {i : Nat} (h : l.length ≤ i) : at_ l i = 0 := by
  unfold at_
  rw [List.getD_eq_getElem?_getD, List.getElem?_eq_none h]
  rfl
/-- Each is below 2^64. -/
def Fits (l : List Nat) : Prop := ∀ i, at_ l i < 18446744073709551616
theorem SeesU.get {w : World} {A : Option Addr} {n : Nat} {l : List Nat} (h : SeesU w A n l) {j : Nat} (hj : j < n) : ∃ b o, A = some ⟨b, o, none⟩ ∧ w.cell? ⟨b, o + j, none⟩ = some (.int .u64 (at_ l j : Int)) := by
  obtain ⟨b, o, hA, hc⟩ := h.2 (by omega)
  exact ⟨b, o, hA, hc j _ (at_lt (by rw [h.1]; exact hj))⟩
theorem SeesU.cell {w : World} {g o n : Nat} {l : List Nat} (h : SeesU w (some ⟨g, o, none⟩) n l) {j : Nat} (hj : j < n) : w.cell? ⟨g, o + j, none⟩ = some (.int .u64 (at_ l j : Int)) := by
  obtain ⟨b, o', hA, hc⟩ := h.get hj
  injection hA with hA
  injection hA with h1 h2
  subst h1; subst h2
  exact hc
/-- A slice of numbers that came in, as the rows open it. -/
theorem seesU_of_row {w : World} {a : Option Addr} {len cap : Nat} {zs : List Int}
    (h : (a = none ∧ len = 0 ∧ cap = 0 ∧ zs = []) ∨ ∃ x, a = some x ∧ len ≤ cap ∧ cap ≤ maxLen ∧ zs.length = cap ∧ (∀ i, i < zs.length → w.cell? (x.add i) = some (.int .u64 (zs.getD i 0))) ∧ ∀ n ∈ zs, (Lit.int .u64 n).wf = true) :
    ∃ l, SeesU w a len l ∧ Fits l ∧ len ≤ cap ∧ cap ≤ maxLen := by
  rcases h with ⟨rfl, rfl, rfl, rfl⟩ | ⟨x, rfl, hl, hm, hz, hc, hw⟩
  · exact ⟨[], SeesU.nil _ _, fun i => by simp [at_], Nat.le_refl _, Nat.zero_le _⟩
  · have hb : ∀ j, j < zs.length → ∃ y : Nat, zs.getD j 0 = (y : Int) ∧ y < 18446744073709551616 := by
      intro j hj
      have hm : zs.getD j 0 ∈ zs := by rw [List.getD_eq_getElem?_getD, List.getElem?_eq_getElem hj]; exact List.getElem_mem hj
      generalize zs.getD j 0 = y at hm ⊢
      have := hw _ hm
      simp [Lit.wf, IntKind.min, IntKind.max, IntKind.signed, IntKind.bits] at this
      exact ⟨y.toNat, by omega, by omega⟩
    have hat : ∀ j, j < len → ((zs.take len).map Int.toNat)[j]? = some (zs.getD j 0).toNat := by
      intro j hj
      rw [List.getElem?_map, List.getElem?_take, if_pos hj, List.getD_eq_getElem?_getD, List.getElem?_eq_getElem (by omega)]
      rfl
    refine ⟨(zs.take len).map Int.toNat, ⟨by simp; omega, fun hn => ?_⟩, fun i => ?_, hl, hm⟩
    · obtain ⟨b, o, s⟩ := x
      have hs0 : s = none := by
        have := hc 0 (by omega)
        simpa [Addr.add] using World.cell?_spot this
      subst hs0
      refine ⟨b, o, rfl, fun j u hu => ?_⟩
      have hj : j < len := by
        have := (List.getElem?_eq_some_iff.1 hu).1
        simp at this; omega
      rw [hat j hj] at hu
      injection hu with hu
      have hcj := hc j (by omega)
      rw [add_plain] at hcj
      rw [hcj]
      obtain ⟨y, hy, _⟩ := hb j (by omega)
      rw [hy] at hu ⊢
      simp at hu
      rw [hu]
    · by_cases hi : i < len
      · obtain ⟨y, hy, hy2⟩ := hb i (by omega)
        unfold at_
        rw [List.getD_eq_getElem?_getD, hat i hi, hy]
        simpa using hy2
      · rw [at_ge (by simp; omega)]
        decide

/-! What vectors are. -/
/-- No 0 behind. -/
def Trimmed (l : List Nat) : Prop := l = [] ∨ at_ l (l.length - 1) ≠ 0
/-! The law's own reference. -/
end Go.Proofs.YthdflbpmabcjlaaDoor.Vec
namespace Go.Proofs.YthdflbpmabcjlaaDoor.Vec
open Go Go.RowKit Go.Proofs.YthdflbpmabcjlaaDoor.Words Go.Proofs.YthdflbpmabcjlaaDoor.Enc Go.Proofs.YthdflbpmabcjlaaDoor.Tape
set_option linter.unusedVariables false
set_option linter.unusedSimpArgs false

theorem numG_enc {most N : Nat} {l rest : List UInt8} (h : numG most l = .ok N rest) : l = enc N ++ rest ∧ N ≤ most := by
  obtain ⟨h1, h2, h3, rfl⟩ := numG_ok h
  have h4 := @Take.tk_one l (tk 0 0 l).1 (tk 0 0 l).2.1 (Prod.ext rfl (Prod.ext rfl h1))
  refine ⟨?_, by omega⟩
  rw [← h2, ← h4.1, List.take_append_drop]
theorem numG_of {most N : Nat} (hN : N ≤ most) (h64 : N < 18446744073709551616) (r : List UInt8) : numG most (enc N ++ r) = .ok N r := by
  unfold numG
  rw [tk_lay N h64 r]
  simp only
  rw [if_neg (by simp), if_neg (by omega), List.drop_left]
theorem bind_bad {α β : Type} {g : Got α} {f : α → List UInt8 → Got β} {E : Nat} (h : g.bind f = .bad E) : g = .bad E ∨ ∃ a r, g = .ok a r ∧ f a r = .bad E := by
  cases g with
  | bad E' => left; simpa [Got.bind] using h
  | ok a r => exact .inr ⟨a, r, rfl, h⟩
theorem bind_ok {α β : Type} {g : Got α} {f : α → List UInt8 → Got β} {b : β} {r : List UInt8} (h : g.bind f = .ok b r) : ∃ a q, g = .ok a q ∧ f a q = .ok b r := by
  cases g with
  | bad E' => cases h
  | ok a q => exact ⟨a, q, rfl, h⟩

/-- How many numbers of the first k are left without the zeros behind. -/
def trimN (v : List Nat) : Nat → Nat
  | 0 => 0
  | k + 1 => if at_ v k = 0 then trimN v k else k + 1
theorem trimN_le (v : List Nat) : ∀ k, trimN v k ≤ k
  | 0 => Nat.le_refl _
  | k + 1 => by
    unfold trimN
    split
    · exact Nat.le_succ_of_le (trimN_le v k)
    · exact Nat.le_refl _
theorem trimN_zero (v : List Nat) : ∀ k i, trimN v k ≤ i → i < k → at_ v i = 0
  | 0, i, _, h => absurd h (by omega)
  | k + 1, i, h1, h2 => by
    unfold trimN at h1
    split at h1
    · rename_i h0
      rcases Nat.lt_or_ge i k with h | h
      · exact trimN_zero v k i h1 h
      · obtain rfl : i = k := by omega
        exact h0
    · omega
/-- The vector without the zeros behind. -/
def trimL (v : List Nat) : List Nat := v.take (trimN v v.length)
theorem trimL_len (v : List Nat) : (trimL v).length = trimN v v.length := by
  unfold trimL
  rw [List.length_take]
  have := trimN_le v v.length
  omega
theorem at_take (v : List Nat) (k i : Nat) : at_ (v.take k) i = if i < k then at_ v i else 0 := by
  unfold at_
  rw [List.getD_eq_getElem?_getD, List.getElem?_take]
  split
  · rw [List.getD_eq_getElem?_getD]
  · rfl
theorem trimL_at (v : List Nat) (i : Nat) : at_ (trimL v) i = at_ v i := by
  unfold trimL
  rw [at_take]
  split
  · rfl
  · rename_i h
    rcases Nat.lt_or_ge i v.length with h' | h'
    · exact (trimN_zero v v.length i (by omega) h').symm
    · exact (at_ge h').symm
theorem trimN_trimmed {v : List Nat} (h : Trimmed v) : trimN v v.length = v.length := by
  rcases h with rfl | h
  · rfl
  · cases hl : v.length with
    | zero => rfl
    | succ k =>
      rw [hl] at h
      unfold trimN
      exact if_neg h
/-- Numbers, as their bytes. -/
def encs (v : List Nat) : List UInt8 := v.flatMap enc
theorem encs_cons (x : Nat) (v : List Nat) : encs (x :: v) = enc x ++ encs v := by simp [encs]
theorem encs_snoc (v : List Nat) (x : Nat) : encs (v ++ [x]) = encs v ++ enc x := by simp [encs]
/-- A vector's bytes. -/
def layL (v : List Nat) : List UInt8 := enc (trimN v v.length) ++ encs (trimL v)
theorem layL_trimmed {v : List Nat} (h : Trimmed v) : layL v = enc v.length ++ encs v := by
  unfold layL trimL
  rw [trimN_trimmed h, List.take_length]
/-- At most 64 numbers, each at most End. -/
def Small (v : List Nat) : Prop := v.length ≤ 64 ∧ ∀ i, at_ v i ≤ 9223372036854775807
theorem small_trim {v : List Nat} (h : Small v) : Small (trimL v) := ⟨by rw [trimL_len]; exact Nat.le_trans (trimN_le _ _) h.1, fun i => by rw [trimL_at]; exact h.2 i⟩

/-- So many numbers. -/
def manyG : Nat → List UInt8 → Got (List Nat)
  | 0, l => .ok [] l
  | k + 1, l => (numG 9223372036854775807 l).bind fun x l' => (manyG k l').bind fun v l'' => .ok (x :: v) l''
/-- A vector, as it stands on a tape. -/
def readG (l : List UInt8) : Got (List Nat) := (numG 64 l).bind fun n l' => manyG n l'
theorem manyG_ok : ∀ (k : Nat) (l r : List UInt8) (v : List Nat), manyG k l = .ok v r → v.length = k ∧ l = encs v ++ r ∧ ∀ i, at_ v i ≤ 9223372036854775807
  | 0, l, r, v, h => by
    injection h with h1 h2
    subst h1; subst h2
    exact ⟨rfl, rfl, fun i => by rw [at_ge (by simp)]; decide⟩
  | k + 1, l, r, v, h => by
    obtain ⟨x, l1, h1, h2⟩ := bind_ok h
    obtain ⟨u, l2, h3, h4⟩ := bind_ok h2
    injection h4 with h5 h6
    subst h5; subst h6
    obtain ⟨e1, e2⟩ := numG_enc h1
    obtain ⟨e3, e4, e5⟩ := manyG_ok k l1 l2 u h3
    refine ⟨by simp [e3], by rw [e1, e4, encs_cons, List.append_assoc], fun i => ?_⟩
    cases i with
    | zero => exact e2
    | succ i => exact e5 i
theorem readG_ok {l r : List UInt8} {v : List Nat} (h : readG l = .ok v r) : Small v ∧ l = enc v.length ++ (encs v ++ r) := by
  obtain ⟨n, l1, h1, h2⟩ := bind_ok h
  obtain ⟨e1, e2⟩ := numG_enc h1
  obtain ⟨e3, e4, e5⟩ := manyG_ok n l1 r v h2
  subst e3
  exact ⟨⟨e2, e5⟩, by rw [e1, e4]⟩
theorem encs_len (v : List Nat) (h : ∀ i, at_ v i < 18446744073709551616) : (encs v).length ≤ 10 * v.length := by
  induction v with
  | nil => exact Nat.le_refl _
  | cons x v ih =>
    have h1 := enc_ten (n := x) (h 0)
    have h2 := ih fun i => h (i + 1)
    rw [encs_cons, List.length_append, List.length_cons]
    omega
theorem layL_len {v : List Nat} (h : Small v) : (layL v).length ≤ 700 := by
  have hs := small_trim h
  have h1 := encs_len (trimL v) fun i => by have := hs.2 i; omega
  have h2 := enc_ten (n := trimN v v.length) (by have := trimN_le v v.length; have := h.1; omega)
  have h3 := hs.1
  unfold layL
  rw [List.length_append]
  omega
end Go.Proofs.YthdflbpmabcjlaaDoor.Vec
namespace Go.Proofs.YthdflbpmabcjlaaDoor.Vec
open Go Go.RowKit Go.Proofs.YthdflbpmabcjlaaDoor.Words Go.Proofs.YthdflbpmabcjlaaDoor.Enc Go.Proofs.YthdflbpmabcjlaaDoor.Made
set_option linter.unusedVariables false
set_option linter.unusedSimpArgs false

theorem trimN_yes {v : List Nat} {k : Nat} (h : at_ v k = 0) : trimN v (k + 1) = trimN v k := if_pos h
theorem trimN_no {v : List Nat} {k : Nat} (h : at_ v k ≠ 0) : trimN v (k + 1) = k + 1 := if_neg h
theorem encs_take (v : List Nat) (i : Nat) (h : i < v.length) : encs (v.take (i + 1)) = encs (v.take i) ++ enc (at_ v i) := by
  rw [List.take_add_one, at_lt h, Option.toList_some, encs_snoc]

set_option maxRecDepth 100000 in
set_option maxHeartbeats 1000000 in
theorem refLayV_any (Q A : Option Addr) (pn pc n c : Nat) (p : List UInt8) (v : List Nat) (w : World) (hp : Sees w Q pn p) (hv : SeesU w A n v) (hs : Small v) (hpn : pn ≤ 100000) :
    Calls Tryd.prog 13 #[.slice Q pn pc, .slice A n c] w (New w.heap.size (pn + (layL v).length) (p ++ layL v) w) := by
  have hn : n ≤ 64 := by rw [← hv.1]; exact hs.1
  obtain ⟨K, hK⟩ : ∃ K, K = trimN v n := ⟨_, rfl⟩
  have hKn : K ≤ n := by rw [hK]; exact trimN_le v n
  have hlay : layL v = enc K ++ encs (v.take K) := by unfold layL trimL; rw [hv.1, ← hK]
  have HLAY := Lib.hid hlay
  have HK := Lib.hid hK.symm
  clear hlay hK
  go_enter Tryd.func13, Tryd.ntmps13
  go_wp2_with fail
  go_loopw [5] (fun x wr => ∃ j : Nat, x = .int .i64 (j : Int) ∧ j ≤ n ∧ Hid (trimN v j = K) ∧ w = wr) (fun x _ => (intOf x).toNat)
  case atStart => exact ⟨n, rfl, Nat.le_refl _, HK, rfl⟩
  case round =>
    obtain ⟨j, rfl, hj, HJ, rfl⟩ := hrel
    have rest : j = K → _ := fun h => h
    by_cases h0 : ∃ k, j = k + 1 ∧ at_ v k = 0
    · obtain ⟨k, rfl, hz⟩ := h0
      obtain ⟨g, o, rfl, hcell⟩ := hv.get (j := k) (by omega)
      rw [hz] at hcell
      have HJ' := Lib.hid (by rw [← trimN_yes hz]; exact HJ.out : trimN v k = K)
      clear hz HJ
      go_wp2
      go_roundw
      case rel => exact ⟨k, by simp, by omega, HJ', by trivial⟩
      case measure => simp [intOf]
    · have hjK : j = K := by
        cases j with
        | zero => exact HJ.out
        | succ k => rw [← HJ.out, trimN_no fun h => h0 ⟨k, rfl, h⟩]
      subst hjK
      by_cases hj0 : j = 0
      · subst hj0
        clear h0
        go_wp2_with fail
        refine (refLay_any Q pn pc p 0 w hp (by omega) (by omega) (by omega)).mono ?_
        rintro e w1 ⟨P1, c1, rfl, own1, b1⟩
        rw [show (0 : Int).toNat = 0 from rfl] at own1 ⊢
        obtain ⟨L1, hL1⟩ : ∃ L1, L1 = (enc 0).length := ⟨_, rfl⟩
        have hL1' : L1 ≤ 10 := by rw [hL1]; exact enc_ten (by omega)
        have OWN1 := Lib.hid own1
        have HL1 := Lib.hid hL1
        clear own1
        rw [← hL1]
        clear hL1
        go_wp2_with fail
        go_loopw [0, 6] (fun x y wr => ∃ (P' : Option Addr) (c' M i : Nat), x = .slice P' M c' ∧ y = .int .i64 (i : Int) ∧ i ≤ 0 ∧ M ≤ pn + 10 + 10 * i ∧ Hid (M = (p ++ (enc 0 ++ encs (v.take i))).length) ∧
          wr.ownsRow w.heap.size 5 1 (.slice P' M c') M (cs (p ++ (enc 0 ++ encs (v.take i)))) ∧ Below w.heap.size w wr) (fun _ y _ => 0 - (intOf y).toNat)
        case atStart => exact ⟨P1, c1, pn + L1, 0, rfl, rfl, by omega, by omega, by rw [HL1.out]; simp [encs, Hid, hp.1], by rw [HL1.out]; simpa [encs] using OWN1.out, b1⟩
        case round =>
          obtain ⟨P', c', M, i, rfl, rfl, hi, hM, HM, own, bb⟩ := hrel
          obtain rfl : i = 0 := by omega
          rw [← HLAY.out] at own HM
          go_wp2
          go_ret
          have hMM : M = pn + (layL v).length := by rw [HM.out, List.length_append, hp.1]
          subst hMM
          exact ⟨P', c', rfl, own, bb⟩
      · obtain ⟨g, o, rfl, hcell⟩ := hv.get (j := j - 1) (by omega)
        have hne : at_ v (j - 1) ≠ 0 := fun h => h0 ⟨j - 1, by omega, h⟩
        generalize at_ v (j - 1) = z at hcell hne
        have z1 : ((z : Int) == 0) = false := by rw [beq_eq_false_iff_ne]; omega
        clear hne h0
        go_wp2_with fail
        refine (refLay_any Q pn pc p (j : Int) w hp (by omega) (by omega) (by omega)).mono ?_
        rintro e w1 ⟨P1, c1, rfl, own1, b1⟩
        rw [Int.toNat_natCast] at own1 ⊢
        obtain ⟨L1, hL1⟩ : ∃ L1, L1 = (enc j).length := ⟨_, rfl⟩
        have hL1' : L1 ≤ 10 := by rw [hL1]; exact enc_ten (by omega)
        have OWN1 := Lib.hid own1
        have HL1 := Lib.hid hL1
        clear own1
        rw [← hL1]
        clear hL1
        go_wp2_with fail
        go_loopw [0, 6] (fun x y wr => ∃ (P' : Option Addr) (c' M i : Nat), x = .slice P' M c' ∧ y = .int .i64 (i : Int) ∧ i ≤ j ∧ M ≤ pn + 10 + 10 * i ∧ Hid (M = (p ++ (enc j ++ encs (v.take i))).length) ∧
          wr.ownsRow w.heap.size 5 1 (.slice P' M c') M (cs (p ++ (enc j ++ encs (v.take i)))) ∧ Below w.heap.size w wr) (fun _ y _ => j - (intOf y).toNat)
        case atStart => exact ⟨P1, c1, pn + L1, 0, rfl, rfl, by omega, by omega, by rw [HL1.out]; simp [encs, Hid, hp.1], by rw [HL1.out]; simpa [encs] using OWN1.out, b1⟩
        case round =>
          obtain ⟨P', c', M, i, rfl, rfl, hi, hM, HM, own, bb⟩ := hrel
          by_cases hlt : i < j
          · have hcell := (hv.below bb).cell (j := i) (by omega)
            have hx := hs.2 i
            have hst := encs_take v i (by have := hv.1; omega)
            have HST := Lib.hid hst
            clear hst
            generalize at_ v i = x at hcell hx HST
            have hbw := bb.size
            go_wp2_with fail
            refine (refLay_any P' M c' _ (x : Int) wr (Sees.of_own own) (by omega) (by omega) (by omega)).mono ?_
            rintro e w2 ⟨P2, c2, rfl, own2, b2⟩
            rw [Int.toNat_natCast] at own2 ⊢
            have hl2 : (enc x).length ≤ 10 := enc_ten (by omega)
            have own2 := Own.lower own2 hbw
            have e2 : p ++ (enc j ++ encs (v.take i)) ++ enc x = p ++ (enc j ++ encs (v.take (i + 1))) := by rw [HST.out]; simp only [List.append_assoc]
            rw [e2] at own2
            have HM2 := Lib.hid (show M + (enc x).length = (p ++ (enc j ++ encs (v.take (i + 1)))).length by rw [← e2, List.length_append, ← HM.out])
            have b22 := bb.trans (b2.mono hbw)
            clear e2 own b2
            generalize (enc x).length = X at own2 HM2 hl2 ⊢
            go_wp2
            go_roundw
            case rel => exact ⟨P2, c2, M + X, i + 1, rfl, by simp, by omega, by omega, HM2, own2, b22⟩
            case measure => simp [intOf]; omega
          · obtain rfl : i = j := by omega
            rw [← HLAY.out] at own HM
            go_wp2
            go_ret
            have hMM : M = pn + (layL v).length := by rw [HM.out, List.length_append, hp.1]
            subst hMM
            exact ⟨P', c', rfl, own, bb⟩
end Go.Proofs.YthdflbpmabcjlaaDoor.Vec
namespace Go.Proofs.YthdflbpmabcjlaaDoor.Vec
open Go Go.RowKit Go.Proofs.YthdflbpmabcjlaaDoor.Words
set_option linter.unusedVariables false
set_option linter.unusedSimpArgs false

/-- A vector that is handed back: seen, trimmed, at most so long, with these numbers. -/
def Gives (w : World) (most : Nat) (f : Nat → Nat) (e : Ending) (w' : World) : Prop :=
  ∃ R k rc l, e = .returned (.slice R k rc) ∧ SeesU w' R k l ∧ k ≤ rc ∧ rc ≤ 9223372036854775807 ∧ k ≤ most ∧ Trimmed l ∧ (∀ i, at_ l i = f i) ∧ Below w.heap.size w w'
def Took2 (w : World) (A : Option Addr) (n c : Nat) (a : List Nat) : Prop := SeesU w A n a ∧ Fits a ∧ n ≤ c ∧ c ≤ 9223372036854775807 ∧ n ≤ 900000
theorem Took2.below {w w' : World} {A : Option Addr} {n c : Nat} {a : List Nat} (h : Took2 w A n c a) (hb : Below w.heap.size w w') : Took2 w' A n c a := ⟨h.1.below hb, h.2⟩
theorem SeesU.new (w : World) (l : List Nat) (T : TypeId) : SeesU (w.alloc (.cells (us l).toArray T)) (some ⟨w.heap.size, 0, none⟩) l.length l :=
  ⟨rfl, fun _ => ⟨w.heap.size, 0, rfl, fun j x hx => by
    rw [Nat.zero_add, cell_of_row _ w.heap.size _ _ _ _ (heap_alloc_new w (.cells (us l).toArray T))]
    have := us_get hx
    simpa using this⟩⟩
theorem Took2.new (w : World) (l : List Nat) (T : TypeId) (k : Nat) (hk : l.length = k) (hf : Fits l) (hl : k ≤ 900000) : Took2 (w.alloc (.cells (us l).toArray T)) (some ⟨w.heap.size, 0, none⟩) k k l := by
  subst hk
  exact ⟨SeesU.new w l T, hf, Nat.le_refl _, by omega, hl⟩
end Go.Proofs.YthdflbpmabcjlaaDoor.Vec
namespace Go.Proofs.YthdflbpmabcjlaaDoor.Vec
open Go Go.RowKit Go.Proofs.YthdflbpmabcjlaaDoor.Words Go.Proofs.YthdflbpmabcjlaaDoor.Enc Go.Proofs.YthdflbpmabcjlaaDoor.Made Go.Proofs.YthdflbpmabcjlaaDoor.Tape
set_option linter.unusedVariables false
set_option linter.unusedSimpArgs false

theorem info64 : (Tryd.prog.info? 22).map (fun i => (i.zero, i.size, i.bytes)) = some (some (.int .u64 0), 1, 8) := by kernel_rfl
/-! Two vectors, number by number, by a function that is handed over. -/
def uRow (kk : Nat) : Array Value := madeCells #[.int .u64 0] kk
theorem uRow_list (kk : Nat) : (uRow kk).toList = us (List.replicate kk 0) := by
  unfold uRow us
  rw [toList_madeCells_one]
  simp
theorem uRow_own (W : World) (kk : Nat) (hk : kk ≤ 3000000) : (W.alloc (.cells (uRow kk) 22)).ownsRow W.heap.size 22 1 (.slice (some ⟨W.heap.size, 0, none⟩) kk kk) kk (us (List.replicate kk 0)) := by
  have := World.ownsRow_lit (base := W.heap.size) (e := 22) (size := 1) W (uRow kk) kk (Nat.le_refl _) (by unfold maxLen; omega) (by rw [← Array.length_toList, uRow_list]; simp [us])
  rw [uRow_list] at this
  exact this
end Go.Proofs.YthdflbpmabcjlaaDoor.Vec
namespace Go.Proofs.YthdflbpmabcjlaaDoor.Vec
open Go Go.RowKit Go.Proofs.YthdflbpmabcjlaaDoor.Words Go.Proofs.YthdflbpmabcjlaaDoor.Enc Go.Proofs.YthdflbpmabcjlaaDoor.Made Go.Proofs.YthdflbpmabcjlaaDoor.Tape
set_option linter.unusedVariables false
set_option linter.unusedSimpArgs false

theorem below_drewN (w : World) (k : Nat) : Below w.heap.size w (w.drewN k) := by
  have := Below.refl w.heap.size w
  exact ⟨this.os, this.tape, this.output, this.size, this.block⟩
end Go.Proofs.YthdflbpmabcjlaaDoor.Vec
namespace Go.Proofs.YthdflbpmabcjlaaDoor.Vec
open Go Go.RowKit Go.Proofs.YthdflbpmabcjlaaDoor.Words Go.Proofs.YthdflbpmabcjlaaDoor.Enc Go.Proofs.YthdflbpmabcjlaaDoor.Made Go.Proofs.YthdflbpmabcjlaaDoor.Tape
set_option linter.unusedVariables false
set_option linter.unusedSimpArgs false

theorem SeesU.beside {S : List Nat} {w w' : World} {A : Option Addr} {n : Nat} {l : List Nat} (h : SeesU w A n l) (hb : Beside S w w') (hS : Out S A n) : SeesU w' A n l := by
  refine ⟨h.1, fun hn => ?_⟩
  obtain ⟨b, o, hA, hc⟩ := h.2 hn
  exact ⟨b, o, hA, fun j u hu => hb.cell (hc j u hu) (show b ∉ S from hS hn _ hA)⟩
theorem Took2.beside {S : List Nat} {w w' : World} {A : Option Addr} {n c : Nat} {a : List Nat} (h : Took2 w A n c a) (hb : Beside S w w') (hS : Out S A n) : Took2 w' A n c a := ⟨h.1.beside hb hS, h.2⟩
end Go.Proofs.YthdflbpmabcjlaaDoor.Vec
namespace Go.Proofs.YthdflbpmabcjlaaDoor.Vec
open Go Go.RowKit Go.Proofs.YthdflbpmabcjlaaDoor.Words Go.Proofs.YthdflbpmabcjlaaDoor.Enc Go.Proofs.YthdflbpmabcjlaaDoor.Made Go.Proofs.YthdflbpmabcjlaaDoor.Tape
set_option linter.unusedVariables false
set_option linter.unusedSimpArgs false

theorem own_beside {w w' : World} {S : List Nat} {base : Nat} {e : TypeId} {v : Value} {n : Nat} {xs : List Value} (h : w.ownsRow base e 1 v n xs) (hb : Beside S w w') (hS : ∀ x ∈ S, x < base) : w'.ownsRow base e 1 v n xs := by
  refine ⟨h.1, ?_⟩
  rcases h.2 with hn | ⟨g, cap, cur, hv, hg, hh, r⟩
  · exact .inl hn
  · exact .inr ⟨g, cap, cur, hv, hg, by rw [hb.block g (Array.getElem?_eq_some_iff.1 hh).1 (fun hx => by have := hS g hx; omega)]; exact hh, r⟩
theorem set_next (xs : List Nat) (k x : Nat) : (us (xs ++ List.replicate (k + 1) 0)).set xs.length (.int .u64 (x : Int)) = us ((xs ++ [x]) ++ List.replicate k 0) := by
  rw [List.replicate_succ]
  simp [us]

theorem make_u64 (W : World) (kk : Nat) (hk : kk ≤ 3000000) : (Instr.makeSlice 33 (.int .u64 (kk : Int)) (.int .u64 (kk : Int))).run Tryd.prog W = .ok (.slice (some ⟨W.heap.size, 0, none⟩) kk kk) (W.alloc (.cells (uRow kk) 22)) := by
  have hi := info64
  cases hc : Tryd.prog.info? 22 with
  | none => rw [hc] at hi; cases hi
  | some i =>
    rw [hc] at hi
    simp only [Option.map_some, Option.some.injEq, Prod.mk.injEq] at hi
    obtain ⟨hz, hsz, hby⟩ := hi
    have := run_make (P := Tryd.prog) W 33 22 i (.int .u64 0) Tryd.underlying33 hc hz .u64 .u64 (kk : Int) (kk : Int) (by omega) (Int.le_refl _) (by rw [hby]; omega) (by omega)
    rw [this, hsz]
    simp only [Int.toNat_natCast, Nat.mul_one]
    rfl
/-- As ReadGives; the numbers lie in a row of their own. -/
def ReadOwns (PA : Option Addr) (PN : Nat) (L : List UInt8) (t : Nat) (g : Got (List Nat)) (w : World) (e : Ending) (w' : World) : Prop :=
  match g with
  | .bad E => e = fault E ∧ Beside [t] w w'
  | .ok v r => ∃ R k rc, e = .returned (.slice R k rc) ∧ w'.ownsRow w.heap.size 22 1 (.slice R k rc) k (us v) ∧ k ≤ rc ∧ rc ≤ 9223372036854775807 ∧ TapeOn PA PN L w' t r ∧ Beside [t] w w'
set_option maxRecDepth 100000 in
set_option maxHeartbeats 2000000 in
theorem read_own (PA : Option Addr) (PN : Nat) (L : List UInt8) (t : Nat) (l : List UInt8) (w : World) (ht : TapeOn PA PN L w t l) (hP : Sees w PA PN L) (hll : l.length ≤ 100000) :
    Calls Tryd.prog 65 #[.pointer (some ⟨t, 0, none⟩)] w (ReadOwns PA PN L t (readG l) w) := by
  have htl := ht.lt
  have hout : Out [t] PA PN := by
    obtain ⟨A', n', c', hb', -⟩ := ht
    exact sees_off hb' hP
  have SEE : Hid (∀ W, Beside [t] w W → Sees W PA PN L) := Lib.hid fun W hb => hP.beside hb hout
  obtain ⟨G, hG⟩ : ∃ G, G = readG l := ⟨_, rfl⟩
  rw [← hG]
  have HG := Lib.hid hG
  clear hG
  go_enter Tryd.func65, Tryd.ntmps65
  cases g1 : numG 64 l with
  | bad E =>
    go_wp2_with fail
    refine (num_bad t 64 E l w (ht.at_ hP) (by omega) g1).mono ?_
    rintro e w1 ⟨rfl, hbb⟩
    have HB := Lib.hid hbb
    have hbad : G = .bad E := by rw [HG.out]; simp only [readG, g1, Got.bind]
    subst hbad
    clear ht hP hbb g1 HG
    unfold fault
    go_wp2
    exact ⟨rfl, rfl, HB.out⟩
  | ok N l1 =>
    have hGN : G = manyG N l1 := by rw [HG.out]; simp only [readG, g1, Got.bind]
    have hN64 : N ≤ 64 := (numG_enc g1).2
    have hl1 : l1.length ≤ l.length := by rw [(numG_enc g1).1]; simp
    have HGN := Lib.hid hGN
    have hmk := fun W => make_u64 W N (by omega)
    go_wp2_with fail
    refine (num_ok t 64 N l l1 w ht hP (by omega) g1).mono ?_
    rintro e w1 ⟨rfl, ht1, be1⟩
    clear ht hP g1 HG hGN
    have hw : IntKind.i64.wrap (N : Int) = (N : Int) := IntWalk.i64_in _ (by omega)
    go_wp2_with fail
    have hbe : Beside [t] w (w1.alloc (.cells (uRow N) 22)) := be1.alloc _
    have hz1 := be1.size
    have own0 : (w1.alloc (.cells (uRow N) 22)).ownsRow w.heap.size 22 1 (.slice (some ⟨w1.heap.size, 0, none⟩) N N) N (us (List.replicate N 0)) := Own.lower (uRow_own w1 N (by omega)) hz1
    have ht2 := ht1.keep (w' := w1.alloc (.cells (uRow N) 22)) (Below.heap_alloc _ _ _ (by have := be1.size; omega))
    generalize w1.alloc (.cells (uRow N) 22) = w2 at hbe own0 ht2 ⊢
    clear ht1 be1 hmk
    generalize w1.heap.size = g at own0 hz1 ⊢
    go_loopw [10] (fun v wr => ∃ (j : Nat) (xs : List Nat) (r : List UInt8), v = .int .i64 (j : Int) ∧ j ≤ N ∧ r.length ≤ l.length ∧ Hid (xs.length = j ∧ G = (manyG (N - j) r).bind fun u q => .ok (xs ++ u) q) ∧
      wr.ownsRow w.heap.size 22 1 (.slice (some ⟨g, 0, none⟩) N N) N (us (xs ++ List.replicate (N - j) 0)) ∧ TapeOn PA PN L wr t r ∧ Beside [t] w wr) (fun v _ => N - (intOf v).toNat)
    case atStart => exact ⟨0, [], l1, rfl, by omega, hl1, ⟨rfl, by rw [HGN.out]; cases manyG N l1 <;> rfl⟩, own0, ht2, hbe⟩
    case round =>
      obtain ⟨j, xs, r, rfl, hj, hr, HX, own, ht, hb⟩ := hrel
      have hPr := SEE.out wr hb
      by_cases hlt : j < N
      · have h1 : (j : Int) < (N : Int) := by omega
        obtain ⟨k, hk⟩ : ∃ k, N - j = k + 1 := ⟨N - j - 1, by omega⟩
        cases gx : numG 9223372036854775807 r with
        | bad E =>
          have hbad : G = .bad E := by rw [HX.out.2, hk]; simp only [manyG, gx, Got.bind]
          have NB := Lib.hid (num_bad t 9223372036854775807 E r wr (ht.at_ hPr) (by omega) gx)
          clear own ht hPr gx HX hk
          go_wp2_with fail
          refine NB.out.mono ?_
          rintro e w3 ⟨rfl, hbb⟩
          have HB := Lib.hid (hb.trans hbb fun x hx => .inl hx)
          subst hbad
          clear hb hbb
          unfold fault
          go_wp2
          exact ⟨rfl, rfl, HB.out⟩
        | ok x r1 =>
          have NB := Lib.hid (num_ok t 9223372036854775807 x r r1 wr ht hPr (by omega) gx)
          have hr1 : r1.length ≤ l.length := by
            have := (numG_enc gx).1
            rw [this, List.length_append] at hr
            omega
          have HX2 : Hid ((xs ++ [x]).length = j + 1 ∧ G = (manyG (N - (j + 1)) r1).bind fun u q => .ok ((xs ++ [x]) ++ u) q) := Lib.hid ⟨by simp [HX.out.1], by
            rw [HX.out.2, hk, show N - (j + 1) = k by omega]
            simp only [manyG, gx, Got.bind]
            cases manyG k r1 with
            | bad E => rfl
            | ok u q => simp [Got.bind]⟩
          have OWN := Lib.hid own
          clear own ht hPr gx
          go_wp2_with fail
          refine NB.out.mono ?_
          rintro e w3 ⟨rfl, ht3, hbb⟩
          have hb3 := hb.trans hbb fun x hx => .inl hx
          have own3 := own_beside OWN.out hbb (by simp; omega)
          have hcell : w3.cell? ⟨g, j, none⟩ = some (.int .u64 (at_ (xs ++ List.replicate (N - j) 0) j : Int)) := by
            rw [own3.cellAt j (by omega), us_get (at_lt (by simp [HX.out.1]; omega))]
          have hfr : w3.frozen? ⟨g, j, none⟩ = false := own3.frozenAt j
          have hst := own3.stored j (.int .u64 (x : Int))
          have hset := set_next xs k x
          rw [HX.out.1] at hset
          rw [hk, hset, show k = N - (j + 1) by omega] at hst
          have hgt : w.heap.size ≤ g := by omega
          have hb4 := hb3.setNew (p := ⟨g, j, none⟩) hgt (.int .u64 (x : Int))
          have ht4 := ht3.keep (heapOther (v := .int .u64 (x : Int)) (i := j) (show t ≠ g by omega))
          have FIN := Lib.hid (And.intro hst.1 (And.intro ht4 hb4))
          generalize at_ (xs ++ List.replicate (N - j) 0) j = u at hcell
          clear hst hset hb4 ht4 own3 hb3 hbb hb ht3 NB HX hk
          go_wp2
          go_roundw
          case rel => exact ⟨j + 1, xs ++ [x], r1, by simp, by omega, hr1, HX2, FIN.out.1, FIN.out.2.1, FIN.out.2.2⟩
          case measure => simp [intOf]; omega
      · obtain rfl : j = N := by omega
        have hG2 : G = .ok xs r := by rw [HX.out.2, Nat.sub_self]; simp [manyG, Got.bind]
        rw [Nat.sub_self, List.replicate_zero, List.append_nil] at own
        have FIN := Lib.hid (And.intro own (And.intro ht hb))
        subst hG2
        clear own ht hb HX
        go_wp2
        go_ret
        exact ⟨_, _, _, rfl, FIN.out.1, Nat.le_refl _, by omega, FIN.out.2.1, FIN.out.2.2⟩
end Go.Proofs.YthdflbpmabcjlaaDoor.Vec
