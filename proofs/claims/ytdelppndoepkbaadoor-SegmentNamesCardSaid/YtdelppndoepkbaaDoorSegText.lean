/- Names of segments: hexadecimal digits, decimal ones, and back: plain lists, no program. -/
import Derived.Test.YtdelppndoepkbaaDoorEnc
import Derived.Test.YtdelppndoepkbaaDoorDiskNamed
import Derived.Lib.AtoiAll
import Derived.Lib.ItoaNum
import Derived.Lib.Bytealg
import Derived.Lib.Strings
namespace Go.Proofs.YtdelppndoepkbaaDoor.Seg
open Go Go.RowKit Go.Proofs.YtdelppndoepkbaaDoor.Words Go.Proofs.YtdelppndoepkbaaDoor.Enc Go.Proofs.YtdelppndoepkbaaDoor.Dsk
set_option linter.unusedVariables false

def hexD (d : Nat) : UInt8 := if d < 10 then b8 (48 + d) else b8 (87 + d)
def hexP : Nat → Nat → List UInt8
  | 0, _ => []
  | k + 1, u => hexP k (u / 16) ++ [hexD (u % 16)]
theorem hexP_length : ∀ k u, (hexP k u).length = k
  | 0, _ => rfl
  | k + 1, u => by simp [hexP, hexP_length k]
theorem hexP_cons : ∀ k u, hexP (k + 1) u = hexD (u / 16 ^ k % 16) :: hexP k u
  | 0, u => by simp [hexP]
  | k + 1, u => by
    have h := hexP_cons k (u / 16)
    rw [Nat.div_div_eq_div_mul, ← Nat.pow_succ'] at h
    show hexP (k + 1) (u / 16) ++ [hexD (u % 16)] = _
    rw [h]
    rfl
theorem hexP_zero : ∀ k, hexP k 0 = List.replicate k 48
  | 0 => rfl
  | k + 1 => by
    show hexP k 0 ++ [48] = _
    rw [hexP_zero k, List.replicate_succ']
theorem hexP_pad : ∀ k j u, u < 16 ^ k → hexP (j + k) u = List.replicate j 48 ++ hexP k u
  | 0, j, u, h => by
    have : u = 0 := by simp at h; omega
    subst this
    simp [hexP_zero, hexP]
  | k + 1, j, u, h => by
    show hexP (j + k) (u / 16) ++ [hexD (u % 16)] = _ ++ (hexP k (u / 16) ++ [hexD (u % 16)])
    rw [hexP_pad k j (u / 16) (by rw [Nat.pow_succ] at h; omega), List.append_assoc]
theorem hexP_get {k u j : Nat} (h : j < k) : (hexP k u)[j]? = some (hexD (u / 16 ^ (k - 1 - j) % 16)) := by
  induction k generalizing j with
  | zero => omega
  | succ k ih =>
    rw [hexP_cons]
    cases j with
    | zero => simp
    | succ j =>
      simp only [List.getElem?_cons_succ]
      rw [ih (by omega)]
      congr 5
      omega
theorem hexD_ok : ∀ d : Fin 16, okB (hexD d.val).toNat = true := by decide +kernel
theorem hexP_ok : ∀ k u, (hexP k u).all (fun b => okB b.toNat) = true
  | 0, _ => rfl
  | k + 1, u => by
    simp only [hexP, List.all_append, List.all_cons, List.all_nil, Bool.and_true, Bool.and_eq_true]
    exact ⟨hexP_ok k _, hexD_ok ⟨u % 16, Nat.mod_lt _ (by decide)⟩⟩

/-- Decimal digits of a small number. -/
def dig3 (n : Nat) : List UInt8 := if n < 10 then [UInt8.ofNat (48 + n)] else if n < 100 then [UInt8.ofNat (48 + n / 10), UInt8.ofNat (48 + n % 10)] else [UInt8.ofNat (48 + n / 100), UInt8.ofNat (48 + n / 10 % 10), UInt8.ofNat (48 + n % 10)]
theorem itoa_dig3 {n : Nat} (h : n < 256) : Lib.itoa (n : Int) = dig3 n := by
  unfold Lib.itoa
  rw [if_neg (by omega), Int.toNat_natCast]
  unfold dig3
  by_cases h1 : n < 10
  · rw [if_pos h1, Lib.decDigits_one h1]
  · rw [if_neg h1]
    by_cases h2 : n < 100
    · rw [if_pos h2, Lib.decDigits_two h1 h2]
    · rw [if_neg h2, Lib.decDigits, dif_neg h1, Lib.decDigits_two (by omega) (by omega)]
      have : n / 10 / 10 = n / 100 := by omega
      rw [this]
      rfl
theorem dig3_facts : ∀ n : Fin 256, Lib.atoiAll (dig3 n.val) = .ok (n.val : Int) ∧ (dig3 n.val).all (fun b => okB b.toNat && decide (b ≠ 45)) = true ∧ 1 ≤ (dig3 n.val).length ∧ (dig3 n.val).length ≤ 3 := by decide +kernel

/-- How the names of a writer's segments begin, and such a name. -/
def beginL (x : Int) : List UInt8 := [102, 101, 101, 100, 45] ++ (Lib.itoa x ++ [45])
def nameL (x : Int) (u : Nat) : List UInt8 := beginL x ++ hexP 16 u
theorem begin_len {n : Nat} (h : n < 256) : 7 ≤ (beginL (n : Int)).length ∧ (beginL (n : Int)).length ≤ 9 := by
  obtain ⟨_, _, h3, h4⟩ := dig3_facts ⟨n, h⟩
  simp only [beginL, itoa_dig3 h, List.length_append, List.length_cons, List.length_nil]
  simp only at h3 h4
  omega
theorem name_len {n u : Nat} (h : n < 256) : 23 ≤ (nameL (n : Int) u).length ∧ (nameL (n : Int) u).length ≤ 25 := by
  have := begin_len h
  simp only [nameL, List.length_append, hexP_length]
  omega
theorem name_ok {n u : Nat} (h : n < 256) : okName (nameL (n : Int) u) = true := by
  obtain ⟨_, h2, _, _⟩ := dig3_facts ⟨n, h⟩
  have hl := name_len (u := u) h
  have hh := hexP_ok 16 u
  have h5 : okB (45 : UInt8).toNat = true ∧ okB (102 : UInt8).toNat = true ∧ okB (101 : UInt8).toNat = true ∧ okB (100 : UInt8).toNat = true := by decide +kernel
  simp only [okName, Bool.and_eq_true, decide_eq_true_eq]
  refine ⟨⟨by omega, by omega⟩, ?_⟩
  rw [List.all_eq_true] at h2 hh ⊢
  intro b hb
  simp only [nameL, beginL, itoa_dig3 h, List.mem_append, List.mem_cons, List.not_mem_nil, or_false] at hb
  rcases hb with ((rfl | rfl | rfl | rfl | rfl) | hb | rfl) | hb
  · exact h5.2.1
  · exact h5.2.2.1
  · exact h5.2.2.1
  · exact h5.2.2.2
  · exact h5.1
  · have := h2 b hb
    simp only [Bool.and_eq_true] at this
    exact this.1
  · exact h5.1
  · exact hh b hb
/-- What stands behind 'feed-', cut at the first '-'. -/
theorem indexByte_at : ∀ (l r : List UInt8), (∀ b ∈ l, b ≠ 45) → Lib.indexByte (l ++ 45 :: r) 45 = (l.length : Int)
  | [], r, _ => by simp [Lib.indexByte]
  | a :: l, r, h => by
    have h1 := indexByte_at l r fun b hb => h b (List.mem_cons_of_mem _ hb)
    have h2 : (a == 45) = false := by have := h a (List.mem_cons_self ..); simpa using this
    simp only [List.cons_append, Lib.indexByte, h2, h1]
    rw [if_neg (by simp), if_neg (by simp <;> omega)]
    simp
theorem dig3_no45 {n : Nat} (h : n < 256) : ∀ b ∈ dig3 n, b ≠ 45 := by
  obtain ⟨_, h2, _, _⟩ := dig3_facts ⟨n, h⟩
  rw [List.all_eq_true] at h2
  intro b hb
  have := h2 b hb
  simp only [Bool.and_eq_true, decide_eq_true_eq] at this
  exact this.2
theorem hexD_cases : ∀ d : Fin 16, (d.val < 10 ∧ (hexD d.val).toNat = 48 + d.val) ∨ (10 ≤ d.val ∧ (hexD d.val).toNat = 87 + d.val) := by decide +kernel
end Go.Proofs.YtdelppndoepkbaaDoor.Seg
