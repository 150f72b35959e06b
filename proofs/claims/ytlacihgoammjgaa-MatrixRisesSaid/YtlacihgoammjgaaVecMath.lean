/- A vector's bytes, as plain data, and what is read of bytes. -/
import Derived.Test.YtlacihgoammjgaaBCheck
import Derived.Test.YtlacihgoammjgaaVec
namespace Go.Proofs.Ytlacihgoammjgaa.Vec
open Go Go.RowKit Go.Proofs.Ytlacihgoammjgaa.Words Go.Proofs.Ytlacihgoammjgaa.Enc Go.Proofs.Ytlacihgoammjgaa.Tape
set_option linter.unusedVariables false
set_option linter.unusedSimpArgs false

theorem numG_enc {most N : Nat} {l rest : List UInt8} (h : numG most l = .ok N rest) : l = enc N ++ rest ∧ N ≤ most := by
  obtain ⟨h1, h2, h3, rfl⟩ := numG_ok h
  have h4 := @Take.tk_one l (tk 0 0 l).1 (tk 0 0 l).2.1 (Prod.ext rfl (Prod.ext rfl h1))
  refine ⟨?_, by omega⟩
  rw [← h2, ← h4.1, List.take_append_drop]
theorem numG_of {most N : Nat} (hN : N ≤ most) (h64 : N < 18446744073709551616) (r : List UInt8) : numG most (enc N ++ r) = .ok N r := by
  unfold numG
  rw [tk_lay N h64 r]
  simp only
  rw [if_neg (by simp), if_neg (by omega), List.drop_left]
theorem tk_errs : ∀ (l : List UInt8) (i n : Nat), (tk i n l).2.2 = 0 ∨ (tk i n l).2.2 = 4 ∨ (tk i n l).2.2 = 5
  | [], i, n => .inr (.inr rfl)
  | b :: r, i, n => by
    unfold tk
    split
    · exact .inr (.inl rfl)
    · split
      · exact .inl rfl
      · exact tk_errs r _ _
theorem numG_errs {most E : Nat} {l : List UInt8} (h : numG most l = .bad E) : E = 4 ∨ E = 5 ∨ E = 6 := by
  have := tk_errs l 0 0
  rcases numG_bad h with ⟨h1, h2⟩ | ⟨-, -, h2⟩ <;> omega
theorem bind_bad {α β : Type} {g : Got α} {f : α → List UInt8 → Got β} {E : Nat} (h : g.bind f = .bad E) : g = .bad E ∨ ∃ a r, g = .ok a r ∧ f a r = .bad E := by
  cases g with
  | bad E' => left; simpa [Got.bind] using h
  | ok a r => exact .inr ⟨a, r, rfl, h⟩
theorem bind_ok {α β : Type} {g : Got α} {f : α → List UInt8 → Got β} {b : β} {r : List UInt8} (h : g.bind f = .ok b r) : ∃ a q, g = .ok a q ∧ f a q = .ok b r := by
  cases g with
  | bad E' => cases h
  | ok a q => exact ⟨a, q, rfl, h⟩

/-- How many numbers of the first k are left without the zeros behind. -/
def trimN (v : List Nat) : Nat → Nat
  | 0 => 0
  | k + 1 => if at_ v k = 0 then trimN v k else k + 1
theorem trimN_le (v : List Nat) : ∀ k, trimN v k ≤ k
  | 0 => Nat.le_refl _
  | k + 1 => by
    unfold trimN
    split
    · exact Nat.le_succ_of_le (trimN_le v k)
    · exact Nat.le_refl _
theorem trimN_zero (v : List Nat) : ∀ k i, trimN v k ≤ i → i < k → at_ v i = 0
  | 0, i, _, h => absurd h (by omega)
  | k + 1, i, h1, h2 => by
    unfold trimN at h1
    split at h1
    · rename_i h0
      rcases Nat.lt_or_ge i k with h | h
      · exact trimN_zero v k i h1 h
      · obtain rfl : i = k := by omega
        exact h0
    · omega
theorem trimN_last (v : List Nat) : ∀ k, 0 < trimN v k → at_ v (trimN v k - 1) ≠ 0
  | 0, h => absurd h (by simp [trimN])
  | k + 1, h => by
    unfold trimN at h ⊢
    split
    · rename_i h0
      rw [if_pos h0] at h
      exact trimN_last v k h
    · rename_i h0
      exact h0
/-- The vector without the zeros behind. -/
def trimL (v : List Nat) : List Nat := v.take (trimN v v.length)
theorem trimL_len (v : List Nat) : (trimL v).length = trimN v v.length := by
  unfold trimL
  rw [List.length_take]
  have := trimN_le v v.length
  omega
theorem at_take (v : List Nat) (k i : Nat) : at_ (v.take k) i = if i < k then at_ v i else 0 := by
  unfold at_
  rw [List.getD_eq_getElem?_getD, List.getElem?_take]
  split
  · rw [List.getD_eq_getElem?_getD]
  · rfl
theorem trimL_at (v : List Nat) (i : Nat) : at_ (trimL v) i = at_ v i := by
  unfold trimL
  rw [at_take]
  split
  · rfl
  · rename_i h
    rcases Nat.lt_or_ge i v.length with h' | h'
    · exact (trimN_zero v v.length i (by omega) h').symm
    · exact (at_ge h').symm
theorem trimL_trimmed (v : List Nat) : Trimmed (trimL v) := by
  rcases Nat.eq_zero_or_pos (trimN v v.length) with h | h
  · left
    exact List.eq_nil_of_length_eq_zero (by rw [trimL_len, h])
  · right
    rw [trimL_len, trimL_at]
    exact trimN_last v _ h
theorem trimN_trimmed {v : List Nat} (h : Trimmed v) : trimN v v.length = v.length := by
  rcases h with rfl | h
  · rfl
  · cases hl : v.length with
    | zero => rfl
    | succ k =>
      rw [hl] at h
      unfold trimN
      exact if_neg h
/-- Numbers, as their bytes. -/
def encs (v : List Nat) : List UInt8 := v.flatMap enc
theorem encs_cons (x : Nat) (v : List Nat) : encs (x :: v) = enc x ++ encs v := by simp [encs]
theorem encs_snoc (v : List Nat) (x : Nat) : encs (v ++ [x]) = encs v ++ enc x := by simp [encs]
/-- A vector's bytes. -/
def layL (v : List Nat) : List UInt8 := enc (trimN v v.length) ++ encs (trimL v)
theorem layL_trimmed {v : List Nat} (h : Trimmed v) : layL v = enc v.length ++ encs v := by
  unfold layL trimL
  rw [trimN_trimmed h, List.take_length]
theorem trimL_self {v : List Nat} (h : Trimmed v) : trimL v = v := by
  unfold trimL
  rw [trimN_trimmed h, List.take_length]

/-- At most 64 numbers, each at most End. -/
def Small (v : List Nat) : Prop := v.length ≤ 64 ∧ ∀ i, at_ v i ≤ 9223372036854775807
theorem small_trim {v : List Nat} (h : Small v) : Small (trimL v) := ⟨by rw [trimL_len]; exact Nat.le_trans (trimN_le _ _) h.1, fun i => by rw [trimL_at]; exact h.2 i⟩

/-- So many numbers. -/
def manyG : Nat → List UInt8 → Got (List Nat)
  | 0, l => .ok [] l
  | k + 1, l => (numG 9223372036854775807 l).bind fun x l' => (manyG k l').bind fun v l'' => .ok (x :: v) l''
/-- A vector, as it stands on a tape. -/
def readG (l : List UInt8) : Got (List Nat) := (numG 64 l).bind fun n l' => manyG n l'
theorem manyG_of (r : List UInt8) : ∀ v : List Nat, (∀ i, at_ v i ≤ 9223372036854775807) → manyG v.length (encs v ++ r) = .ok v r
  | [], _ => rfl
  | x :: v, h => by
    have hx : x ≤ 9223372036854775807 := h 0
    have hv : ∀ i, at_ v i ≤ 9223372036854775807 := fun i => h (i + 1)
    show (numG _ _).bind _ = _
    rw [encs_cons, List.append_assoc, numG_of hx (by omega)]
    show (manyG v.length (encs v ++ r)).bind _ = _
    rw [manyG_of r v hv]
    rfl
theorem manyG_ok : ∀ (k : Nat) (l r : List UInt8) (v : List Nat), manyG k l = .ok v r → v.length = k ∧ l = encs v ++ r ∧ ∀ i, at_ v i ≤ 9223372036854775807
  | 0, l, r, v, h => by
    injection h with h1 h2
    subst h1; subst h2
    exact ⟨rfl, rfl, fun i => by rw [at_ge (by simp)]; decide⟩
  | k + 1, l, r, v, h => by
    obtain ⟨x, l1, h1, h2⟩ := bind_ok h
    obtain ⟨u, l2, h3, h4⟩ := bind_ok h2
    injection h4 with h5 h6
    subst h5; subst h6
    obtain ⟨e1, e2⟩ := numG_enc h1
    obtain ⟨e3, e4, e5⟩ := manyG_ok k l1 l2 u h3
    refine ⟨by simp [e3], by rw [e1, e4, encs_cons, List.append_assoc], fun i => ?_⟩
    cases i with
    | zero => exact e2
    | succ i => exact e5 i
theorem manyG_errs : ∀ (k : Nat) (l : List UInt8) (E : Nat), manyG k l = .bad E → E = 4 ∨ E = 5 ∨ E = 6
  | 0, l, E, h => by cases h
  | k + 1, l, E, h => by
    rcases bind_bad h with h | ⟨x, l1, -, h⟩
    · exact numG_errs h
    · rcases bind_bad h with h | ⟨u, l2, -, h⟩
      · exact manyG_errs k l1 E h
      · cases h
theorem readG_of {v : List Nat} (h : Small v) (r : List UInt8) : readG (layL v ++ r) = .ok (trimL v) r := by
  have hs := small_trim h
  have hl := trimL_len v
  unfold readG layL
  rw [← hl, List.append_assoc, numG_of hs.1 (by have := hs.1; omega)]
  exact manyG_of r (trimL v) hs.2
theorem readG_ok {l r : List UInt8} {v : List Nat} (h : readG l = .ok v r) : Small v ∧ l = enc v.length ++ (encs v ++ r) := by
  obtain ⟨n, l1, h1, h2⟩ := bind_ok h
  obtain ⟨e1, e2⟩ := numG_enc h1
  obtain ⟨e3, e4, e5⟩ := manyG_ok n l1 r v h2
  subst e3
  exact ⟨⟨e2, e5⟩, by rw [e1, e4]⟩
theorem readG_errs {l : List UInt8} {E : Nat} (h : readG l = .bad E) : E = 4 ∨ E = 5 ∨ E = 6 := by
  rcases bind_bad h with h | ⟨n, l1, -, h⟩
  · exact numG_errs h
  · exact manyG_errs _ _ _ h
/-- What Of answers. -/
def decV (l : List UInt8) : Nat ⊕ List Nat :=
  match readG l with
  | .bad E => .inl E
  | .ok v r => if r ≠ [] then .inl 4 else if 0 < v.length ∧ at_ v (v.length - 1) = 0 then .inl 4 else .inr v
theorem decV_of {v : List Nat} (h : Small v) : decV (layL v) = .inr (trimL v) := by
  have h1 := readG_of h []
  rw [List.append_nil] at h1
  unfold decV
  rw [h1]
  simp only
  rw [if_neg (by simp), if_neg]
  rintro ⟨h2, h3⟩
  rcases trimL_trimmed v with h | h
  · rw [h] at h2; exact absurd h2 (by simp)
  · exact h h3
theorem decV_ok {l : List UInt8} {v : List Nat} (h : decV l = .inr v) : l = layL v ∧ Small v ∧ Trimmed v := by
  unfold decV at h
  cases g : readG l with
  | bad E => rw [g] at h; cases h
  | ok u r =>
    rw [g] at h
    simp only at h
    obtain ⟨hs, hl⟩ := readG_ok g
    split at h
    · cases h
    · rename_i hr
      split at h
      · cases h
      · rename_i h0
        injection h with h
        subst h
        have hr' : r = [] := by simpa using hr
        have ht : Trimmed u := by
          rcases Nat.eq_zero_or_pos u.length with h | h
          · exact .inl (List.eq_nil_of_length_eq_zero h)
          · exact .inr fun e => h0 ⟨h, e⟩
        refine ⟨?_, hs, ht⟩
        rw [layL_trimmed ht, hl, hr', List.append_nil]
theorem decV_errs {l : List UInt8} {E : Nat} (h : decV l = .inl E) : E = 4 ∨ E = 5 ∨ E = 6 := by
  unfold decV at h
  cases g : readG l with
  | bad E' =>
    rw [g] at h
    injection h with h
    subst h
    exact readG_errs g
  | ok u r =>
    rw [g] at h
    simp only at h
    split at h
    · injection h with h; omega
    · split at h
      · injection h with h; omega
      · cases h
theorem encs_len (v : List Nat) (h : ∀ i, at_ v i < 18446744073709551616) : (encs v).length ≤ 10 * v.length := by
  induction v with
  | nil => exact Nat.le_refl _
  | cons x v ih =>
    have h1 := enc_ten (n := x) (h 0)
    have h2 := ih fun i => h (i + 1)
    rw [encs_cons, List.length_append, List.length_cons]
    omega
theorem layL_len {v : List Nat} (h : Small v) : (layL v).length ≤ 700 := by
  have hs := small_trim h
  have h1 := encs_len (trimL v) fun i => by have := hs.2 i; omega
  have h2 := enc_ten (n := trimN v v.length) (by have := trimN_le v v.length; have := h.1; omega)
  have h3 := hs.1
  unfold layL
  rw [List.length_append]
  omega
end Go.Proofs.Ytlacihgoammjgaa.Vec
