/- A record, as a list of bytes. The record ahead of bytes: plain lists. A record of which one byte is another one, or some at the end are missing: plain lists. The records ahead of bytes: plain lists. -/
import Derived.Test.YtokfajlmephdeaaDoorNew
import Derived.Test.YtokfajlmephdeaaDoorCrc
import Derived.Test.YtokfajlmephdeaaDoorRows2
namespace Go.Proofs.YtokfajlmephdeaaDoor.Made
open Go Go.RowKit Go.Proofs.YtokfajlmephdeaaDoor.Words Go.Proofs.YtokfajlmephdeaaDoor.Enc
set_option linter.unusedVariables false

/-- A sum's four bytes, the highest first. -/
def four (s : BitVec 32) : List UInt8 := [b8 (s.toNat / 16777216), b8 (s.toNat / 65536), b8 (s.toNat / 256), b8 s.toNat]
/-- A record. -/
def wrap (l : List UInt8) : List UInt8 := enc l.length ++ l ++ four (Crc.sum (enc l.length ++ l))
theorem four_length (s : BitVec 32) : (four s).length = 4 := rfl
theorem wrap_length (l : List UInt8) : (wrap l).length = (enc l.length).length + l.length + 4 := by simp [wrap, four_length]; omega

theorem sees_four (w : World) (e : TypeId) (s : BitVec 32) (x0 x1 x2 x3 : Int) (h0 : x0 = ((b8 (s.toNat / 16777216)).toNat : Int)) (h1 : x1 = ((b8 (s.toNat / 65536)).toNat : Int)) (h2 : x2 = ((b8 (s.toNat / 256)).toNat : Int)) (h3 : x3 = ((b8 s.toNat).toNat : Int)) :
    Sees (w.alloc (.cells #[.int .u8 x0, .int .u8 x1, .int .u8 x2, .int .u8 x3] e)) (some ⟨w.heap.size, 0, none⟩) 4 (four s) := by
  subst h0; subst h1; subst h2; subst h3
  refine sees_new w e _ 4 (four s) rfl fun j u hu => ?_
  match j, hu with
  | 0, hu => simp [four] at hu; subst hu; rfl
  | 1, hu => simp [four] at hu; subst hu; rfl
  | 2, hu => simp [four] at hu; subst hu; rfl
  | 3, hu => simp [four] at hu; subst hu; rfl
end Go.Proofs.YtokfajlmephdeaaDoor.Made
namespace Go.Proofs.YtokfajlmephdeaaDoor.Made
open Go Go.RowKit Go.Proofs.YtokfajlmephdeaaDoor.Words Go.Proofs.YtokfajlmephdeaaDoor.Enc
set_option linter.unusedVariables false

/-- What Open tells: the contents, how many bytes, the error. -/
def opened (l : List UInt8) (most : Int) (t : Nat × Nat × Nat) : List UInt8 × Nat × Nat :=
  if t.2.2 ≠ 0 then ([], 0, t.2.2)
  else if most < 0 ∨ most < (t.1 : Int) then ([], 0, 6)
  else if l.length - t.2.1 < t.1 then ([], 0, 5)
  else if l.length - (t.2.1 + t.1) < 4 then ([], 0, 5)
  else if wrap ((l.drop t.2.1).take t.1) ≠ l.take (t.2.1 + t.1 + 4) then ([], 0, 4)
  else ((l.drop t.2.1).take t.1, t.2.1 + t.1 + 4, 0)
def openL (l : List UInt8) (most : Int) : List UInt8 × Nat × Nat := opened l most (tk 0 0 l)

theorem openL_len (l : List UInt8) (most : Int) : (openL l most).2.1 ≤ l.length := by
  unfold openL opened
  split
  · simp
  · split
    · simp
    · split
      · simp
      · split
        · simp
        · split
          · simp
          · simp only []; omega
theorem tk_wrap (l q : List UInt8) (h : l.length < 18446744073709551616) : tk 0 0 (wrap l ++ q) = (l.length, (enc l.length).length, 0) := by
  unfold wrap
  rw [List.append_assoc, List.append_assoc]
  exact tk_lay l.length h _
theorem open_wrap (l q : List UInt8) (most : Int) (h : l.length < 18446744073709551616) (hm : (l.length : Int) ≤ most) : openL (wrap l ++ q) most = (l, (wrap l).length, 0) := by
  have hw := wrap_length l
  have h1 : ((wrap l ++ q).drop (enc l.length).length).take l.length = l := by
    unfold wrap
    rw [List.append_assoc, List.append_assoc, List.drop_left, List.take_left]
  have h2 : (wrap l ++ q).take ((enc l.length).length + l.length + 4) = wrap l := by rw [← hw, List.take_left]
  unfold openL
  rw [tk_wrap l q h]
  unfold opened
  simp only [h1, h2]
  rw [if_neg (by simp), if_neg (by omega), if_neg (by simp [hw]; omega), if_neg (by simp [hw]; omega), if_neg (by simp), hw]
theorem open_long (l : List UInt8) (h : l.length < 18446744073709551616) : openL (wrap l) ((l.length : Int) - 1) = ([], 0, 6) := by
  have := tk_wrap l [] h
  rw [List.append_nil] at this
  unfold openL
  rw [this]
  unfold opened
  rw [if_neg (by simp), if_pos (by simp only []; omega)]
end Go.Proofs.YtokfajlmephdeaaDoor.Made
namespace Go.Proofs.YtokfajlmephdeaaDoor.Chk
open Go Go.RowKit Go.Proofs.YtokfajlmephdeaaDoor.Words Go.Proofs.YtokfajlmephdeaaDoor.Enc Go.Proofs.YtokfajlmephdeaaDoor.Made
set_option linter.unusedVariables false

theorem enc_mono : ∀ (m n : Nat), n ≤ m → (enc n).length ≤ (enc m).length := by
  intro m
  induction m using Nat.strongRecOn with
  | _ m ih =>
    intro n h
    by_cases hn : n < 128
    · rw [enc_small hn]; exact enc_pos m
    · rw [enc_great hn, enc_great (n := m) (by omega)]
      have := ih (m / 128) (by omega) (n / 128) (by omega)
      simp; exact this
theorem four_inj {s t : BitVec 32} (h : four s = four t) : s = t := by
  unfold four at h
  injection h with h0 h
  injection h with h1 h
  injection h with h2 h
  injection h with h3 h
  have e0 := congrArg UInt8.toNat h0
  have e1 := congrArg UInt8.toNat h1
  have e2 := congrArg UInt8.toNat h2
  have e3 := congrArg UInt8.toNat h3
  rw [b8_toNat, b8_toNat] at e0 e1 e2 e3
  have hs := s.isLt
  have ht := t.isLt
  apply BitVec.eq_of_toNat_eq
  omega
/-- Where Open tells no error the bytes begin with the record of what it tells. -/
theorem opened_ok {v : List UInt8} {most : Int} (h : (openL v most).2.2 = 0) :
    wrap (openL v most).1 = v.take (openL v most).2.1 ∧ (openL v most).2.1 ≤ v.length ∧ (openL v most).2.1 = (wrap (openL v most).1).length := by
  unfold openL opened at h ⊢
  have htl := tk_len v 0 0
  generalize tk 0 0 v = t at h htl ⊢
  obtain ⟨N, K, E⟩ := t
  simp only [] at h htl ⊢
  by_cases hE : E ≠ 0
  · rw [if_pos hE] at h; exact absurd h hE
  · rw [if_neg hE] at h ⊢
    by_cases h6 : most < 0 ∨ most < (N : Int)
    · rw [if_pos h6] at h; cases h
    · rw [if_neg h6] at h ⊢
      by_cases h5 : v.length - K < N
      · rw [if_pos h5] at h; cases h
      · rw [if_neg h5] at h ⊢
        by_cases h4 : v.length - (K + N) < 4
        · rw [if_pos h4] at h; cases h
        · rw [if_neg h4] at h ⊢
          by_cases hw : wrap ((v.drop K).take N) ≠ v.take (K + N + 4)
          · rw [if_pos hw] at h; cases h
          · rw [if_neg hw]
            have hw' : wrap ((v.drop K).take N) = v.take (K + N + 4) := Classical.not_not.1 hw
            refine ⟨hw', by simp only []; omega, ?_⟩
            simp only []
            rw [hw', List.length_take]
            omega
theorem open_turn (l : List UInt8) (i : Nat) (u : UInt8) (most : Int) (hi : i < (wrap l).length) (hu : (wrap l)[i] ≠ u) :
    (openL ((wrap l).set i u) most).2.2 ≠ 0 ∨ ((openL ((wrap l).set i u) most).2.1 < (wrap l).length ∧ (openL ((wrap l).set i u) most).1 ≠ l) := by
  by_cases h0 : (openL ((wrap l).set i u) most).2.2 = 0
  · right
    obtain ⟨h1, h2, h3⟩ := opened_ok h0
    generalize (openL ((wrap l).set i u) most).1 = c at h1 h3 ⊢
    generalize (openL ((wrap l).set i u) most).2.1 = k at h1 h2 h3 ⊢
    rw [List.length_set] at h2
    have hne : (wrap l).set i u ≠ wrap l := by
      intro e
      have := congrArg (fun x => x[i]?) e
      simp only [List.getElem?_set_self hi, List.getElem?_eq_getElem hi] at this
      injection this with this
      exact hu this.symm
    have hcl : c ≠ l := by
      rintro rfl
      rw [h3, List.take_of_length_le (by simp)] at h1
      exact hne h1.symm
    refine ⟨?_, hcl⟩
    rcases Nat.lt_or_ge k (wrap l).length with hlt | hge
    · exact hlt
    · exfalso
      have hk : k = (wrap l).length := by omega
      rw [hk, List.take_of_length_le (by simp)] at h1
      have hlen : (wrap c).length = (wrap l).length := by rw [h1, List.length_set]
      rw [wrap_length, wrap_length] at hlen
      have hcn : c.length = l.length := by
        rcases Nat.le_total c.length l.length with h | h
        · have := enc_mono _ _ h; omega
        · have := enc_mono _ _ h; omega
      unfold wrap at h1
      rw [hcn, List.append_assoc, List.append_assoc] at h1
      generalize enc l.length = p at h1
      rcases Nat.lt_or_ge i p.length with hip | hip
      · rw [List.set_append_left _ _ hip] at h1
        have := (List.append_inj h1 (by simp)).2
        exact hcl (List.append_inj this hcn).1
      · rw [List.set_append_right _ _ hip] at h1
        have h5 := (List.append_inj h1 rfl).2
        rcases Nat.lt_or_ge (i - p.length) l.length with hil | hil
        · rw [List.set_append_left _ _ hil] at h5
          obtain ⟨h6, h7⟩ := List.append_inj h5 (by simpa using hcn)
          have h8 := four_inj h7
          have hsp : l = l.take (i - p.length) ++ l[i - p.length] :: l.drop (i - p.length + 1) := by
            rw [← List.drop_eq_getElem_cons hil, List.take_append_drop]
          have hset : l.set (i - p.length) u = l.take (i - p.length) ++ u :: l.drop (i - p.length + 1) := by
            rw [List.set_eq_take_append_cons_drop, if_pos hil]
          rw [h6, hset] at h8
          rw [show p ++ l = (p ++ l.take (i - p.length)) ++ l[i - p.length] :: l.drop (i - p.length + 1) by rw [List.append_assoc, ← hsp], ← List.append_assoc] at h8
          refine Crc.sum_ne _ _ _ _ ?_ h8
          intro e
          apply hcl
          rw [h6, hset, e]
          exact hsp.symm
        · rw [List.set_append_right _ _ hil] at h5
          exact hcl (List.append_inj h5 hcn).1
  · exact .inl h0
theorem tk_cut : ∀ (n k i m : Nat), k < (enc n).length → i + k ≤ 9 → (0 < i → 0 < n) → tk i m ((enc n).take k) = (0, 0, 5) := by
  intro n
  induction n using Nat.strongRecOn with
  | _ n ih =>
    intro k i m hk hi hp
    by_cases hn : n < 128
    · rw [enc_small hn] at hk ⊢
      have : k = 0 := by simp at hk; omega
      subst this
      rfl
    · rw [enc_great hn] at hk ⊢
      cases k with
      | zero => rfl
      | succ k =>
        rw [List.take_succ_cons]
        simp only [List.length_cons] at hk
        have h1 : (b8 (128 + n % 128)).toNat = 128 + n % 128 := by rw [b8_toNat]; omega
        rw [tk_next (by omega) (by rw [h1]; omega)]
        exact ih (n / 128) (by omega) k (i + 1) _ (by omega) (by omega) (by omega)
theorem open_cut (l : List UInt8) (k : Nat) (most : Int) (h : l.length ≤ 1000000000) (hm : (l.length : Int) ≤ most) (hk : k < (wrap l).length) : (openL ((wrap l).take k) most).2.2 = 5 := by
  have hw := wrap_length l
  have he := enc_ten (n := l.length) (by omega)
  unfold openL
  by_cases h1 : k < (enc l.length).length
  · have : (wrap l).take k = (enc l.length).take k := by
      unfold wrap
      rw [List.append_assoc, List.take_append_of_le_length (by omega)]
    rw [this, tk_cut l.length k 0 0 h1 (by omega) (by omega)]
    unfold opened
    rw [if_pos (by simp)]
  · have : (wrap l).take k = enc l.length ++ (l ++ four (Crc.sum (enc l.length ++ l))).take (k - (enc l.length).length) := by
      unfold wrap
      rw [List.append_assoc, List.take_append, List.take_of_length_le (by omega)]
    have hlen : ((wrap l).take k).length = k := by rw [List.length_take]; omega
    rw [this, tk_lay l.length (by omega), ← this]
    unfold opened
    simp only [hlen]
    rw [if_neg (by simp), if_neg (by omega)]
    by_cases h5 : k - (enc l.length).length < l.length
    · rw [if_pos h5]
    · rw [if_neg h5, if_pos (by omega)]
end Go.Proofs.YtokfajlmephdeaaDoor.Chk
namespace Go.Proofs.YtokfajlmephdeaaDoor.Made
open Go Go.RowKit Go.Proofs.YtokfajlmephdeaaDoor.Words Go.Proofs.YtokfajlmephdeaaDoor.Enc
set_option linter.unusedVariables false

/-- A record that is right has four bytes at least. -/
theorem opened_ok_len {v : List UInt8} {most : Int} (h : (openL v most).2.2 = 0) : 4 ≤ (openL v most).2.1 := by
  have := (Chk.opened_ok h).2.2
  rw [wrap_length] at this
  omega
def allF (most : Int) : Nat → List UInt8 → List (List UInt8) × Nat × Nat
  | 0, _ => ([], 0, 0)
  | f + 1, l => if l = [] then ([], 0, 0) else if (openL l most).2.2 ≠ 0 then ([], 0, (openL l most).2.2) else
      ((openL l most).1 :: (allF most f (l.drop (openL l most).2.1)).1, (openL l most).2.1 + (allF most f (l.drop (openL l most).2.1)).2.1, (allF most f (l.drop (openL l most).2.1)).2.2)
/-- What All tells: the contents, how many bytes, the error. -/
def allL (l : List UInt8) (most : Int) : List (List UInt8) × Nat × Nat := allF most (l.length + 1) l

theorem allF_len (most : Int) : ∀ (f : Nat) (l : List UInt8), (allF most f l).1.length ≤ l.length
  | 0, l => by simp [allF]
  | f + 1, l => by
    rw [allF]
    by_cases h0 : l = []
    · rw [if_pos h0]; simp
    · rw [if_neg h0]
      by_cases hE : (openL l most).2.2 ≠ 0
      · rw [if_pos hE]; simp
      · rw [if_neg hE]
        have h1 := openL_len l most
        have h2 := opened_ok_len (v := l) (most := most) (Classical.not_not.1 hE)
        have h3 := allF_len most f (l.drop (openL l most).2.1)
        rw [List.length_drop] at h3
        simp only [List.length_cons]
        omega
theorem allL_len (l : List UInt8) (most : Int) : (allL l most).1.length ≤ l.length := allF_len most _ l
def AllSeen (r : List (List UInt8) × Nat × Nat) (w : World) (e : Ending) (w' : World) : Prop :=
  ∃ A n c, e = .returned (.tuple #[.slice A n c, .int .i64 (r.2.1 : Int), .int .i64 (r.2.2 : Int)]) ∧ SeesAll w' A n r.1 ∧ Below w.heap.size w w'

theorem info38 : (Tryd.prog.info? 37).map (fun i => (i.zero, i.size, i.bytes)) = some (some (.slice none 0 0), 1, 24) := by kernel_rfl
end Go.Proofs.YtokfajlmephdeaaDoor.Made
