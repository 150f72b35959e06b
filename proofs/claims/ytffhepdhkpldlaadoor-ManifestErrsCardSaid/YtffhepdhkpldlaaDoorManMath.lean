/- A manifest's bytes, as plain data, and what is read of bytes. -/
import Derived.Test.YtffhepdhkpldlaaDoorVecMath
import Derived.Test.YtffhepdhkpldlaaDoorBGround
namespace Go.Proofs.YtffhepdhkpldlaaDoor.Man
open Go Go.RowKit Go.Proofs.YtffhepdhkpldlaaDoor.Words Go.Proofs.YtffhepdhkpldlaaDoor.Enc Go.Proofs.YtffhepdhkpldlaaDoor.Made Go.Proofs.YtffhepdhkpldlaaDoor.Tape Go.Proofs.YtffhepdhkpldlaaDoor.Vec Go.Proofs.YtffhepdhkpldlaaDoor.Dsk
set_option linter.unusedVariables false
set_option linter.unusedSimpArgs false

/-- A manifest, as plain data. -/
structure Mn where
  node : Int
  serial : Nat
  floor : List Nat
  time : Nat
  fold : ByteArray
/-- How it stands in memory, the floor's numbers at A. -/
def Mn.row (m : Mn) (A : Option Addr) (n c : Nat) : Array Value := #[.int .i64 m.node, .int .u64 (m.serial : Int), .slice A n c, .int .u64 (m.time : Int), .string m.fold]
def Mn.val (m : Mn) (A : Option Addr) (n c : Nat) : Value := .agg (m.row A n c)
def zeroM : Value := .agg #[.int .i64 0, .int .u64 0, .slice none 0 0, .int .u64 0, .string ⟨#[]⟩]
/-- A manifest may have that name of a fold. -/
def foldB (k : ByteArray) : Bool := decide (k.size = 0) || okName k.data.toList
structure Right (m : Mn) : Prop where
  n0 : 0 ≤ m.node
  n1 : m.node < 64
  sr : m.serial ≤ 9223372036854775807
  fl : Small m.floor
  tm : m.time ≤ 9223372036854775807
  fd : foldB m.fold = true
/-- What Encode lays. -/
def manL (m : Mn) : List UInt8 := enc m.node.toNat ++ (enc m.serial ++ (layL m.floor ++ (enc m.time ++ (enc m.fold.size ++ m.fold.data.toList))))
/-- What a whole text of good form comes to. -/
def endG (nd : Int) (sr : Nat) (v : List Nat) (tm : Nat) (T : List UInt8) : Nat ⊕ Mn :=
  if foldB ⟨T.toArray⟩ = false then .inl 4 else .inr ⟨nd, sr, v, tm, ⟨T.toArray⟩⟩
/-- What Decode answers. -/
def decM (l : List UInt8) : Nat ⊕ Mn :=
  match numG 63 l with
  | .bad E => .inl E
  | .ok nd l1 =>
  match numG 9223372036854775807 l1 with
  | .bad E => .inl E
  | .ok sr l2 =>
  match readG l2 with
  | .bad E => .inl E
  | .ok v l3 =>
  if 0 < v.length ∧ at_ v (v.length - 1) = 0 then .inl 4 else
  match numG 9223372036854775807 l3 with
  | .bad E => .inl E
  | .ok tm l4 =>
  match textG 48 l4 with
  | .bad E => .inl E
  | .ok T r => if r ≠ [] then .inl 4 else endG (nd : Int) sr v tm T

theorem text_enc {most : Nat} {T l rest : List UInt8} (h : textG most l = .ok T rest) : l = enc T.length ++ (T ++ rest) ∧ T.length ≤ most := by
  obtain ⟨h1, h2, rfl⟩ := textG_ok h
  unfold Take.texted at h1 h2 ⊢
  split at h1
  · rename_i h0; exact absurd h1 h0
  · rename_i h0
    rw [if_neg h0] at h2 ⊢
    split at h1
    · cases h1
    · rename_i h5
      rw [if_neg h5] at h2 ⊢
      split at h1
      · cases h1
      · rename_i h6
        rw [if_neg h6] at h2 ⊢
        simp only at h2 ⊢
        have h4 := @Take.tk_one l (tk 0 0 l).1 (tk 0 0 l).2.1 (Prod.ext rfl (Prod.ext rfl (show (tk 0 0 l).2.2 = 0 by omega)))
        have hT : T.length = (tk 0 0 l).1 := by
          rw [← h2, List.length_take, List.length_drop]; omega
        refine ⟨?_, by omega⟩
        rw [hT, ← h4.1, ← h2, ← List.drop_drop, List.take_append_drop, List.take_append_drop]
theorem text_of {most : Nat} {T : List UInt8} (hT : T.length ≤ most) (h64 : T.length < 18446744073709551616) (r : List UInt8) : textG most (enc T.length ++ (T ++ r)) = .ok T r := by
  have ht : Take.texted (enc T.length ++ (T ++ r)) most (tk 0 0 (enc T.length ++ (T ++ r))) = (T, (enc T.length).length + T.length, 0) := by
    rw [tk_lay T.length h64 (T ++ r)]
    unfold Take.texted
    simp only
    rw [if_neg (by simp), if_neg (by omega), if_neg (by simp only [List.length_append]; omega), List.drop_left, List.take_left]
  unfold textG
  rw [ht]
  simp only
  rw [if_neg (by simp), ← List.drop_drop, List.drop_left, List.drop_left]
theorem text_errs {most E : Nat} {l : List UInt8} (h : textG most l = .bad E) : E = 4 ∨ E = 5 ∨ E = 6 := by
  have := tk_errs l 0 0
  obtain ⟨h1, h2⟩ := textG_bad h
  unfold Take.texted at h1 h2
  split at h2
  · simp only at h2; omega
  · split at h2
    · simp only at h2; omega
    · split at h2
      · simp only at h2; omega
      · rename_i a b c
        rw [if_neg a, if_neg b, if_neg c] at h1
        exact absurd rfl h1
theorem size_list (k : ByteArray) : k.data.toList.length = k.size := rfl
theorem data_back (k : ByteArray) : (⟨k.data.toList.toArray⟩ : ByteArray) = k := by cases k; simp
theorem size_of (T : List UInt8) : (⟨T.toArray⟩ : ByteArray).size = T.length := by simp [ByteArray.size]
theorem foldB_len {k : ByteArray} (h : foldB k = true) : k.size ≤ 48 := by
  simp only [foldB, okName, Bool.or_eq_true, Bool.and_eq_true, decide_eq_true_eq] at h
  rcases h with h | ⟨⟨-, h⟩, -⟩
  · omega
  · exact h
theorem trimmed_not {v : List Nat} (h : Trimmed v) : ¬ (0 < v.length ∧ at_ v (v.length - 1) = 0) := by
  rintro ⟨h1, h2⟩
  rcases h with h | h
  · rw [h] at h1; exact absurd h1 (by simp)
  · exact h h2
theorem trimmed_of {v : List Nat} (h : ¬ (0 < v.length ∧ at_ v (v.length - 1) = 0)) : Trimmed v := by
  rcases Nat.eq_zero_or_pos v.length with h0 | h0
  · exact .inl (List.eq_nil_of_length_eq_zero h0)
  · exact .inr fun e => h ⟨h0, e⟩
theorem decM_of {m : Mn} (h : Right m) : decM (manL m) = .inr { m with floor := trimL m.floor } := by
  have hf := foldB_len h.fd
  have hn0 := h.n0; have hn1 := h.n1; have hsr := h.sr; have htm := h.tm
  unfold decM manL
  rw [numG_of (by omega) (by omega)]
  simp only []
  rw [numG_of (by omega) (by omega)]
  simp only []
  rw [readG_of h.fl]
  simp only []
  rw [if_neg (trimmed_not (trimL_trimmed _)), numG_of (by omega) (by omega)]
  simp only []
  have ht := text_of (most := 48) (T := m.fold.data.toList) (by rw [size_list]; omega) (by rw [size_list]; omega) []
  rw [List.append_nil, size_list] at ht
  rw [ht]
  simp only []
  rw [if_neg (by simp)]
  unfold endG
  rw [data_back, h.fd, if_neg (by simp), Int.toNat_of_nonneg hn0]
theorem decM_ok {l : List UInt8} {m : Mn} (h : decM l = .inr m) : l = manL m ∧ Right m ∧ Trimmed m.floor := by
  unfold decM at h
  cases g1 : numG 63 l with
  | bad E => rw [g1] at h; cases h
  | ok nd l1 =>
  rw [g1] at h
  simp only [] at h
  obtain ⟨e1, b1⟩ := numG_enc g1
  cases g2 : numG 9223372036854775807 l1 with
  | bad E => rw [g2] at h; cases h
  | ok sr l2 =>
  rw [g2] at h
  simp only [] at h
  obtain ⟨e2, b2⟩ := numG_enc g2
  cases g3 : readG l2 with
  | bad E => rw [g3] at h; cases h
  | ok v l3 =>
  rw [g3] at h
  simp only [] at h
  obtain ⟨s3, e3⟩ := readG_ok g3
  by_cases hz : 0 < v.length ∧ at_ v (v.length - 1) = 0
  · rw [if_pos hz] at h; cases h
  rw [if_neg hz] at h
  cases g4 : numG 9223372036854775807 l3 with
  | bad E => rw [g4] at h; cases h
  | ok tm l4 =>
  rw [g4] at h
  simp only [] at h
  obtain ⟨e4, b4⟩ := numG_enc g4
  cases g5 : textG 48 l4 with
  | bad E => rw [g5] at h; cases h
  | ok T r =>
  rw [g5] at h
  simp only [] at h
  obtain ⟨e5, b5⟩ := text_enc g5
  by_cases hr : r ≠ []
  · rw [if_pos hr] at h; cases h
  rw [if_neg hr] at h
  have hr' : r = [] := by simpa using hr
  unfold endG at h
  by_cases hfo : foldB ⟨T.toArray⟩ = false
  · rw [if_pos hfo] at h; cases h
  rw [if_neg hfo] at h
  injection h with h
  subst h
  have ht := trimmed_of hz
  refine ⟨?_, ⟨by simp only []; omega, by simp only []; omega, b2, s3, b4, by simpa using hfo⟩, ht⟩
  unfold manL
  simp only [size_of, Int.toNat_natCast]
  rw [layL_trimmed ht, e1, e2, e3, e4, e5, hr', List.append_nil, List.append_assoc]
theorem decM_errs {l : List UInt8} {E : Nat} (h : decM l = .inl E) : E = 4 ∨ E = 5 ∨ E = 6 := by
  unfold decM at h
  cases g1 : numG 63 l with
  | bad E' => rw [g1] at h; injection h with h; subst h; exact numG_errs g1
  | ok nd l1 =>
  rw [g1] at h
  simp only [] at h
  cases g2 : numG 9223372036854775807 l1 with
  | bad E' => rw [g2] at h; injection h with h; subst h; exact numG_errs g2
  | ok sr l2 =>
  rw [g2] at h
  simp only [] at h
  cases g3 : readG l2 with
  | bad E' => rw [g3] at h; injection h with h; subst h; exact readG_errs g3
  | ok v l3 =>
  rw [g3] at h
  simp only [] at h
  by_cases hz : 0 < v.length ∧ at_ v (v.length - 1) = 0
  · rw [if_pos hz] at h; injection h with h; omega
  rw [if_neg hz] at h
  cases g4 : numG 9223372036854775807 l3 with
  | bad E' => rw [g4] at h; injection h with h; subst h; exact numG_errs g4
  | ok tm l4 =>
  rw [g4] at h
  simp only [] at h
  cases g5 : textG 48 l4 with
  | bad E' => rw [g5] at h; injection h with h; subst h; exact text_errs g5
  | ok T r =>
  rw [g5] at h
  simp only [] at h
  by_cases hr : r ≠ []
  · rw [if_pos hr] at h; injection h with h; omega
  rw [if_neg hr] at h
  unfold endG at h
  by_cases hfo : foldB ⟨T.toArray⟩ = false
  · rw [if_pos hfo] at h; injection h with h; omega
  rw [if_neg hfo] at h
  cases h
theorem lay_fits {v : List Nat} (hb : ∀ i, at_ v i < 18446744073709551616) (hn : v.length ≤ 64) : (layL v).length ≤ 700 := by
  have h1 := encs_len (trimL v) fun i => by rw [trimL_at]; exact hb i
  have h0 := trimN_le v v.length
  have h2 := enc_ten (n := trimN v v.length) (by omega)
  have h3 := trimL_len v
  unfold layL
  rw [List.length_append]
  omega
theorem manL_len {m : Mn} (h : Right m) : (manL m).length ≤ 900 := by
  have hf := foldB_len h.fd
  have hn0 := h.n0; have hn1 := h.n1; have hsr := h.sr; have htm := h.tm
  have h1 := enc_ten (n := m.node.toNat) (by omega)
  have h2 := enc_ten (n := m.serial) (by omega)
  have h3 := layL_len h.fl
  have h4 := enc_ten (n := m.time) (by omega)
  have h5 := enc_ten (n := m.fold.size) (by omega)
  have h6 := size_list m.fold
  unfold manL
  simp only [List.length_append]
  omega
end Go.Proofs.YtffhepdhkpldlaaDoor.Man
