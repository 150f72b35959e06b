/- Order: heaps of lists, and merging: plain, no program. -/
import Derived.Test.YtlacihgoammjgaaOrdEv
namespace Go.Proofs.Ytlacihgoammjgaa.Ord
open Go Go.RowKit Go.Proofs.Ytlacihgoammjgaa.Words Go.Proofs.Ytlacihgoammjgaa.Enc Go.Proofs.Ytlacihgoammjgaa.Evt Go.Proofs.Ytlacihgoammjgaa.Seg
set_option linter.unusedVariables false
set_option linter.unusedSimpArgs false

section
variable {α : Type} {le : α → α → Prop}
/-- No place of the first n is ahead of its parent. -/
def Heaped (le : α → α → Prop) (f : Nat → α) (n : Nat) : Prop := ∀ k, 0 < k → k < n → le (f ((k - 1) / 2)) (f k)
def swp (f : Nat → α) (i j : Nat) : Nat → α := fun k => if k = i then f j else if k = j then f i else f k
def UpInv (le : α → α → Prop) (f : Nat → α) (n j : Nat) : Prop :=
  (∀ k, 0 < k → k < n → k ≠ j → le (f ((k - 1) / 2)) (f k)) ∧ (0 < j → ∀ k, 0 < k → k < n → (k - 1) / 2 = j → le (f ((j - 1) / 2)) (f k))
theorem UpInv.stop {f : Nat → α} {n j : Nat} (h : UpInv le f n j) (hs : j = 0 ∨ le (f ((j - 1) / 2)) (f j)) : Heaped le f n := fun k h1 h2 => by
  by_cases e : k = j
  · subst e
    rcases hs with rfl | h
    · omega
    · exact h
  · exact h.1 k h1 h2 e
theorem UpInv.go (tr : ∀ a b c, le a b → le b c → le a c) {f : Nat → α} {n j : Nat} (h : UpInv le f n j) (hj : 0 < j) (hjn : j < n) (hl : le (f j) (f ((j - 1) / 2))) :
    UpInv le (swp f ((j - 1) / 2) j) n ((j - 1) / 2) := by
  generalize hp : (j - 1) / 2 = p at hl ⊢
  have hpj : p < j := by omega
  refine ⟨fun k h1 h2 h3 => ?_, fun h0 k h1 h2 h3 => ?_⟩
  · by_cases e : k = j
    · subst e
      rw [hp]
      simp only [swp, if_pos rfl, if_neg h3]
      simpa using hl
    · have hk := h.1 k h1 h2 e
      by_cases e1 : (k - 1) / 2 = p
      · rw [e1] at hk ⊢
        simp only [swp, if_pos rfl, if_neg h3, if_neg e]
        simpa using tr _ _ _ hl hk
      · by_cases e2 : (k - 1) / 2 = j
        · have := h.2 hj k h1 h2 e2
          rw [hp] at this
          rw [e2]
          simp only [swp, if_neg (show ¬ j = p by omega), if_pos rfl, if_neg h3, if_neg e]
          simpa using this
        · simp only [swp, if_neg e1, if_neg e2, if_neg h3, if_neg e]
          exact hk
  · have hq : ¬ (p - 1) / 2 = p := by omega
    have hq2 : ¬ (p - 1) / 2 = j := by omega
    have hb := h.1 p h0 (by omega) (by omega)
    by_cases e : k = j
    · subst e
      simp only [swp, if_neg hq, if_neg hq2, if_neg (show ¬ k = p by omega), if_pos rfl]
      simpa using hb
    · have hk := h.1 k h1 h2 e
      rw [h3] at hk
      simp only [swp, if_neg hq, if_neg hq2, if_neg (show ¬ k = p by omega), if_neg e]
      exact tr _ _ _ hb hk
def DownInv (le : α → α → Prop) (f : Nat → α) (n i : Nat) : Prop :=
  (∀ k, 0 < k → k < n → (k - 1) / 2 ≠ i → le (f ((k - 1) / 2)) (f k)) ∧ (0 < i → ∀ k, 0 < k → k < n → (k - 1) / 2 = i → le (f ((i - 1) / 2)) (f k))
theorem DownInv.stop {f : Nat → α} {n i : Nat} (h : DownInv le f n i) (hs : ∀ k, 0 < k → k < n → (k - 1) / 2 = i → le (f i) (f k)) : Heaped le f n := fun k h1 h2 => by
  by_cases e : (k - 1) / 2 = i
  · rw [e]; exact hs k h1 h2 e
  · exact h.1 k h1 h2 e
theorem DownInv.go {f : Nat → α} {n i j : Nat} (h : DownInv le f n i) (hj : 0 < j) (hjn : j < n) (hji : (j - 1) / 2 = i) (hl : le (f j) (f i))
    (hm : ∀ k, 0 < k → k < n → (k - 1) / 2 = i → le (f j) (f k)) : DownInv le (swp f i j) n j := by
  have hij : i < j := by omega
  refine ⟨fun k h1 h2 h3 => ?_, fun _ k h1 h2 h3 => ?_⟩
  · by_cases e : k = j
    · subst e
      rw [hji]
      simp only [swp, if_pos rfl, if_neg (show ¬ k = i by omega)]
      simpa using hl
    · by_cases e1 : (k - 1) / 2 = i
      · have := hm k h1 h2 e1
        rw [e1]
        simp only [swp, if_pos rfl, if_neg (show ¬ k = i by omega), if_neg e]
        simpa using this
      · by_cases e2 : k = i
        · subst e2
          have := h.2 h1 j hj hjn hji
          simp only [swp, if_neg (show ¬ (k - 1) / 2 = k by omega), if_neg (show ¬ (k - 1) / 2 = j by omega), if_pos rfl]
          simpa using this
        · simp only [swp, if_neg e1, if_neg h3, if_neg e2, if_neg e]
          exact h.1 k h1 h2 e1
  · have := h.1 k h1 h2 (by omega)
    rw [h3] at this
    rw [hji]
    simp only [swp, if_pos rfl, if_neg (show ¬ k = i by omega), if_neg (show ¬ k = j by omega)]
    simpa using this
theorem Heaped.root (rf : ∀ a, le a a) (tr : ∀ a b c, le a b → le b c → le a c) {f : Nat → α} {n : Nat} (h : Heaped le f n) : ∀ k, k < n → le (f 0) (f k) := by
  intro k
  induction k using Nat.strongRecOn with
  | _ k ih =>
    intro hk
    by_cases e : k = 0
    · subst e; exact rf _
    · exact tr _ _ _ (ih ((k - 1) / 2) (by omega) (by omega)) (h k (by omega) hk)
/-- Of a heap of which the first place is another one. -/
theorem Heaped.down0 {f g : Nat → α} {n : Nat} (h : Heaped le f n) (hg : ∀ k, 0 < k → k < n → g k = f k) {m : Nat} (hm : m ≤ n) : DownInv le g m 0 :=
  ⟨fun k h1 h2 h3 => by rw [hg k h1 (by omega), hg ((k - 1) / 2) (by omega) (by omega)]; exact h k h1 (by omega), fun h => absurd h (by omega)⟩
theorem Heaped.upLast {f g : Nat → α} {n : Nat} (h : Heaped le f n) (hg : ∀ k, k < n → g k = f k) : UpInv le g (n + 1) n :=
  ⟨fun k h1 h2 h3 => by rw [hg k (by omega), hg ((k - 1) / 2) (by omega)]; exact h k h1 (by omega), fun h0 k h1 h2 h3 => by omega⟩

/-- Two places of a list change. -/
def swL (l : List α) (d : α) (i j : Nat) : List α := (l.set i (l.getD j d)).set j (l.getD i d)
theorem swL_len (l : List α) (d : α) (i j : Nat) : (swL l d i j).length = l.length := by simp [swL]
theorem swL_at (l : List α) (d : α) (i j : Nat) (hi : i < l.length) (hj : j < l.length) (k : Nat) : (swL l d i j).getD k d = swp (fun k => l.getD k d) i j k := by
  unfold swL swp
  by_cases e : k = j
  · subst e
    simp only [List.getD_eq_getElem?_getD, List.getElem?_set, List.length_set]
    rw [if_pos trivial, if_pos hj]
    by_cases e2 : k = i
    · subst e2; simp
    · rw [if_neg e2]; simp
  · by_cases e2 : k = i
    · subst e2
      simp only [List.getD_eq_getElem?_getD, List.getElem?_set, List.length_set]
      rw [if_neg (fun h => e h.symm), if_pos trivial, if_pos hi]
      simp
    · simp only [List.getD_eq_getElem?_getD, List.getElem?_set, List.length_set]
      rw [if_neg (fun h => e h.symm), if_neg (fun h => e2 h.symm), if_neg e2, if_neg e]
theorem swL_perm (l : List α) (d : α) (i j : Nat) (hi : i < l.length) (hj : j < l.length) : (swL l d i j).Perm l := by
  have h := Array.swap_perm (xs := l.toArray) (i := i) (j := j) (by simpa using hi) (by simpa using hj)
  rw [Array.perm_iff_toList_perm, Array.toList_swap] at h
  unfold swL
  simpa [List.getD_eq_getElem?_getD, List.getElem?_eq_getElem hi, List.getElem?_eq_getElem hj] using h
end

/-- An event doesn't stand behind another one. -/
def evLe (a b : EvS) : Prop := a.e.time < b.e.time ∨ (a.e.time = b.e.time ∧ a.e.writer ≤ b.e.writer)
theorem evLe_refl (a : EvS) : evLe a a := .inr ⟨rfl, Int.le_refl _⟩
theorem evLe_trans (a b c : EvS) (h1 : evLe a b) (h2 : evLe b c) : evLe a c := by unfold evLe at *; omega
theorem evLe_total (a b : EvS) : evLe a b ∨ evLe b a := by unfold evLe; omega

/-- A list of the heap: where it lies, how much room it has, what it has. -/
structure HV where
  A : Option Addr
  c : Nat
  S : List EvS
instance : Inhabited HV := ⟨⟨none, 0, []⟩⟩
def HV.val (h : HV) : Value := .slice h.A h.S.length h.c
def noEv : EvS := ⟨⟨0, 0, 0, 0, ⟨#[]⟩, [], 0, 0⟩, none, 0, 0⟩
def HV.one (h : HV) : EvS := h.S.headD noEv
def hvLe (a b : HV) : Prop := evLe a.one b.one
theorem hvLe_refl (a : HV) : hvLe a a := evLe_refl _
theorem hvLe_trans (a b c : HV) (h1 : hvLe a b) (h2 : hvLe b c) : hvLe a c := evLe_trans _ _ _ h1 h2
def noHV : HV := ⟨none, 0, []⟩
def HV.at_ (hs : List HV) : Nat → HV := fun k => hs.getD k noHV
/-- A heap of lists that are not empty. -/
structure Heap (hs : List HV) : Prop where
  ord : Heaped hvLe (HV.at_ hs) hs.length
  ne : ∀ h ∈ hs, h.S ≠ []
def flat (hs : List HV) : List EvS := hs.flatMap HV.S
theorem flat_perm {a b : List HV} (h : a.Perm b) : (flat a).Perm (flat b) := List.Perm.flatMap_right _ h
def Rises (l : List EvS) : Prop := l.Pairwise evLe
theorem one_mem {h : HV} (hn : h.S ≠ []) : h.one ∈ h.S := by
  unfold HV.one
  cases hS : h.S with
  | nil => exact absurd hS hn
  | cons a l => exact List.mem_cons_self
/-- The first of the first list is the first of all. -/
theorem Heap.least {hs : List HV} (h : Heap hs) (hr : ∀ x ∈ hs, Rises x.S) : ∀ e ∈ flat hs, evLe (HV.at_ hs 0).one e := by
  intro e he
  obtain ⟨x, hx, hex⟩ := List.mem_flatMap.1 he
  obtain ⟨k, hk, rfl⟩ := List.getElem_of_mem hx
  have h0 := h.ord.root hvLe_refl hvLe_trans k hk
  have hk2 : HV.at_ hs k = hs[k] := by simp [HV.at_, List.getD_eq_getElem?_getD, List.getElem?_eq_getElem hk]
  rw [hk2] at h0
  refine evLe_trans _ _ _ h0 ?_
  have hp := hr _ hx
  unfold Rises at hp
  unfold HV.one
  cases hS : hs[k].S with
  | nil => rw [hS] at hex; cases hex
  | cons a l =>
    rw [hS] at hex hp
    rcases List.mem_cons.1 hex with rfl | hm
    · exact evLe_refl _
    · exact (List.pairwise_cons.1 hp).1 _ hm
end Go.Proofs.Ytlacihgoammjgaa.Ord
