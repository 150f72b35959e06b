/- Slices of slices of bytes: words. -/
import Derived.Test.YtpfmgjfkjjnadaaWords
import Derived.Deep.Matrix
namespace Go.Proofs.Ytpfmgjfkjjnadaa.Words
open Go Go.RowKit
set_option linter.unusedVariables false

/-- The slice values vs show the lists L. -/
def Each (w : World) (vs : List Value) (L : List (List UInt8)) : Prop :=
  vs.length = L.length ∧ ∀ (j : Nat) (l : List UInt8), L[j]? = some l → ∃ (A : Option Addr) (c : Nat), vs[j]? = some (Value.slice A l.length c) ∧ l.length ≤ c ∧ Sees w A l.length l
theorem Each.nil (w : World) : Each w [] [] := ⟨rfl, fun j l h => by simp at h⟩
theorem Each.below {w w' : World} {vs : List Value} {L : List (List UInt8)} (h : Each w vs L) (hb : Below w.heap.size w w') : Each w' vs L :=
  ⟨h.1, fun j l hl => by
    obtain ⟨A, c, hv, hc, hs⟩ := h.2 j l hl
    exact ⟨A, c, hv, hc, hs.below hb⟩⟩
theorem Each.snoc {w : World} {vs : List Value} {L : List (List UInt8)} (h : Each w vs L) {A : Option Addr} {c : Nat} {l : List UInt8} (hc : l.length ≤ c) (hs : Sees w A l.length l) : Each w (vs ++ [.slice A l.length c]) (L ++ [l]) := by
  refine ⟨by simp [h.1], fun j m hm => ?_⟩
  rcases Nat.lt_trichotomy j L.length with hj | hj | hj
  · rw [List.getElem?_append_left hj] at hm
    obtain ⟨A', c', hv, r⟩ := h.2 j m hm
    exact ⟨A', c', by rw [List.getElem?_append_left (by rw [h.1]; exact hj)]; exact hv, r⟩
  · subst hj
    rw [List.getElem?_append_right (Nat.le_refl _)] at hm
    simp at hm
    subst hm
    exact ⟨A, c, by rw [List.getElem?_append_right (by rw [h.1]; exact Nat.le_refl _)]; simp [h.1], hc, hs⟩
  · rw [List.getElem?_eq_none (by simp; omega)] at hm
    cases hm

/-- The slice of n slices at A shows the lists L. -/
def SeesAll (w : World) (A : Option Addr) (n : Nat) (L : List (List UInt8)) : Prop :=
  ∃ vs, Each w vs L ∧ vs.length = n ∧ (0 < n → ∃ b o, A = some ⟨b, o, none⟩ ∧ ∀ (j : Nat) (v : Value), vs[j]? = some v → w.cell? ⟨b, o + j, none⟩ = some v)
theorem SeesAll.nil (w : World) (A : Option Addr) : SeesAll w A 0 [] := ⟨[], Each.nil w, rfl, fun h => absurd h (by omega)⟩
theorem SeesAll.len {w : World} {A : Option Addr} {n : Nat} {L : List (List UInt8)} (h : SeesAll w A n L) : L.length = n := by
  obtain ⟨vs, h1, h2, _⟩ := h
  rw [← h1.1, h2]
theorem SeesAll.below {w w' : World} {A : Option Addr} {n : Nat} {L : List (List UInt8)} (h : SeesAll w A n L) (hb : Below w.heap.size w w') : SeesAll w' A n L := by
  obtain ⟨vs, h1, h2, h3⟩ := h
  refine ⟨vs, h1.below hb, h2, fun hn => ?_⟩
  obtain ⟨b, o, hA, hc⟩ := h3 hn
  refine ⟨b, o, hA, fun j v hv => ?_⟩
  have hcell := hc j v hv
  rw [hb.cell (p := ⟨b, o + j, none⟩) (World.block_lt_of_cell? _ _ hcell)]
  exact hcell
theorem SeesAll.drew {w : World} {A : Option Addr} {n : Nat} {L : List (List UInt8)} (h : SeesAll w A n L) : SeesAll w.drew A n L := h
theorem SeesAll.of_own {w : World} {base : Nat} {e : TypeId} {A : Option Addr} {n c : Nat} {vs : List Value} {L : List (List UInt8)} (h : w.ownsRow base e 1 (.slice A n c) n vs) (he : Each w vs L) : SeesAll w A n L := by
  refine ⟨vs, he, by have := h.1; omega, fun hn => ?_⟩
  obtain ⟨g, rfl, _⟩ := Own.at_ h hn
  exact ⟨g, 0, rfl, fun j v hv => by rw [← add_plain]; exact h.cells (g := g) rfl j v hv⟩
/-- Element j, in the world: the slice that stands in the cell, and what it shows. -/
theorem SeesAll.get {w : World} {A : Option Addr} {n : Nat} {L : List (List UInt8)} (h : SeesAll w A n L) {j : Nat} (hj : j < n) :
    ∃ b o A' c', A = some ⟨b, o, none⟩ ∧ w.cell? ⟨b, o + j, none⟩ = some (.slice A' (L.getD j []).length c') ∧ (L.getD j []).length ≤ c' ∧ Sees w A' (L.getD j []).length (L.getD j []) := by
  have hl := h.len
  obtain ⟨vs, h1, h2, h3⟩ := h
  obtain ⟨b, o, hA, hc⟩ := h3 (by omega)
  have hg : L[j]? = some (L.getD j []) := by
    rw [List.getD_eq_getElem?_getD, List.getElem?_eq_getElem (by omega)]
    rfl
  obtain ⟨A', c', hv, hlc, hs⟩ := h1.2 j _ hg
  exact ⟨b, o, A', c', hA, hc j _ hv, hlc, hs⟩
theorem slice_one (A : Option Addr) (n c : Nat) : ∀ u ∈ [Value.slice A n c], u.oneCell' = true := by
  intro u hu
  simp at hu
  subst hu
  rfl
/-- What a row of numbers shows as bytes. -/
def rowBytes (zs : List Int) (len : Nat) : List UInt8 := (zs.take len).map fun n => UInt8.ofNat n.toNat
theorem sees_of_cells {w : World} {a : Option Addr} {len cap : Nat} {zs : List Int} (hl : len ≤ cap) (hz : zs.length = cap) (hw : ∀ n ∈ zs, (Lit.int .u8 n).wf = true) (h0 : a = none → cap = 0)
    (hc : ∀ x, a = some x → ∀ i, i < cap → w.cell? (x.add i) = some (.int .u8 (zs.getD i 0))) : Sees w a len (rowBytes zs len) := by
  unfold rowBytes
  refine ⟨by simp; omega, fun hn => ?_⟩
  cases a with
  | none => have := h0 rfl; omega
  | some x =>
    obtain ⟨b, o, s⟩ := x
    have hs0 : s = none := by
      have := hc _ rfl 0 (by omega)
      simpa [Addr.add] using World.cell?_spot this
    subst hs0
    refine ⟨b, o, rfl, fun j u hu => ?_⟩
    simp only [List.getElem?_map, Option.map_eq_some_iff, List.getElem?_take] at hu
    obtain ⟨n, hn', rfl⟩ := hu
    split at hn'
    · have hcj := hc _ rfl j (by omega)
      rw [add_plain] at hcj
      rw [hcj]
      have e : zs.getD j 0 = n := by simp [List.getD, hn']
      have hwf := hw n (List.mem_of_getElem? hn')
      have hb : 0 ≤ n ∧ n < 256 := by
        simp [Lit.wf, IntKind.min, IntKind.max, IntKind.signed, IntKind.bits] at hwf
        omega
      rw [e]
      congr 1
      congr 1
      rw [UInt8.toNat_ofNat']
      omega
    · cases hn'
/-- A slice of slices of bytes that came in, as the rows open it. -/
theorem all_of_rows {w : World} {a : Addr} {len cap : Nat} {A : Nat → Option Addr} {L C : Nat → Nat} {Z : Nat → List Int} (hl : len ≤ cap)
    (h : ∀ r, r < cap → w.cell? (a.add r) = some (.slice (A r) (L r) (C r)) ∧ L r ≤ C r ∧ C r ≤ maxLen ∧ (Z r).length = C r ∧ (∀ n ∈ Z r, (Lit.int .u8 n).wf = true) ∧ (A r = none → C r = 0) ∧
      ∀ a', A r = some a' → 0 ≤ a'.block ∧ ∀ c, c < C r → w.cell? (a'.add c) = some (.int .u8 ((Z r).getD c 0))) :
    ∃ LL, SeesAll w (some a) len LL ∧ ∀ l ∈ LL, l.length ≤ 9223372036854775807 := by
  have hlen : ∀ r, r < cap → (rowBytes (Z r) (L r)).length = L r := fun r hr => by
    obtain ⟨_, h1, _, h3, _⟩ := h r hr
    unfold rowBytes
    simp
    omega
  refine ⟨(List.range len).map fun r => rowBytes (Z r) (L r), ⟨(List.range len).map fun r => .slice (A r) (L r) (C r), ⟨by simp, fun j l hj => ?_⟩, by simp, fun hn => ?_⟩, fun l hl' => ?_⟩
  · simp only [List.getElem?_map, Option.map_eq_some_iff] at hj
    obtain ⟨r, hr, rfl⟩ := hj
    have hjr : j = r ∧ j < len := by
      rcases Nat.lt_or_ge j len with h' | h'
      · rw [List.getElem?_range h'] at hr
        injection hr with hr
        exact ⟨hr, h'⟩
      · rw [List.getElem?_eq_none (by simpa using h')] at hr; cases hr
    obtain ⟨rfl, hjl⟩ := hjr
    obtain ⟨_, h1, _, h3, h4, h5, h6⟩ := h j (by omega)
    rw [hlen j (by omega)]
    exact ⟨A j, C j, by simp [hjl], h1, sees_of_cells h1 h3 h4 h5 fun x hx => (h6 x hx).2⟩
  · obtain ⟨b, o, s⟩ := a
    have hs0 : s = none := by
      have := (h 0 (by omega)).1
      simpa [Addr.add] using World.cell?_spot this
    subst hs0
    refine ⟨b, o, rfl, fun j v hv => ?_⟩
    simp only [List.getElem?_map, Option.map_eq_some_iff] at hv
    obtain ⟨r, hr, rfl⟩ := hv
    have hjl : j < len := by
      rcases Nat.lt_or_ge j len with h' | h'
      · exact h'
      · rw [List.getElem?_eq_none (by simpa using h')] at hr; cases hr
    rw [List.getElem?_range hjl] at hr
    injection hr with hr
    subst hr
    rw [← add_plain]
    exact (h j (by omega)).1
  · simp only [List.mem_map, List.mem_range] at hl'
    obtain ⟨r, hr, rfl⟩ := hl'
    rw [hlen r (by omega)]
    have h1 := (h r (by omega)).2.1
    have h2 := (h r (by omega)).2.2.1
    unfold maxLen at h2
    omega
end Go.Proofs.Ytpfmgjfkjjnadaa.Words
