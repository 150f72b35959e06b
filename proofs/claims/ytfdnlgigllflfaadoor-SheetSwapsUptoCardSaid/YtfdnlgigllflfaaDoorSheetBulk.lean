/- What the bound on the arguments gives: how much texts that came in come to. -/
import Derived.Test.YtfdnlgigllflfaaDoorBSheet
import Derived.Deep.Matrix
namespace Go.Proofs.YtfdnlgigllflfaaDoor.Sht
open Go Go.RowKit Go.Deep Go.ChangeShapes Go.Proofs.YtfdnlgigllflfaaDoor.Words
set_option linter.unusedVariables false

theorem bulk_one {H : Type} (d : DataW H) : 1 ≤ Rows.uptoBulk d := by
  cases d with
  | lit l => cases l <;> simp [Rows.uptoBulk]
  | nil => simp [Rows.uptoBulk]
  | ptr d => simp [Rows.uptoBulk]
  | slice elems spare => simp [Rows.uptoBulk]
  | agg parts => simp [Rows.uptoBulk]
  | iface t d => simp [Rows.uptoBulk]
  | map entries => simp [Rows.uptoBulk]
  | held h => simp [Rows.uptoBulk]
theorem bulk_len {H : Type} (l : List (DataW H)) : l.length ≤ Rows.uptoBulkAll l := by
  induction l with
  | nil => simp
  | cons x r ih => have := bulk_one x; simp only [Rows.uptoBulkAll, List.length_cons]; omega
/-- Texts as the rows open them: each counts. -/
theorem lens_bulk {H : Type} (A : Nat → Option Addr) (L C : Nat → Nat) (Z : Nat → List Int) (rs : List Nat) (h : ∀ r ∈ rs, L r ≤ C r ∧ (Z r).length = C r ∧ (A r = none → C r = 0)) :
    lens (rs.map fun r => rowBytes (Z r) (L r)) ≤ 10 * Rows.uptoBulkAll (H := H) (rs.map fun r => intRow .u8 (A r) (L r) (Z r)) := by
  induction rs with
  | nil => simp [lens]
  | cons r rs ih =>
    have h1 := ih fun x hx => h x (by simp [hx])
    obtain ⟨h2, h3, h4⟩ := h r (by simp)
    simp only [List.map_cons, lens, Rows.uptoBulkAll]
    have h5 : (rowBytes (Z r) (L r)).length + 10 ≤ 10 * Rows.uptoBulk (H := H) (intRow .u8 (A r) (L r) (Z r)) := by
      have hl : (rowBytes (Z r) (L r)).length = L r := by
        unfold rowBytes
        simp
        omega
      rw [hl]
      unfold intRow
      cases hA : A r with
      | none =>
        have := h4 hA
        simp [Rows.uptoBulk]
        omega
      | some a =>
        simp only [Rows.uptoBulk]
        have := bulk_len (H := H) (lits .u8 ((Z r).take (L r)))
        have hll : (lits (H := H) .u8 ((Z r).take (L r))).length = L r := by
          unfold lits
          simp
          omega
        omega
    omega
/-- A slice of slices of bytes that came in, and what the bound gives of it. -/
theorem all_of_rows_bulk {H : Type} {w : World} {a : Addr} {len cap : Nat} {A : Nat → Option Addr} {L C : Nat → Nat} {Z : Nat → List Int} {spare : List (DataW H)} (hl : len ≤ cap)
    (h : ∀ r, r < cap → w.cell? (a.add r) = some (.slice (A r) (L r) (C r)) ∧ L r ≤ C r ∧ C r ≤ maxLen ∧ (Z r).length = C r ∧ (∀ n ∈ Z r, (Lit.int .u8 n).wf = true) ∧ (A r = none → C r = 0) ∧
      ∀ a', A r = some a' → 0 ≤ a'.block ∧ ∀ c, c < C r → w.cell? (a'.add c) = some (.int .u8 ((Z r).getD c 0))) :
    ∃ LL, SeesAll w (some a) len LL ∧ lens LL ≤ 10 * Rows.uptoBulk (H := H) (.slice ((List.range len).map fun r => intRow .u8 (A r) (L r) (Z r)) spare) := by
  have hb := lens_bulk (H := H) A L C Z (List.range len) fun r hr => by
    obtain ⟨_, h1, _, h3, _, h5, _⟩ := h r (by simp at hr; omega)
    exact ⟨h1, h3, h5⟩
  obtain ⟨LL, hs, _⟩ := all_of_rows hl h
  have hlen : ∀ r, r < cap → (rowBytes (Z r) (L r)).length = L r := fun r hr => by
    obtain ⟨_, h1, _, h3, _⟩ := h r hr
    unfold rowBytes
    simp
    omega
  refine ⟨(List.range len).map fun r => rowBytes (Z r) (L r), ?_, ?_⟩
  · have e : LL = (List.range len).map fun r => rowBytes (Z r) (L r) := by
      obtain ⟨vs, h1, h2, h3⟩ := hs
      refine List.ext_getElem? fun j => ?_
      rcases Nat.lt_or_ge j len with hj | hj
      · have hjl : j < LL.length := by have := h1.1; omega
        obtain ⟨Aj, cj, hv, hcj, hsj⟩ := h1.2 j LL[j] (List.getElem?_eq_getElem hjl)
        obtain ⟨b, o, hab, hc⟩ := h3 (by omega)
        have hcell := hc j _ hv
        have hr := (h j (by omega)).1
        injection hab with hab
        subst hab
        rw [add_plain, hcell] at hr
        injection hr with hr
        injection hr with e1 e2 e3
        rw [List.getElem?_eq_getElem hjl, List.getElem?_map, List.getElem?_range hj]
        simp only [Option.map_some]
        congr 1
        obtain ⟨_, q1, _, q3, q4, q5, q6⟩ := h j (by omega)
        have hs2 := sees_of_cells (w := w) (a := A j) q1 q3 q4 q5 fun x hx => (q6 x hx).2
        rw [e1] at hsj
        refine List.ext_getElem? fun i => ?_
        have hl1 : LL[j].length = L j := e2
        have hl2 := hlen j (by omega)
        rcases Nat.lt_or_ge i (L j) with hi | hi
        · obtain ⟨b1, o1, ea, hc1⟩ := hsj.2 (by omega)
          obtain ⟨b2, o2, ea2, hc2⟩ := hs2.2 (by omega)
          rw [ea] at ea2
          injection ea2 with ea2
          injection ea2 with eb eo
          subst eb
          subst eo
          have i1 := hc1 i _ (List.getElem?_eq_getElem (by omega))
          have i2 := hc2 i _ (List.getElem?_eq_getElem (by omega))
          rw [i1] at i2
          injection i2 with i2
          injection i2 with _ i2
          rw [List.getElem?_eq_getElem (by omega), List.getElem?_eq_getElem (by omega)]
          congr 1
          exact UInt8.toNat_inj.1 (by omega)
        · rw [List.getElem?_eq_none (by omega), List.getElem?_eq_none (by omega)]
      · rw [List.getElem?_eq_none (by have := h1.1; omega), List.getElem?_eq_none (by simpa using hj)]
    rw [← e]
    exact hs
  · refine Nat.le_trans hb ?_
    simp only [Rows.uptoBulk]
    omega
end Go.Proofs.YtfdnlgigllflfaaDoor.Sht
