/- Order: copies of a row of events. -/
import Derived.Test.YtlacihgoammjgaaOrdRg
import Derived.Test.YtlacihgoammjgaaOrdReg
import Derived.Lib.SliceRun
namespace Go.Proofs.Ytlacihgoammjgaa.Ord
open Go Go.RowKit Go.Proofs.Ytlacihgoammjgaa.Words Go.Proofs.Ytlacihgoammjgaa.Enc Go.Proofs.Ytlacihgoammjgaa.Evt Go.Proofs.Ytlacihgoammjgaa.Seg
set_option linter.unusedVariables false
set_option linter.unusedSimpArgs false

theorem eqlE_none (w : World) (n c : Nat) : (binOp .eql 26 (.slice none n c) (.slice none 0 0)).run Try.prog w = .ok (.bool true) w := by
  rw [Lib.run_eql_slice_nil w 26 34 none n c 0 0 Try.underlying26]
  rfl
theorem eqlE_some (w : World) (a : Addr) (n c : Nat) : (binOp .eql 26 (.slice (some a) n c) (.slice none 0 0)).run Try.prog w = .ok (.bool false) w := by
  rw [Lib.run_eql_slice_nil w 26 34 (some a) n c 0 0 Try.underlying26]
  rfl
def CloneE (w : World) (S : List EvS) (n : Nat) (e : Ending) (w' : World) : Prop :=
  ∃ A' c', e = .returned (.slice A' n c') ∧ w'.ownsRow w.heap.size 34 8 (.slice A' n c') n (rowsL S) ∧ Below w.heap.size w w'
set_option maxRecDepth 100000 in
theorem cloneE_any (A : Option Addr) (n c : Nat) (S : List EvS) (w : World) (hv : RawEv w A S) (hl : S.length = n) (hn : n ≤ 900000) :
    Calls Try.prog 26 #[.slice A n c] w (CloneE w S n) := by
  cases A with
  | none =>
    have h0 : n = 0 := by
      rcases Nat.eq_zero_or_pos n with h | h
      · exact h
      · obtain ⟨b, o, e, _⟩ := hv (by omega)
        cases e
    subst h0
    have hl0 : S = [] := List.eq_nil_of_length_eq_zero hl
    subst hl0
    have he := eqlE_none w 0 c
    have FIN : Hid (CloneE w [] 0 (.returned (.slice none 0 0)) w) := Lib.hid ⟨none, 0, rfl, own_nil8 _ _ _, Below.refl _ _⟩
    go_enter Try.func26, Try.ntmps26
    go_wp2
    go_ret
    exact FIN.out
  | some a =>
    obtain ⟨ie, hie, hze, hsze, hbye⟩ := info_parts infoEv
    have he := eqlE_some w a n c
    have hb1 := (Below.refl w.heap.size w).alloc (Nat.le_refl _) (.cells #[] 34)
    have hv1 := Lib.hid (hv.below hb1)
    have own0 := World.ownsRow_lit (base := w.heap.size) (e := 34) (size := 8) w #[] 0 (Nat.le_refl _) (by decide) rfl
    have HO0 := Lib.hid own0
    have hsz : w.heap.size ≤ (w.alloc (.cells #[] 34)).heap.size := hb1.size
    have HSZ := Lib.hid hsz
    have HB1 := Lib.hid hb1
    have HL := Lib.hid hl
    clear hv own0 hsz hb1 hl
    go_enter Try.func26, Try.ntmps26
    go_wp2_with (first | (refine wpList_appE rfl (.tmp 5) (.tmp 6) 26 rfl w.heap.size 34 ie zeroEV Try.underlying26 hie hze hsze hbye rfl (some ⟨w.heap.size, 0, none⟩) 0 0 [] ?hs ?hown (some a) n c S ?hx ?hl ?hq ?h63 ?hbase ?h))
    case hown => exact HO0.out
    case hl => exact HL.out
    case hq => exact hv1.out
    case h63 => omega
    intro A' c' w' own bel
    have FIN : Hid (CloneE w S n (.returned (.slice A' n c')) w') := Lib.hid ⟨A', c', rfl, by simpa using own, HB1.out.trans bel⟩
    clear own bel hv1 HO0 HB1
    go_wp2
    go_ret
    exact FIN.out

/-- The cells of a row in which an event has become another one. -/
theorem rowsL_set {S : List EvS} {j : Nat} {r : EvS} (hj : j < S.length) {k : Nat} {v : Value} (h : (rowsL (S.set j r))[k]? = some v) : (j * 8 ≤ k ∧ k < j * 8 + 8 ∧ r.cells[k - j * 8]? = some v) ∨ ((k < j * 8 ∨ j * 8 + 8 ≤ k) ∧ (rowsL S)[k]? = some v) := by
  have hk : k < S.length * 8 := by have := (List.getElem?_eq_some_iff.1 h).1; rw [rowsL_len, List.length_set] at this; exact this
  have hq : k / 8 < S.length := by omega
  have hke : 8 * (k / 8) + k % 8 = k := by omega
  by_cases e : k / 8 = j
  · left
    have h1 := rowsL_get (S.set j r) j (k % 8) r (by rw [List.getElem?_set_self hj]) (by omega)
    rw [show 8 * j + k % 8 = k by omega, h] at h1
    exact ⟨by omega, by omega, by rw [show k - j * 8 = k % 8 by omega]; exact h1.symm⟩
  · right
    have hg : (S.set j r)[k / 8]? = some S[k / 8] := by rw [List.getElem?_set_ne (Ne.symm e), List.getElem?_eq_getElem hq]
    have h1 := rowsL_get (S.set j r) (k / 8) (k % 8) _ hg (by omega)
    have h2 := rowsL_get S (k / 8) (k % 8) _ (List.getElem?_eq_getElem hq) (by omega)
    rw [hke] at h1 h2
    exact ⟨by omega, by rw [h2, ← h1, h]⟩
/-- A row of copies at block g, of which some are the caller's. -/
structure CopyAt (B g cap : Nat) (S Sj : List EvS) (W : World) : Prop where
  row : ∃ cur : Array Value, W.heap[g]? = some (.cells cur 34 (0, 0)) ∧ cur.size = cap * 8 ∧ ∀ (k : Nat) (v : Value), (rowsL Sj)[k]? = some v → cur[k]? = some v
  len : Sj.length = S.length
  cap_ : S.length ≤ cap
  evs : Sj.map EvS.e = S.map EvS.e
  text : ∀ r ∈ Sj, TextLow W.heap.size W r ∧ (0 < r.n → ∀ a, r.A = some a → a.block ≠ g)
theorem CopyAt.below {B g cap : Nat} {S Sj : List EvS} {W W' : World} (h : CopyAt B g cap S Sj W) (hb : Below W.heap.size W W') : CopyAt B g cap S Sj W' := by
  obtain ⟨cur, h1, h2, h3⟩ := h.row
  exact ⟨⟨cur, (hb.block g (Array.getElem?_eq_some_iff.1 h1).1).trans h1, h2, h3⟩, h.len, h.cap_, h.evs, fun r hr => ⟨((h.text r hr).1.below hb).wide hb.size, (h.text r hr).2⟩⟩
theorem CopyAt.there {B g cap : Nat} {S Sj : List EvS} {W : World} (h : CopyAt B g cap S Sj W) {j : Nat} (hj : j < S.length) : W.there g (j * 8) 8 := by
  obtain ⟨cur, h1, h2, h3⟩ := h.row
  intro k hk
  refine ⟨?_, frozen_row0 h1⟩
  have := h.cap_
  rw [cell_of_row W g _ _ _ _ h1, Array.getElem?_eq_getElem (by omega)]
  rfl
theorem sees_off {w w' : World} {A : Option Addr} {n : Nat} {l : List UInt8} {g : Nat} (h : Sees w A n l) (hb : Beside [g] w w') (hg : 0 < n → ∀ a, A = some a → a.block ≠ g) : Sees w' A n l :=
  h.beside hb fun h0 a ha => by simpa using hg h0 a ha
theorem CopyAt.put {B g cap : Nat} {S Sj : List EvS} {W : World} (h : CopyAt B g cap S Sj W) {j : Nat} (hj : j < S.length) (r : EvS) (hr : TextLow W.heap.size W r ∧ (0 < r.n → ∀ a, r.A = some a → a.block ≠ g)) (he : r.e = (evAt S j).e) :
    CopyAt B g cap S (Sj.set j r) (W.setCells g (j * 8) r.cells) := by
  obtain ⟨cur, h1, h2, h3⟩ := h.row
  obtain ⟨cur', k1, k2, k3, k4⟩ := setCells_heap g 34 (0, 0) r.cells (j * 8) W cur h1
  have hb := setCells_beside g r.cells (j * 8) W
  have hcap := h.cap_
  refine ⟨⟨cur', k1, by rw [k2, h2], fun k v hv => ?_⟩, by rw [List.length_set, h.len], hcap, ?_, fun x hx => ?_⟩
  · rcases rowsL_set (by rw [h.len]; exact hj) hv with ⟨e1, e2, e3⟩ | ⟨e1, e2⟩
    · have := k4 (k - j * 8) (by rw [EvS.cells_len]; omega) (by omega)
      rw [show j * 8 + (k - j * 8) = k by omega] at this
      rw [this]; exact e3
    · rw [k3 k (by rw [EvS.cells_len]; omega)]
      exact h3 k v e2
  · rw [List.map_set, h.evs, he]
    refine List.ext_getElem? fun k => ?_
    rw [List.getElem?_set]
    split
    · rename_i e
      subst e
      rw [List.length_map, if_pos hj, List.getElem?_map, evAt_get hj]; rfl
    · rfl
  · have low : ∀ x : EvS, (TextLow W.heap.size W x ∧ (0 < x.n → ∀ a, x.A = some a → a.block ≠ g)) → TextLow (W.setCells g (j * 8) r.cells).heap.size (W.setCells g (j * 8) r.cells) x ∧ (0 < x.n → ∀ a, x.A = some a → a.block ≠ g) := fun x hx =>
      ⟨⟨sees_off hx.1.sees hb hx.2, hx.1.few, fun h0 a ha => by have := hx.1.low h0 a ha; have := hb.size; omega⟩, hx.2⟩
    rcases List.mem_or_eq_of_mem_set hx with h5 | rfl
    · exact low x (h.text x h5)
    · exact low _ hr
theorem CopyAt.lies {B g cap : Nat} {S Sj : List EvS} {W : World} (h : CopyAt B g cap S Sj W) (hc : cap ≤ 9223372036854775807) : Lies W.heap.size W ⟨some ⟨g, 0, none⟩, cap, Sj⟩ := by
  obtain ⟨cur, h1, h2, h3⟩ := h.row
  refine ⟨⟨by show Sj.length ≤ cap; rw [h.len]; exact h.cap_, hc⟩, fun _ => ⟨g, 0, (Array.getElem?_eq_some_iff.1 h1).1, rfl, fun k v hv => ?_⟩⟩
  rw [Nat.zero_add, cell_of_row W g _ _ _ _ h1]
  exact h3 k v hv
end Go.Proofs.Ytlacihgoammjgaa.Ord
