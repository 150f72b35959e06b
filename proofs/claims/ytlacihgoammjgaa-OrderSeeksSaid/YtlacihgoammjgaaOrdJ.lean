/- Order: over, left. -/
import Derived.Test.YtlacihgoammjgaaOrdI
namespace Go.Proofs.Ytlacihgoammjgaa.Ord
open Go Go.RowKit Go.Proofs.Ytlacihgoammjgaa.Words Go.Proofs.Ytlacihgoammjgaa.Enc Go.Proofs.Ytlacihgoammjgaa.Evt Go.Proofs.Ytlacihgoammjgaa.Seg
set_option linter.unusedVariables false
set_option linter.unusedSimpArgs false

/-- A row of lists, below block B. -/
structure Lists (B : Nat) (w : World) (Al : Option Addr) (L : List HV) : Prop where
  row : 0 < L.length → ∃ b o, b < B ∧ Al = some ⟨b, o, none⟩ ∧ ∀ k x, L[k]? = some x → w.cell? ⟨b, o + k, none⟩ = some x.val
  lie : ∀ x ∈ L, Lies B w x
theorem Lists.below {B : Nat} {w w' : World} {Al : Option Addr} {L : List HV} (h : Lists B w Al L) (hb : Below B w w') : Lists B w' Al L :=
  ⟨fun hn => by
    obtain ⟨b, o, h1, h2, h3⟩ := h.row hn
    exact ⟨b, o, h1, h2, fun k x hx => by rw [hb.cell h1]; exact h3 k x hx⟩, fun x hx => (h.lie x hx).below hb⟩

set_option maxRecDepth 100000 in
set_option maxHeartbeats 4000000 in
theorem over_any (Al : Option Addr) (cl : Nat) (L : List HV) (w : World) (h : Lists w.heap.size w Al L) (hn : L.length ≤ 1000000000) :
    Calls Try.prog 28 #[.slice Al L.length cl] w fun e w' => ∃ hs, e = .returned (.pointer (some ⟨w.heap.size, 0, none⟩)) ∧ HeapAt w.heap.size w.heap.size 70 hs w' ∧ hs.Perm (L.filter hasEv) ∧ Below w.heap.size w w' := by
  have H0 : HeapAt w.heap.size w.heap.size 70 [] (w.alloc (.cells #[.slice none 0 0] 70)) :=
    ⟨⟨none, 0, heap_alloc_new w _, World.ownsRow_nil _ _ _ 1, fun a ha => (by cases ha), Nat.le_refl _, fun x hx => (by cases hx)⟩, fun k h1 h2 => by simp at h2, fun x hx => by cases hx⟩
  have B0 : Below w.heap.size w (w.alloc (.cells #[.slice none 0 0] 70)) := (Below.refl _ _).alloc (Nat.le_refl _) _
  obtain ⟨u, hu⟩ : ∃ u, u = w.alloc (.cells #[.slice none 0 0] 70) := ⟨_, rfl⟩
  rw [← hu] at H0 B0
  obtain ⟨n, hn'⟩ : ∃ n, n = L.length := ⟨_, rfl⟩
  have HL := Lib.hid h
  have HH0 := Lib.hid (And.intro H0 B0)
  have HU := Lib.hid hu
  have HN := Lib.hid hn'
  rw [← hn'] at hn ⊢
  clear h H0 B0 hu hn'
  go_enter Try.func28, Try.ntmps28
  go_wp2_with fail
  rw [← HU.out]
  go_loopw [10] (fun iv W => ∃ k : Nat, iv = .int .i64 (k : Int) ∧ k ≤ n ∧ Hid (∃ hs, HeapAt w.heap.size w.heap.size 70 hs W ∧ hs.Perm ((L.take k).filter hasEv) ∧ Below w.heap.size w W)) (fun iv _ => n - (intOf iv).toNat)
  case atStart => exact ⟨0, rfl, Nat.zero_le _, Lib.hid ⟨[], HH0.out.1, by simp, HH0.out.2⟩⟩
  case round =>
    obtain ⟨k, rfl, hk, HR⟩ := hrel
    by_cases hlt : k < n
    · obtain ⟨hs, hA, hp, hb⟩ := HR.out
      have hkL : k < L.length := by rw [← HN.out]; exact hlt
      have hL := HL.out.below hb
      obtain ⟨lb, lo, hlb, rfl, hcell⟩ := hL.row (by omega)
      have hx := hcell k L[k] (List.getElem?_eq_getElem hkL)
      have hhs : hs.length ≤ 1000000000 := by
        rw [hp.length_eq]
        refine Nat.le_trans (List.length_filter_le _ _) ?_
        rw [List.length_take]; omega
      have AD := add_any hA hb.size L[k] (hL.lie _ (List.getElem_mem hkL)) hhs
      have NEXT : ∀ W, (∃ hs', HeapAt w.heap.size w.heap.size 70 hs' W ∧ hs'.Perm (hs ++ [L[k]].filter hasEv)) → Below w.heap.size wr W → Hid (∃ hs, HeapAt w.heap.size w.heap.size 70 hs W ∧ hs.Perm ((L.take (k + 1)).filter hasEv) ∧ Below w.heap.size w W) := fun W hW hbW => by
        obtain ⟨hs', h1, h2⟩ := hW
        refine Lib.hid ⟨hs', h1, h2.trans ?_, hb.trans hbW⟩
        rw [← List.take_append_getElem hkL, List.filter_append]
        exact hp.append_right _
      obtain ⟨xa, xn, xc, hxv⟩ : ∃ xa xn xc, L[k].val = .slice xa xn xc := ⟨_, _, _, rfl⟩
      rw [hxv] at hx AD
      have zk : (k : Int) < (n : Int) := by omega
      have zk0 : (0 : Int) ≤ (k : Int) := by omega
      have HAD := Lib.hid AD
      have HNX := Lib.hid NEXT
      clear hA hp hb hL hcell hhs AD NEXT hxv
      go_wp2_with fail
      refine HAD.out.mono ?_
      rintro e w1 ⟨rfl, h1, hb1⟩
      have HF := HNX.out w1 h1 hb1
      clear h1 hb1 HAD HNX
      go_wp2
      go_roundw
      case rel => exact ⟨k + 1, rfl, by omega, HF⟩
      case measure => simp [intOf]; omega
    · have hkn : k = n := by omega
      subst hkn
      go_wp2
      go_ret
      obtain ⟨hs, hA, hp, hb⟩ := HR.out
      rw [HN.out, List.take_length] at hp
      exact ⟨hs, rfl, hA, hp, hb⟩

theorem flat_len_take (hs : List HV) (k : Nat) (hk : k < hs.length) : (flat (hs.take (k + 1))).length = (flat (hs.take k)).length + (HV.at_ hs k).S.length := by
  have : HV.at_ hs k = hs[k] := by simp [HV.at_, List.getD_eq_getElem?_getD, List.getElem?_eq_getElem hk]
  rw [this, ← List.take_append_getElem hk]
  unfold flat
  rw [List.flatMap_append, List.length_append]
  simp
theorem flat_len_le (hs : List HV) (k : Nat) : (flat (hs.take k)).length ≤ (flat hs).length := by
  conv => rhs; rw [← List.take_append_drop k hs]
  unfold flat
  rw [List.flatMap_append, List.length_append]
  omega

set_option maxRecDepth 100000 in
set_option maxHeartbeats 4000000 in
theorem cleft_any {B p : Nat} {T : TypeId} {A : Option Addr} {c : Nat} {hs : List HV} {w : World} (h : HeadsAt B p T A c hs w) (hm : (flat hs).length ≤ 4000000000000000000) (hnn : hs.length ≤ 1000000000) :
    Calls Try.prog 50 #[.pointer (some ⟨p, 0, none⟩)] w fun e w' => e = .returned (.int .i64 ((flat hs).length : Int)) ∧ w' = w := by
  have hc := h.cell
  obtain ⟨n, hn'⟩ : ∃ n, n = hs.length := ⟨_, rfl⟩
  rw [← hn'] at hc hnn
  have HN := Lib.hid hn'
  have HH := Lib.hid h
  clear hn' h
  go_enter Try.func50, Try.ntmps50
  go_wp2_with fail
  go_loopw [3, 11] (fun sv iv W => ∃ k : Nat, iv = .int .i64 (k : Int) ∧ sv = .int .i64 (((flat (hs.take k)).length : Nat) : Int) ∧ k ≤ n ∧ w = W) (fun _ iv _ => n - (intOf iv).toNat)
  case atStart => exact ⟨0, rfl, by simp [flat], Nat.zero_le _, rfl⟩
  case round =>
    obtain ⟨k, rfl, rfl, hk, rfl⟩ := hrel
    by_cases hlt : k < n
    · have hkL : k < hs.length := by rw [← HN.out]; exact hlt
      obtain ⟨g, rfl, _, _, hcell⟩ := HH.out.get (by omega)
      have hx := hcell k hkL
      have hs1 := flat_len_take hs k hkL
      have hs2 := flat_len_le hs (k + 1)
      unfold HV.val at hx
      generalize (flat (hs.take k)).length = s at *
      generalize (HV.at_ hs k).S.length = m at *
      generalize (HV.at_ hs k).A = xa at *
      generalize (HV.at_ hs k).c = xc at *
      have zk : (k : Int) < (n : Int) := by omega
      have zk0 : (0 : Int) ≤ (k : Int) := by omega
      have zb : (s : Int) + (m : Int) ≤ 4000000000000000000 := by omega
      have HS := Lib.hid hs1
      clear hcell hs1 hs2
      go_wp2
      go_roundw
      case rel => exact ⟨k + 1, rfl, by rw [HS.out]; simp, by omega, trivial⟩
      case measure => simp [intOf]; omega
    · have hkn : k = n := by omega
      have e : hs.take k = hs := by rw [hkn, HN.out, List.take_length]
      rw [e]
      subst hkn
      clear e
      obtain ⟨s, hsl⟩ : ∃ s, (flat hs).length = s := ⟨_, rfl⟩
      rw [hsl]
      have HSL := Lib.hid hsl
      rw [hsl] at hm
      clear hsl
      go_wp2
      go_ret
      exact ⟨by rw [HSL.out]; rfl, rfl⟩
end Go.Proofs.Ytlacihgoammjgaa.Ord
