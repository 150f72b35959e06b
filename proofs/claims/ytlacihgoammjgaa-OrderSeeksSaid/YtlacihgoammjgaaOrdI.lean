/- Order: container/heap: Pop; add, over. -/
import Derived.Test.YtlacihgoammjgaaOrdH
namespace Go.Proofs.Ytlacihgoammjgaa.Ord
open Go Go.RowKit Go.Proofs.Ytlacihgoammjgaa.Words Go.Proofs.Ytlacihgoammjgaa.Enc Go.Proofs.Ytlacihgoammjgaa.Evt Go.Proofs.Ytlacihgoammjgaa.Seg
set_option linter.unusedVariables false
set_option linter.unusedSimpArgs false

set_option maxRecDepth 100000 in
set_option maxHeartbeats 4000000 in
theorem hpop_any {B p n : Nat} {T : TypeId} {A : Option Addr} {c : Nat} {hs : List HV} {w : World} (hA : HeadsAt B p T A c hs w) (hH : Heap hs) (hl : hs.length = n + 1) (hn : n ≤ 1000000000) :
    Calls Try.prog 30 #[IH p] w fun e w' => (∃ v, e = .returned v) ∧ (∃ hs', HeadsAt B p T A c hs' w' ∧ Heap hs' ∧ (hs' ++ [HV.at_ hs 0]).Perm hs) ∧ Below B w w' ∧ Beside (mine p A) w w' := by
  have LEN := m_len p _ w hA.cell
  have SWM := m_swap p _ w hA.cell
  have SW := swap_any hA 0 n (by omega) (by omega)
  have e1 := at_swap (hs := hs) (i := 0) (j := n) (by omega) (by omega)
  have hp1 := swL_perm hs noHV 0 n (by omega) (by omega)
  have hl1 : (swL hs noHV 0 n).length = n + 1 := by rw [swL_len, hl]
  have DO : ∀ W, HeadsAt B p T A c (swL hs noHV 0 n) W → Below B w W → Beside (mine p A) w W → Calls Try.prog 44 #[IH p, .int .i64 0, .int .i64 (n : Int)] W (DownEnd B p T A c (n + 1) hs w (swL hs noHV 0 n) n) := fun W hW hb hbs =>
    down_any (B := B) (w0 := w) (hs0 := hs) (n := n + 1) (swL hs noHV 0 n) W n (by omega) (by omega) ⟨hW, hp1, hl1, fun x hx => hH.ne x (hp1.mem_iff.1 hx), hb, hbs⟩
      (Heaped.down0 (f := HV.at_ hs) (n := n) (fun k k1 k2 => hH.ord k k1 (by omega)) (fun k k1 k2 => by rw [e1]; unfold swp; rw [if_neg (by omega), if_neg (by omega)]) (Nat.le_refl _))
  have PO : ∀ hs2 W, Mends B p T A c (n + 1) hs w hs2 W → Heaped hvLe (HV.at_ hs2) n → (∀ k, n ≤ k → HV.at_ hs2 k = HV.at_ (swL hs noHV 0 n) k) → Calls Try.prog 91 #[.pointer (some ⟨p, 0, none⟩)] W fun e w' => (∃ v, e = .returned v) ∧ Hid ((∃ hs', HeadsAt B p T A c hs' w' ∧ Heap hs' ∧ (hs' ++ [HV.at_ hs 0]).Perm hs) ∧ Below B w w' ∧ Beside (mine p A) w w') := fun hs2 W hM hh hf => by
    refine (pop_any hM.at_ hM.len hn).mono ?_
    rintro e w' ⟨hv, hat, hb, hbs⟩
    refine ⟨hv, Lib.hid ⟨⟨hs2.take n, hat, ⟨?_, fun x hx => hM.ne x (List.mem_of_mem_take hx)⟩, ?_⟩, hM.below.trans hb, hM.beside.trans hbs fun x hx => .inl hx⟩⟩
    · have : (hs2.take n).length = n := by rw [List.length_take, hM.len]; omega
      rw [this]
      intro k k1 k2
      rw [at_take k2, at_take (by omega)]
      exact hh k k1 k2
    · have h0 : HV.at_ hs2 n = HV.at_ hs 0 := by
        rw [hf n (Nat.le_refl _), e1]
        unfold swp
        by_cases hz : n = 0
        · subst hz; simp
        · rw [if_neg hz, if_pos rfl]
      have h1 : hs2.take n ++ [HV.at_ hs 0] = hs2 := by
        have h3 : n < hs2.length := by rw [hM.len]; omega
        rw [← h0]
        unfold HV.at_
        rw [List.getD_eq_getElem?_getD, List.getElem?_eq_getElem h3]
        conv => rhs; rw [← List.take_append_drop n hs2]
        congr 1
        rw [List.drop_eq_getElem_cons h3, List.drop_eq_nil_of_le (by rw [hM.len]; omega)]
        rfl
      rw [h1]
      exact hM.perm
  have MP := fun W => m_pop p W
  rw [hl] at LEN SWM SW
  clear hA hH e1 hp1 hl1 hl
  have e2 : ((n + 1 : Nat) : Int) - 1 = (n : Int) := by omega
  go_enter Try.func30, Try.ntmps30
  go_wp2_with fail
  refine (len_any A (n + 1) c _).mono ?_
  rintro e w2 ⟨rfl, rfl⟩
  go_wp2_with fail
  refine SW.mono ?_
  rintro e w1 ⟨rfl, h1, hb1, hs1⟩
  go_wp2_with fail
  refine (DO w1 h1 hb1 hs1).mono ?_
  rintro e w3 ⟨⟨b, rfl⟩, hs2, hM, hh, hf⟩
  have PO1 := PO hs2 w3 hM hh hf
  have MP1 := MP w3
  clear hM hh hf PO
  go_wp2_with fail
  refine PO1.mono ?_
  rintro e w4 ⟨⟨v, rfl⟩, HF⟩
  go_wp2
  go_ret
  exact ⟨⟨_, rfl⟩, HF.out.1, HF.out.2.1, HF.out.2.2⟩

def hasEv (x : HV) : Bool := !x.S.isEmpty
theorem hasEv_iff {x : HV} : hasEv x = true ↔ x.S ≠ [] := by unfold hasEv; cases x.S <;> simp

set_option maxRecDepth 100000 in
set_option maxHeartbeats 4000000 in
theorem add_any {B p : Nat} {T : TypeId} {hs : List HV} {w : World} (h : HeapAt B p T hs w) (hB : B ≤ w.heap.size) (x : HV) (hx : Lies B w x) (hn : hs.length ≤ 1000000000) :
    Calls Try.prog 36 #[.pointer (some ⟨p, 0, none⟩), x.val] w fun e w' => e = .returned (.tuple #[]) ∧ (∃ hs', HeapAt B p T hs' w' ∧ hs'.Perm (hs ++ [x].filter hasEv)) ∧ Below B w w' := by
  by_cases hxn : x.S = []
  · have hf : [x].filter hasEv = [] := by simp [hasEv, hxn]
    rw [hf, List.append_nil]
    have HF := Lib.hid h
    have hv : x.val = .slice x.A 0 x.c := by unfold HV.val; rw [hxn]; rfl
    rw [hv]
    clear h hx hf
    go_enter Try.func36, Try.ntmps36
    go_wp2
    go_end0
    exact ⟨rfl, ⟨hs, HF.out, List.Perm.refl _⟩, Below.refl _ _⟩
  · have hf : [x].filter hasEv = [x] := by simp [hasEv_iff.2 hxn]
    rw [hf]
    have HP := hpush_any h hB x hx hxn hn
    have hl : 0 < x.S.length := List.length_pos_iff.2 hxn
    unfold HV.val at HP ⊢
    generalize x.S.length = m at *
    have hl2 : (0 : Int) < (m : Int) := by omega
    clear h hx hf hxn
    go_enter Try.func36, Try.ntmps36
    go_wp2_with fail
    refine HP.mono ?_
    rintro e w1 ⟨rfl, h1, hb1⟩
    have HF := Lib.hid (And.intro h1 hb1)
    clear h1 hb1
    go_wp2
    go_end0
    exact ⟨rfl, HF.out⟩
end Go.Proofs.Ytlacihgoammjgaa.Ord
