/- Order: container/heap: Push, Fix, Pop; add. -/
import Derived.Test.YtlacihgoammjgaaOrdG
namespace Go.Proofs.Ytlacihgoammjgaa.Ord
open Go Go.RowKit Go.Proofs.Ytlacihgoammjgaa.Words Go.Proofs.Ytlacihgoammjgaa.Enc Go.Proofs.Ytlacihgoammjgaa.Evt Go.Proofs.Ytlacihgoammjgaa.Seg
set_option linter.unusedVariables false
set_option linter.unusedSimpArgs false

/-- The variable at block p has a heap of these lists. -/
structure HeapAt (B p : Nat) (T : TypeId) (hs : List HV) (w : World) : Prop where
  ex : ∃ A c, HeadsAt B p T A c hs w
  heap : Heap hs
theorem at_len_ge {hs : List HV} {k : Nat} (h : hs.length ≤ k) : HV.at_ hs k = noHV := by
  unfold HV.at_
  rw [List.getD_eq_getElem?_getD, List.getElem?_eq_none h]; rfl
theorem at_append_lt {hs : List HV} {x : HV} {k : Nat} (h : k < hs.length) : HV.at_ (hs ++ [x]) k = HV.at_ hs k := by
  unfold HV.at_
  rw [List.getD_eq_getElem?_getD, List.getD_eq_getElem?_getD, List.getElem?_append_left h]
theorem at_take {hs : List HV} {n k : Nat} (h : k < n) : HV.at_ (hs.take n) k = HV.at_ hs k := by
  unfold HV.at_
  rw [List.getD_eq_getElem?_getD, List.getD_eq_getElem?_getD, List.getElem?_take, if_pos h]
theorem at_set_ne {hs : List HV} {x : HV} {i k : Nat} (h : k ≠ i) : HV.at_ (hs.set i x) k = HV.at_ hs k := by
  unfold HV.at_
  rw [List.getD_eq_getElem?_getD, List.getD_eq_getElem?_getD, List.getElem?_set_ne (Ne.symm h)]

set_option maxRecDepth 100000 in
set_option maxHeartbeats 4000000 in
theorem hpush_any {B p : Nat} {T : TypeId} {hs : List HV} {w : World} (h : HeapAt B p T hs w) (hB : B ≤ w.heap.size) (x : HV) (hx : Lies B w x) (hxn : x.S ≠ []) (hn : hs.length ≤ 1000000000) :
    Calls Try.prog 55 #[IH p, .iface 26 x.val] w fun e w' => e = .returned (.tuple #[]) ∧ (∃ hs', HeapAt B p T hs' w' ∧ hs'.Perm (hs ++ [x])) ∧ Below B w w' := by
  obtain ⟨⟨A, c, hA⟩, hH⟩ := h
  have HP := push_any hA hB x hx hn
  have hmp := m_push p w
  obtain ⟨xa, xn, xc, hxv⟩ : ∃ xa xn xc, x.val = .slice xa xn xc := ⟨_, _, _, rfl⟩
  rw [hxv] at HP ⊢
  have UP : ∀ (A' : Option Addr) (c' : Nat) (W : World), HeadsAt B p T A' c' (hs ++ [x]) W → Below B w W → Calls Try.prog 45 #[IH p, .int .i64 (hs.length : Int)] W fun e w' => e = .returned (.tuple #[]) ∧ Hid ((∃ hs', HeapAt B p T hs' w' ∧ hs'.Perm (hs ++ [x])) ∧ Below B w w') := fun A' c' W hW hb => by
    refine (up_any (n := hs.length + 1) (hs0 := hs ++ [x]) (w0 := W) (hs ++ [x]) W hs.length (by omega) (by omega) ⟨hW, List.Perm.refl _, by simp, fun y hy => ?_, Below.refl _ _, Beside.refl _ _⟩ (hH.ord.upLast fun k hk => at_append_lt hk)).mono ?_
    · rcases List.mem_append.1 hy with hy | hy
      · exact hH.ne y hy
      · rw [List.mem_singleton.1 hy]; exact hxn
    · rintro e w' ⟨rfl, hs', hm, hh⟩
      exact ⟨rfl, Lib.hid ⟨⟨hs', ⟨⟨_, _, hm.at_⟩, hh⟩, hm.perm⟩, hb.trans hm.below⟩⟩
  have LEN : ∀ (A' : Option Addr) (c' : Nat) (W : World), HeadsAt B p T A' c' (hs ++ [x]) W → (method 234 72 (.pointer (some ⟨p, 0, none⟩)) "Len").run Try.prog W = .ok (88, .slice A' (hs.length + 1) c') W := fun A' c' W hW => by
    have := m_len p _ W hW.cell
    simpa using this
  clear hA hH
  generalize hs.length = n at *
  go_enter Try.func55, Try.ntmps55
  go_wp2_with fail
  refine HP.mono ?_
  rintro e w1 ⟨rfl, ⟨A', c', h1⟩, hb1⟩
  have hml := LEN A' c' w1 h1
  go_wp2_with fail
  refine (len_any A' (n + 1) c' w1).mono ?_
  rintro e w2 ⟨rfl, rfl⟩
  go_wp2_with fail
  refine (UP A' c' _ h1 hb1).mono ?_
  rintro e w3 ⟨rfl, HF⟩
  go_wp2
  go_end0
  exact ⟨rfl, HF.out.1, HF.out.2⟩

set_option maxRecDepth 100000 in
set_option maxHeartbeats 4000000 in
/-- The first list of a heap has become another one. -/
theorem hfix_any {B p : Nat} {T : TypeId} {A : Option Addr} {c : Nat} {hs : List HV} {w : World} (h : HeadsAt B p T A c hs w) (hne : ∀ x ∈ hs, x.S ≠ []) (hn0 : 0 < hs.length) (hD : DownInv hvLe (HV.at_ hs) hs.length 0) (hn : hs.length ≤ 1000000000) :
    Calls Try.prog 29 #[IH p, .int .i64 0] w fun e w' => e = .returned (.tuple #[]) ∧ (∃ hs', HeadsAt B p T A c hs' w' ∧ Heap hs' ∧ hs'.Perm hs) ∧ Below B w w' ∧ Beside (mine p A) w w' := by
  have LEN := m_len p _ w h.cell
  have DO := down_any (B := B) (w0 := w) hs w hs.length (Nat.le_refl _) (by omega) ⟨h, List.Perm.refl hs, rfl, hne, Below.refl B w, Beside.refl _ _⟩ hD
  have UP : ∀ (hs' : List HV) (W : World), Mends B p T A c hs.length hs w hs' W → Heaped hvLe (HV.at_ hs') hs.length → Calls Try.prog 45 #[IH p, .int .i64 0] W fun e w' => e = .returned (.tuple #[]) ∧ Hid ((∃ hs', HeadsAt B p T A c hs' w' ∧ Heap hs' ∧ hs'.Perm hs) ∧ Below B w w' ∧ Beside (mine p A) w w') := fun hs' W hM hh => by
    refine (up_any (n := hs.length) hs' W 0 hn0 (by omega) hM ⟨fun k h1 h2 h3 => hh k h1 h2, fun h => absurd h (by omega)⟩).mono ?_
    rintro e w' ⟨rfl, hs2, hm, hh⟩
    exact ⟨rfl, Lib.hid ⟨⟨hs2, hm.at_, hh, hm.perm⟩, hm.below, hm.beside⟩⟩
  have FI : ∀ (hs' : List HV) (W : World), Mends B p T A c hs.length hs w hs' W → Heaped hvLe (HV.at_ hs') hs.length → Hid ((∃ hs', HeadsAt B p T A c hs' W ∧ Heap hs' ∧ hs'.Perm hs) ∧ Below B w W ∧ Beside (mine p A) w W) := fun hs' W hM hh =>
    Lib.hid ⟨⟨hs', hM.at_, ⟨by rw [hM.len]; exact hh, hM.ne⟩, hM.perm⟩, hM.below, hM.beside⟩
  clear h hne hD
  go_enter Try.func29, Try.ntmps29
  go_wp2_with fail
  refine (len_any A hs.length c _).mono ?_
  rintro e w2 ⟨rfl, rfl⟩
  go_wp2_with fail
  refine DO.mono ?_
  rintro e w1 ⟨⟨b, rfl⟩, hs1, hM1, hh1, _⟩
  have HM := Lib.hid (And.intro hM1 hh1)
  clear hM1 hh1
  have hnot : ∀ (x : Bool) (w : World), (Op.unary .not (.bool x)).run Try.prog w = .ok (.bool (!x)) w := fun _ _ => rfl
  cases b with
  | true =>
    go_wp2
    go_end0
    have HF := FI _ _ HM.out.1 HM.out.2
    exact ⟨rfl, HF.out.1, HF.out.2.1, HF.out.2.2⟩
  | false =>
    go_wp2_with fail
    refine (UP _ _ HM.out.1 HM.out.2).mono ?_
    rintro e w3 ⟨rfl, HF⟩
    go_wp2
    go_end0
    exact ⟨rfl, HF.out.1, HF.out.2.1, HF.out.2.2⟩
end Go.Proofs.Ytlacihgoammjgaa.Ord
