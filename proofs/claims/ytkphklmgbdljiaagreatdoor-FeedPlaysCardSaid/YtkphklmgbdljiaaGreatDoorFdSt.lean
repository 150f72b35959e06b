/- feed: how a law's feed stands. -/
import Derived.Test.YtkphklmgbdljiaaGreatDoorFdAny
import Derived.Test.YtkphklmgbdljiaaGreatDoorFdFold
import Derived.Test.YtkphklmgbdljiaaGreatDoorFdNilS
namespace Go.Proofs.YtkphklmgbdljiaaGreatDoor.Fd
open Go Go.RowKit Go.Proofs.YtkphklmgbdljiaaGreatDoor.Words Go.Proofs.YtkphklmgbdljiaaGreatDoor.Enc Go.Proofs.YtkphklmgbdljiaaGreatDoor.Evt Go.Proofs.YtkphklmgbdljiaaGreatDoor.Made Go.Proofs.YtkphklmgbdljiaaGreatDoor.Dsk Go.Proofs.YtkphklmgbdljiaaGreatDoor.Sht Go.Proofs.YtkphklmgbdljiaaGreatDoor.Seg
set_option linter.unusedVariables false
set_option linter.unusedSimpArgs false

theorem chain_drop {x a : Nat} : ∀ {P : List Part} {u : Nat}, Chain x u P → u ≤ a + 1 → a + 1 ≤ u + (evsP P).length →
    ∃ m, Chain x (u + m) (P.drop (goneN a P)) ∧ u + m ≤ a + 1 ∧ m ≤ (evsP P).length ∧ evsP (P.drop (goneN a P)) = (evsP P).drop m
  | [], u, h, h1, h2 => ⟨0, by simpa [goneN] using h, by omega, by omega, by simp [goneN]⟩
  | [p], u, h, h1, h2 => ⟨0, by simpa [goneN] using h, by omega, by omega, by simp [goneN]⟩
  | p :: q :: r, u, h, h1, h2 => by
    by_cases hp : p.u + p.L.length - 1 ≤ a
    · have hl := List.length_pos_iff.2 h.1.2.1
      have hu := h.1.1
      have hev : evsP (p :: q :: r) = p.L ++ evsP (q :: r) := rfl
      obtain ⟨m, m1, m2, m3, m4⟩ := chain_drop (a := a) h.2 (by omega) (by rw [hev, List.length_append] at h2; omega)
      have hg : goneN a (p :: q :: r) = goneN a (q :: r) + 1 := by simp only [goneN]; rw [if_pos hp]; omega
      refine ⟨p.L.length + m, ?_, by omega, by rw [hev, List.length_append]; omega, ?_⟩
      · rw [hg, List.drop_succ_cons, ← Nat.add_assoc]
        exact m1
      · rw [hg, List.drop_succ_cons, m4, hev, List.drop_append, List.drop_eq_nil_of_le (by omega : p.L.length ≤ p.L.length + m), List.nil_append]
        congr 1
        omega
    · have hg : goneN a (p :: q :: r) = 0 := by simp only [goneN]; rw [if_neg hp]
      exact ⟨0, by rw [hg]; exact h, by omega, by omega, by rw [hg]; rfl⟩
theorem loose_none {x : Nat} {P : List Part} (safe : Nat) (h : ∀ p ∈ P, p.N = p.z x) : looseP x P safe = [] := by
  unfold looseP
  rw [List.filter_eq_nil_iff]
  intro p hp
  have := h p (List.mem_of_mem_drop hp)
  simp [this]
theorem fine_full {x floor u0 : Nat} {P : List Part} {safe : Nat} (F : Fine x floor u0 P safe) : Fine x floor u0 (P.map (Part.full x)) (P.length - 1) := by
  refine ⟨⟨chain_full F.good.chain, F.good.lo, by rw [evs_full]; exact F.good.hi, F.good.pos, by rw [evs_full]; exact F.good.few⟩, by simp, fun p hp => ?_⟩
  obtain ⟨q, _, rfl⟩ := List.mem_map.1 (List.mem_of_mem_take hp)
  rfl
/-- How a law's feed stands: k events, the last one at time t0. -/
structure StF [Inhabited XS] (w0 w : World) (d f : Nat) (sz : Int) (floor tm k t0 A u0 : Nat) (P : List Part) (safe acts : Nat) (O : List Nat) : Prop where
  feed : Feed w d f 3 sz floor tm P safe O (hdA acts)
  tabs : TabsOn O w
  fine : Fine 3 floor u0 P safe
  next : u0 + (evsP P).length = k + 1
  last : LastIs floor tm u0 P t0
  acts : acts ≤ A
  own : ∀ b ∈ O, w0.heap.size ≤ b
  base : Below w0.heap.size w0 w
variable {w0 w : World} {d f : Nat} {sz : Int} {floor tm k t0 A u0 : Nat} {P : List Part} {safe acts : Nat} {O : List Nat}
theorem StF.below [Inhabited XS] {W : World} (s : StF w0 w d f sz floor tm k t0 A u0 P safe acts O) (hb : Below w.heap.size w W) : StF w0 W d f sz floor tm k t0 A u0 P safe acts O :=
  ⟨s.feed.below hb, s.tabs.below hb, s.fine, s.next, s.last, s.acts, s.own, s.base.trans (hb.mono s.base.size)⟩
theorem StF.turn [Inhabited XS] {w' : World} {floor' tm' k' t0' A' u0' : Nat} {P' : List Part} {safe' acts' : Nat} (s : StF w0 w d f sz floor tm k t0 A u0 P safe acts O) (hF : FNext O w d f 3 sz floor' tm' P' safe' acts' w') (h1 : Fine 3 floor' u0' P' safe') (h2 : u0' + (evsP P').length = k' + 1) (h3 : LastIs floor' tm' u0' P' t0') (h4 : acts' ≤ A') :
    ∃ O', StF w0 w' d f sz floor' tm' k' t0' A' u0' P' safe' acts' O' := by
  obtain ⟨O', hf, hb, hk⟩ := hF
  exact ⟨O', hf, s.tabs.next hb hk, h1, h2, h3, h4, fun b hb' => (hk b hb').elim (s.own b) (fun h => Nat.le_trans s.base.size h), Below.beside s.base hb s.base.size s.own⟩
theorem StF.plen [Inhabited XS] (s : StF w0 w d f sz floor tm k t0 A u0 P safe acts O) : P.length ≤ k := by
  have h1 := chain_len s.fine.good.chain
  have h2 := s.next
  have h3 := s.fine.good.pos
  omega
theorem StF.add [Inhabited XS] (HB : BeginSaid) (s : StF w0 w d f sz floor tm k t0 A u0 P safe acts O) (hk : k ≤ 20) (hA : A ≤ 20000) (ev : Ev) (Be : Option Addr) (me ke : Nat) (C : Comes 3 (k + 1) ev) (hkd : ev.kind ≤ 5) (hs : Sees w Be me ev.text) (hout : Out O Be me) (ht : t0 < ev.time) :
    Calls Tryz.prog 10 #[.pointer (some ⟨f, 0, none⟩), ev.val Be me ke] w fun e w' => e = .returned (.int .i64 0) ∧ ∃ P' safe' acts' O', StF w0 w' d f sz floor tm (k + 1) ev.time (A + 30) u0 P' safe' acts' O' ∧ looseP 3 P' safe' ≠ [] := by
  have hpl := s.plen
  have hn := s.next
  have hac := s.acts
  refine (add_any HB d f 3 sz floor tm u0 t0 P safe acts O ev Be me ke w s.feed s.tabs s.fine (by omega) (by omega) (by omega) (by rw [hn]; exact C) hs hout s.last ht).mono ?_
  rintro e w' ⟨rfl, P', safe', acts', ha, G, hF⟩
  have hev := G.evs
  have hln : (evsP P').length = (evsP P).length + 1 := by rw [hev]; simp
  obtain ⟨O', h⟩ := s.turn (k' := k + 1) (t0' := ev.time) (A' := A + 30) hF G.fine (by omega) (.inr ⟨by have := s.fine.good.hi; omega, ev, by rw [hln, hev]; simp, rfl, hkd⟩) (by omega)
  refine ⟨rfl, P', safe', acts', O', h, fun hl => ?_⟩
  obtain ⟨p, hp, hlt⟩ := G.loose
  have : p ∈ looseP 3 P' safe' := List.mem_filter.2 ⟨hp, by simpa using hlt⟩
  rw [hl] at this
  cases this
theorem StF.sync [Inhabited XS] (s : StF w0 w d f sz floor tm k t0 A u0 P safe acts O) (hk : k ≤ 20) (hA : A ≤ 20000) :
    Calls Tryz.prog 11 #[.pointer (some ⟨f, 0, none⟩)] w fun e w' => e = .returned (.int .i64 0) ∧ ∃ P' safe' acts' O', StF w0 w' d f sz floor tm k t0 (A + 30) u0 P' safe' acts' O' ∧ ∀ p ∈ P', p.N = p.z 3 := by
  have hpl := s.plen
  have hn := s.next
  have hac := s.acts
  have hsum := chain_sum (x := 3) (by omega) s.fine.good.chain s.fine.good.few
  have hpos := s.fine.good.pos
  refine (sync_any d f 3 sz floor tm P safe acts O w s.feed s.tabs s.fine.rise (by omega) (by omega) (by have := s.fine.sf; omega) (by omega) (by omega) s.fine.low s.fine.done).mono ?_
  rintro e w' ⟨rfl, acts', ha, hF⟩
  have hl : LastIs floor tm u0 (P.map (Part.full 3)) t0 := by
    have := s.last
    unfold LastIs at this ⊢
    rw [evs_full]
    exact this
  obtain ⟨O', h⟩ := s.turn (k' := k) (t0' := t0) (A' := A + 30) hF (fine_full s.fine) (by rw [evs_full]; exact hn) hl (by omega)
  exact ⟨rfl, _, _, acts', O', h, fun p hp => by obtain ⟨q, _, rfl⟩ := List.mem_map.1 hp; rfl⟩
theorem StF.nextF [Inhabited XS] (s : StF w0 w d f sz floor tm k t0 A u0 P safe acts O) :
    Calls Tryz.prog 17 #[.pointer (some ⟨f, 0, none⟩)] w fun e w' => e = .returned (.int .u64 ((k + 1 : Nat) : Int)) ∧ Below w.heap.size w w' := by
  have := nextF_any d f 3 sz floor tm P safe O (hdA acts) u0 w s.feed s.fine.good
  rw [s.next] at this
  exact this
theorem StF.floorF [Inhabited XS] (s : StF w0 w d f sz floor tm k t0 A u0 P safe acts O) :
    Calls Tryz.prog 16 #[.pointer (some ⟨f, 0, none⟩)] w fun e w' => e = .returned (.int .u64 (floor : Int)) ∧ w = w' := by
  have c3 : w.cell? ⟨f, 3, none⟩ = some (.int .u64 (floor : Int)) := by
    obtain ⟨R, A, c, S, _, _, FA⟩ := s.feed
    exact FA.cells.2.2.2.1
  clear s
  go_enter Tryz.func16, Tryz.ntmps16
  go_wp2
  go_ret
  exact ⟨rfl, rfl⟩
end Go.Proofs.YtkphklmgbdljiaaGreatDoor.Fd
