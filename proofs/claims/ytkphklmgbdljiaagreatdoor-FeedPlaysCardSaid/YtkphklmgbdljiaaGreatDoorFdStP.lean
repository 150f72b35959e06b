/- feed: how a law's feed goes on, and which events it has. -/
import Derived.Test.YtkphklmgbdljiaaGreatDoorFdSt
import Derived.Test.YtkphklmgbdljiaaGreatDoorFdOpen
namespace Go.Proofs.YtkphklmgbdljiaaGreatDoor.Fd
open Go Go.RowKit Go.Proofs.YtkphklmgbdljiaaGreatDoor.Words Go.Proofs.YtkphklmgbdljiaaGreatDoor.Enc Go.Proofs.YtkphklmgbdljiaaGreatDoor.Evt Go.Proofs.YtkphklmgbdljiaaGreatDoor.Made Go.Proofs.YtkphklmgbdljiaaGreatDoor.Dsk Go.Proofs.YtkphklmgbdljiaaGreatDoor.Sht Go.Proofs.YtkphklmgbdljiaaGreatDoor.Seg
set_option linter.unusedVariables false
set_option linter.unusedSimpArgs false
variable {w0 w : World} {d f : Nat} {sz : Int} {floor tm k t0 A u0 : Nat} {P : List Part} {safe acts : Nat} {O : List Nat}

/-- A law's feed, with which events it has, behind a step from world w in which it owned O. -/
def Goes9 [Inhabited XS] (w0 w : World) (O : List Nat) (d : Nat) (sz : Int) (floor tm k t0 A : Nat) (L : List Ev) (f : Nat) (w' : World) : Prop :=
  ∃ u0 P safe acts O', StF w0 w' d f sz floor tm k t0 A u0 P safe acts O' ∧ evsP P = L.drop (u0 - 1) ∧ Beside O w w' ∧ ∀ b ∈ O', b ∈ O ∨ w.heap.size ≤ b
theorem StF.turn9 [Inhabited XS] {w' : World} {floor' tm' k' t0' A' u0' : Nat} {P' : List Part} {safe' acts' : Nat} {L : List Ev} (s : StF w0 w d f sz floor tm k t0 A u0 P safe acts O) (hF : FNext O w d f 3 sz floor' tm' P' safe' acts' w') (h1 : Fine 3 floor' u0' P' safe') (h2 : u0' + (evsP P').length = k' + 1) (h3 : LastIs floor' tm' u0' P' t0') (h4 : acts' ≤ A') (h5 : evsP P' = L.drop (u0' - 1)) :
    Goes9 w0 w O d sz floor' tm' k' t0' A' L f w' := by
  obtain ⟨O', hf, hb, hk⟩ := hF
  exact ⟨u0', P', safe', acts', O', ⟨hf, s.tabs.next hb hk, h1, h2, h3, h4, fun b hb' => (hk b hb').elim (s.own b) (fun h => Nat.le_trans s.base.size h), Below.beside s.base hb s.base.size s.own⟩, h5, hb, hk⟩
theorem drop_snoc {L : List Ev} {a : Ev} {u : Nat} (h : u ≤ L.length) : (L ++ [a]).drop u = L.drop u ++ [a] := by
  rw [List.drop_append, show u - L.length = 0 by omega]
  rfl
theorem StF.add9 [Inhabited XS] (HB : BeginSaid) (s : StF w0 w d f sz floor tm k t0 A u0 P safe acts O) (hk : k ≤ 60) (hA : A ≤ 20000) (L : List Ev) (hev : evsP P = L.drop (u0 - 1)) (hL : L.length = k) (ev : Ev) (Be : Option Addr) (me ke : Nat) (C : Comes 3 (k + 1) ev) (hkd : ev.kind ≤ 5) (hs : Sees w Be me ev.text) (hout : Out O Be me) (ht : t0 < ev.time) :
    Calls Tryz.prog 10 #[.pointer (some ⟨f, 0, none⟩), ev.val Be me ke] w fun e w' => e = .returned (.int .i64 0) ∧ Goes9 w0 w O d sz floor tm (k + 1) ev.time (A + 100) (L ++ [ev]) f w' := by
  have hpl := s.plen
  have hn := s.next
  have hac := s.acts
  refine (add_any HB d f 3 sz floor tm u0 t0 P safe acts O ev Be me ke w s.feed s.tabs s.fine (by omega) (by omega) (by omega) (by rw [hn]; exact C) hs hout s.last ht).mono ?_
  rintro e w' ⟨rfl, P', safe', acts', ha, G, hF⟩
  have hev2 := G.evs
  have hln : (evsP P').length = (evsP P).length + 1 := by rw [hev2]; simp
  refine ⟨rfl, s.turn9 (k' := k + 1) (t0' := ev.time) (A' := A + 100) hF G.fine (by omega) (.inr ⟨by have := s.fine.good.hi; omega, ev, by rw [hln, hev2]; simp, rfl, hkd⟩) (by omega) ?_⟩
  rw [hev2, hev, drop_snoc (by omega)]
theorem StF.sync9 [Inhabited XS] (s : StF w0 w d f sz floor tm k t0 A u0 P safe acts O) (hk : k ≤ 60) (hA : A ≤ 20000) :
    Calls Tryz.prog 11 #[.pointer (some ⟨f, 0, none⟩)] w fun e w' => e = .returned (.int .i64 0) ∧ ∃ P' safe' acts' O', StF w0 w' d f sz floor tm k t0 (A + 100) u0 P' safe' acts' O' ∧ evsP P' = evsP P ∧ (∀ p ∈ P', p.N = p.z 3) ∧ Beside O w w' ∧ ∀ b ∈ O', b ∈ O ∨ w.heap.size ≤ b := by
  have hpl := s.plen
  have hn := s.next
  have hac := s.acts
  have hsum := chain_sum (x := 3) (by omega) s.fine.good.chain s.fine.good.few
  have hpos := s.fine.good.pos
  refine (sync_any d f 3 sz floor tm P safe acts O w s.feed s.tabs s.fine.rise (by omega) (by omega) (by have := s.fine.sf; omega) (by omega) (by omega) s.fine.low s.fine.done).mono ?_
  rintro e w' ⟨rfl, acts', ha, hF⟩
  have hl : LastIs floor tm u0 (P.map (Part.full 3)) t0 := by
    have := s.last
    unfold LastIs at this ⊢
    rw [evs_full]
    exact this
  obtain ⟨u1, P1, safe1, acts1, O1, h1, h2, h3, h4⟩ : ∃ (u1 : Nat) (P1 : List Part) (safe1 acts1 : Nat) (O1 : List Nat), StF w0 w' d f sz floor tm k t0 (A + 100) u0 (P.map (Part.full 3)) (P.length - 1) acts1 O1 ∧ True ∧ Beside O w w' ∧ ∀ b ∈ O1, b ∈ O ∨ w.heap.size ≤ b := by
    obtain ⟨O', hf, hb, hk'⟩ := hF
    exact ⟨0, [], 0, acts', O', ⟨hf, s.tabs.next hb hk', fine_full s.fine, by rw [evs_full]; exact hn, hl, by omega, fun b hb' => (hk' b hb').elim (s.own b) (fun h => Nat.le_trans s.base.size h), Below.beside s.base hb s.base.size s.own⟩, trivial, hb, hk'⟩
  exact ⟨rfl, _, _, acts1, O1, h1, evs_full 3 P, fun p hp => by obtain ⟨q, _, rfl⟩ := List.mem_map.1 hp; rfl, h3, h4⟩
theorem StF.fold9 [Inhabited XS] (s : StF w0 w d f sz floor tm k t0 A u0 P safe acts O) (hk : k ≤ 60) (hA : A ≤ 20000) (L : List Ev) (hev : evsP P = L.drop (u0 - 1)) (a t : Nat) (ht : t < 18446744073709551616) (h1 : floor ≤ a) (h2 : a ≤ k) (hN : ∀ p ∈ P, p.N = p.z 3) :
    Calls Tryz.prog 12 #[.pointer (some ⟨f, 0, none⟩), .int .u64 (a : Int), .int .u64 (t : Int)] w fun e w' => e = .returned (.int .i64 0) ∧ Goes9 w0 w O d sz a (max tm t) k (if a = k then max tm t else t0) (A + 100) L f w' := by
  have hpl := s.plen
  have hn := s.next
  have hac := s.acts
  have hsum := chain_sum (x := 3) (by omega) s.fine.good.chain s.fine.good.few
  have hpos := s.fine.good.pos
  refine (fold_yes d f 3 sz floor tm P safe acts O u0 a t w s.feed s.tabs s.fine.good s.fine.rise (by omega) (by omega) (by have := s.fine.sf; omega) (by omega) ht (by omega) (by omega) ⟨h1, by omega, loose_none safe hN⟩).mono ?_
  rintro e w' ⟨rfl, acts', ha, hF⟩
  obtain ⟨m, m1, m2, m3, m4⟩ := chain_drop (a := a) s.fine.good.chain (by have := s.fine.good.lo; omega) (by omega)
  have hln : (evsP (P.drop (goneN a P))).length = (evsP P).length - m := by rw [m4, List.length_drop]
  have hNd : ∀ p ∈ P.drop (goneN a P), p.N = p.z 3 := fun p hp => hN p (List.mem_of_mem_drop hp)
  have hfine : Fine 3 a (u0 + m) (P.drop (goneN a P)) (safe - goneN a P) := ⟨⟨m1, m2, by omega, by omega, by have := s.fine.good.few; omega⟩, by rw [List.length_drop]; have := s.fine.sf; omega, fun p hp => hNd p (List.mem_of_mem_take hp)⟩
  have hl : LastIs a (max tm t) (u0 + m) (P.drop (goneN a P)) (if a = k then max tm t else t0) := by
    by_cases hak : a = k
    · rw [if_pos hak]
      exact .inl ⟨by omega, rfl⟩
    · rw [if_neg hak]
      rcases s.last with ⟨h, _⟩ | ⟨h, le, hle, h3, h4⟩
      · omega
      · refine .inr ⟨by omega, le, ?_, h3, h4⟩
        rw [hln, m4, List.getElem?_drop, ← hle]
        congr 1
        omega
  refine ⟨rfl, s.turn9 (k' := k) (A' := A + 100) hF hfine (by omega) hl (by omega) ?_⟩
  rw [m4, hev, List.drop_drop]
  congr 1
  omega
/-- Opened anew. -/
theorem StF.open9 [Inhabited XS] (s : StF w0 w d f sz floor tm k t0 A u0 P safe acts O) (hk : k ≤ 60) (hA : A ≤ 20000) (L : List Ev) (hev : evsP P = L.drop (u0 - 1)) :
    Calls Tryz.prog 8 #[.pointer (some ⟨d, 0, none⟩), .int .i64 3, .int .i64 sz, .int .u64 (floor : Int), .int .u64 (tm : Int)] w fun e w' => ∃ f', e = .returned (.tuple #[.pointer (some ⟨f', 0, none⟩), .int .i64 0]) ∧ Goes9 w0 w O d sz floor tm k t0 (A + 100) L f' w' := by
  have hpl := s.plen
  have hn := s.next
  have hac := s.acts
  have G := s.fine.good
  have hsum := chain_sum (x := 3) (by omega) G.chain G.few
  have hpos := G.pos
  obtain ⟨R, Ar, c, S, hRP, hO, FA⟩ := s.feed
  have hSO : ∀ k ∈ S, k ∈ O := fun k hk => by rw [hO]; exact List.mem_append.2 (.inl hk)
  have TS : TabsOn S w := TabsOn.sub s.tabs hSO
  have hd := FA.disk
  rw [files_map, hRP] at hd
  refine (open_parts d S 3 sz floor tm u0 acts P w FA.xl TS hd G (by omega) (by omega) (by omega)).mono ?_
  rintro e w' ⟨f', acts', O', rfl, ha, hF, hb, hk'⟩
  obtain ⟨g, hg⟩ : ∃ g, g = goneA floor P := ⟨_, rfl⟩
  have hgl : g ≤ P.length := by rw [hg]; exact goneA_le floor P
  rw [← hg] at hF
  have hev1 : evsP P = evsP (P.take g) ++ evsP (P.drop g) := by rw [← evsP_append, List.take_append_drop]
  have hln := congrArg List.length hev1
  rw [List.length_append] at hln
  have hlo : u0 + (evsP (P.take g)).length ≤ floor + 1 := by
    rcases Nat.eq_zero_or_pos g with h0 | h0
    · rw [h0]; have := G.lo; simpa [evsP] using this
    · obtain ⟨q, hq⟩ : ∃ q, P[g - 1]? = some q := ⟨_, List.getElem?_eq_getElem (by omega)⟩
      have h1 := goneA_in floor P (g - 1) q (by omega) hq
      have h2 := chain_at G.chain hq
      have h3 := evsP_take_succ hq
      rw [show g - 1 + 1 = g by omega] at h3
      have h4 := congrArg List.length h3
      rw [List.length_append] at h4
      have h5 := List.length_pos_iff.2 (chain_ne G.chain q (List.mem_of_getElem? hq))
      omega
  have hhi := G.hi
  have hfew := G.few
  have hfine : Fine 3 floor (u0 + (evsP (P.take g)).length) (P.drop g) 0 := ⟨⟨chain_cut G.chain g, hlo, by omega, by omega, by omega⟩, by omega, fun p hp => by simp at hp⟩
  have hl : LastIs floor tm (u0 + (evsP (P.take g)).length) (P.drop g) t0 := by
    rcases s.last with ⟨h, h2⟩ | ⟨h, le, hle, h3, h4⟩
    · exact .inl ⟨by omega, h2⟩
    · refine .inr ⟨by omega, le, ?_, h3, h4⟩
      rw [← hle, hev1, List.length_append, List.getElem?_append_right (by omega)]
      congr 1
      omega
  have hbO : Beside O w w' := hb.wider fun k hk => .inl (hSO k hk)
  have hkO : ∀ b ∈ O', b ∈ O ∨ w.heap.size ≤ b := fun b hb' => (hk' b hb').imp (hSO b) id
  refine ⟨f', rfl, u0 + (evsP (P.take g)).length, P.drop g, 0, acts', O', ⟨hF, s.tabs.next hbO hkO, hfine, by omega, hl, by omega, fun b hb' => (hkO b hb').elim (s.own b) (fun h => Nat.le_trans s.base.size h), Below.beside s.base hbO s.base.size s.own⟩, ?_, hbO, hkO⟩
  have h9 : evsP (P.drop g) = (evsP P).drop (evsP (P.take g)).length := by rw [hev1, List.drop_append, List.drop_eq_nil_of_le (Nat.le_refl _), Nat.sub_self]; rfl
  rw [h9, hev, List.drop_drop]
  congr 1
  omega
end Go.Proofs.YtkphklmgbdljiaaGreatDoor.Fd
