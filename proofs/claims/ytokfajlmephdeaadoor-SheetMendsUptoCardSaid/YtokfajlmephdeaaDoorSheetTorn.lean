/- Mend of a sheet that is torn, and what follows it: held against the world in which the law began. -/
import Derived.Test.YtokfajlmephdeaaDoorSheetLawD
namespace Go.Proofs.YtokfajlmephdeaaDoor.Sht
open Go Go.RowKit Go.Proofs.YtokfajlmephdeaaDoor.Words Go.Proofs.YtokfajlmephdeaaDoor.Enc Go.Proofs.YtokfajlmephdeaaDoor.Made Go.Proofs.YtokfajlmephdeaaDoor.Dsk
set_option linter.unusedVariables false

theorem sees_take {w : World} {A : Option Addr} {n : Nat} {L : List (List UInt8)} (h : SeesAll w A n L) {k : Nat} (hk : k ≤ n) : SeesAll w A k (L.take k) := by
  obtain ⟨vs, h1, h2, h3⟩ := h
  refine ⟨vs.take k, ⟨by rw [List.length_take, List.length_take, h1.1], fun j l hj => ?_⟩, by rw [List.length_take]; omega, fun hk0 => ?_⟩
  · have hjk : j < k := by
      rcases Nat.lt_or_ge j k with h5 | h5
      · exact h5
      · rw [List.getElem?_eq_none (by rw [List.length_take]; omega)] at hj; cases hj
    rw [List.getElem?_take, if_pos hjk] at hj
    obtain ⟨A', c', hv, hr⟩ := h1.2 j l hj
    exact ⟨A', c', by rw [List.getElem?_take, if_pos hjk]; exact hv, hr⟩
  · obtain ⟨b, o, hA, hc⟩ := h3 (by omega)
    refine ⟨b, o, hA, fun j v hj => hc j v ?_⟩
    rw [List.getElem?_take] at hj
    split at hj
    · exact hj
    · cases hj
/-- A torn sheet, mended. -/
theorem mendL (w0 w : World) (d : Nat) (k : UInt8) (a b : Nat) (L : List (List UInt8)) (c N acts : Nat) (T : Chk.Tabs w0) (ha : a < 18446744073709551616) (hb : b < 18446744073709551616) (hL : lens L ≤ 2000) (hc : c ≤ (wraps L).length) (hac : acts < 100000)
    (hd : Since w0 d [⟨fN, headL k a b ++ (wraps L).take c, N⟩] ⟨65536, acts, -1, 0, false⟩ w) :
    ∃ j, j ≤ L.length ∧ (j < L.length → c < (wraps (L.take (j + 1))).length) ∧ Calls Tryd.prog 19 #[.pointer (some ⟨d, 0, none⟩), .string ⟨#[102]⟩] w fun e w' => ∃ Al cl N' acts', e = .returned (.tuple #[sheetV k a b Al j cl (wholeL k a b (L.take j)).length 0, .int .i64 0]) ∧ SeesAll w' Al j (L.take j) ∧ acts' ≤ acts + 1 ∧
      Since w0 d [⟨fN, wholeL k a b (L.take j), N'⟩] ⟨65536, acts', -1, 0, false⟩ w' := by
  obtain ⟨S, hd, bel, hS⟩ := hd
  have hhl := headL_len (k := k) ha hb
  have htl := (titleL_len (k := k) ha hb).2
  have hws := wraps_short hL
  have hone := short_each hL
  obtain ⟨j, E, hj, hall, hle, hlt, h0⟩ := allL_torn most L c (fun l hl => by have := hone l hl; unfold most; omega) hc
  refine ⟨j, hj, hlt, ?_⟩
  have hg : goodN k a b ((wraps L).take c) = (wholeL k a b (L.take j)).length := by unfold goodN wholeL; rw [hall, List.length_append]
  have hpre : (wraps L).take (wraps (L.take j)).length = wraps (L.take j) := by
    have h1 := wraps_append (L.take j) (L.drop j)
    rw [List.take_append_drop] at h1
    rw [h1, List.take_append_of_le_length (Nat.le_refl _), List.take_length]
  have hact : (Hd.act ⟨65536, acts, -1, 0, false⟩) = ⟨65536, acts + 1, -1, 0, false⟩ := act_un (by decide)
  have hmf : ∃ N' acts', mendF fN k a b ((wraps L).take c) [⟨fN, headL k a b ++ (wraps L).take c, N⟩] = [⟨fN, wholeL k a b (L.take j), N'⟩] ∧ mendH ((wraps L).take c) ⟨65536, acts, -1, 0, false⟩ = ⟨65536, acts', -1, 0, false⟩ ∧ acts' ≤ acts + 1 := by
    unfold mendF mendH
    rw [hall]
    by_cases hE : E = 0
    · rw [if_pos hE, if_pos hE, h0 hE, hpre]
      exact ⟨N, acts, rfl, rfl, by omega⟩
    · rw [if_neg hE, if_neg hE, hg, hact]
      refine ⟨(wholeL k a b (L.take j)).length, acts + 1, ?_, rfl, Nat.le_refl _⟩
      simp only [upd, List.map_cons, List.map_nil, if_true, cutG, Int.toNat_natCast]
      have e1 : (headL k a b ++ (wraps L).take c).take (wholeL k a b (L.take j)).length = wholeL k a b (L.take j) := by
        unfold wholeL
        rw [List.length_append, List.take_length_add_append, List.take_take, Nat.min_eq_left hle, hpre]
      have hnc : ¬ (((wholeL k a b (L.take j)).length : Int) < 0 ∨ ((headL k a b ++ (wraps L).take c).length : Int) < ((wholeL k a b (L.take j)).length : Int)) := by
        unfold wholeL
        rw [List.length_append, List.length_append, List.length_take]
        omega
      rw [if_neg hnc, e1]
  obtain ⟨N', acts', hm1, hm2, hm3⟩ := hmf
  have := mend_any d S [⟨fN, headL k a b ++ (wraps L).take c, N⟩] ⟨65536, acts, -1, 0, false⟩ fN ⟨fN, headL k a b ++ (wraps L).take c, N⟩ k a b ((wraps L).take c) w (T.below bel) ha hb hd (by simp) (by simp only [sumA, List.length_append, List.length_take]; omega) (hd_fits5 (by simp) (by simp) (by show acts ≤ _; omega) (by simp) (by simp) (by simp) (by simp)) (may_un (by decide)) (by simp [lookA]) rfl
  refine this.mono ?_
  rintro e w' ⟨Al, nl, cl, vs, rfl, hown, heach, hn⟩
  rw [hall] at heach
  rw [hm1, hm2] at hn
  have hs := SeesAll.of_own hown heach.each
  have hln := hs.len
  rw [List.length_take, Nat.min_eq_left hj] at hln
  subst hln
  rw [hg]
  exact ⟨Al, cl, N', acts', rfl, hs, hm3, since_next bel hS hn⟩
/-- Add, with a disk that stood in v: what was made since then, beside the disk, is as it was. -/
theorem addK (w0 v w : World) (d : Nat) (p : List UInt8) (N acts : Nat) (A : Option Addr) (n c : Nat) (l : List UInt8) (T : Chk.Tabs w0) (hd : Since w0 d [⟨fN, p, N⟩] ⟨65536, acts, -1, 0, false⟩ v) (hb : Below v.heap.size v w) (hac : acts < 100000) (hn : n ≤ 2000) (hnc : n ≤ c) (hs : Sees w A n l) (hfit : p.length + (wrap l).length ≤ 65536) :
    Calls Tryd.prog 13 #[.pointer (some ⟨d, 0, none⟩), .string ⟨#[102]⟩, .slice A n c] w fun e w' => e = .returned (.int .i64 0) ∧ Since w0 d [⟨fN, p ++ wrap l, N⟩] ⟨65536, acts + 1, -1, 0, false⟩ w' ∧ ∀ g, v.heap.size ≤ g → g < w.heap.size → w'.heap[g]? = w.heap[g]? := by
  obtain ⟨S, hd, bel, hS⟩ := hd
  have hlt := hd.lt
  have hd := hd.below hb
  have bel := bel.trans (hb.mono bel.size)
  have hfi : (p.length : Int) + (wrap l).length ≤ 65536 := by omega
  have hr : appE ⟨65536, acts, -1, 0, false⟩ fN (wrap l) [⟨fN, p, N⟩] = 0 := by simp [appE, may_un, sumA, hfi]
  have hf : appF ⟨65536, acts, -1, 0, false⟩ fN (wrap l) [⟨fN, p, N⟩] = [⟨fN, p ++ wrap l, N⟩] := by simp [appF, sumA, put, hfi]
  have := add_any d S [⟨fN, p, N⟩] ⟨65536, acts, -1, 0, false⟩ fN A n c l w (T.below bel) hd (hd_fits5 (by simp) (by simp) (by show acts ≤ _; omega) (by simp) (by simp) (by simp) (by simp)) (by show acts < _; omega) ok_f5 (by simp only [sumA]; omega) (by simp) (by omega) hnc hs
  rw [hr, hf, act_un (by decide)] at this
  refine this.mono ?_
  rintro e w' ⟨rfl, hn⟩
  refine ⟨rfl, since_next bel hS hn, fun g h1 h2 => ?_⟩
  obtain ⟨_, _, hbs, _⟩ := hn
  exact hbs.block g h2 fun hm => by have := hlt _ hm; omega
/-- The first bytes of a file, appended. -/
theorem appendL (w0 w : World) (d : Nat) (A : Option Addr) (n c : Nat) (q : List UInt8) (hd : Since w0 d [] ⟨65536, 0, -1, 0, false⟩ w) (hs : Sees w0 A n q) (hn : n ≤ 60000) (hnc : n ≤ c) (hcc : c ≤ 9223372036854775807) :
    Calls Tryd.prog 18 #[.pointer (some ⟨d, 0, none⟩), .string ⟨#[102]⟩, .slice A n c] w fun e w' => e = .returned (.int .i64 0) ∧ Since w0 d [⟨fN, q, 0⟩] ⟨65536, 1, -1, 0, false⟩ w' := by
  obtain ⟨S, hd, bel, hS⟩ := hd
  have hql := hs.1
  have hfi : (q.length : Int) ≤ 65536 := by omega
  have hr : appE ⟨65536, 0, -1, 0, false⟩ fN q [] = 0 := by simp [appE, may_un, sumA, hfi]
  have hf : appF ⟨65536, 0, -1, 0, false⟩ fN q [] = [⟨fN, q, 0⟩] := by simp [appF, sumA, put, hfi]
  have := appendC d S [] ⟨65536, 0, -1, 0, false⟩ fN A n c q w hd (hd_fits5 (by simp) (by simp) (by simp) (by simp) (by simp) (by simp) (by simp)) (by simp) ok_f5 (by simp [sumA]) (by simp) (by omega) hnc hcc (hs.below bel) (Out.of_lt hs (Nat.le_refl _) hS)
  rw [hr, hf, act_un (by decide)] at this
  refine this.mono ?_
  rintro e w' ⟨rfl, hn⟩
  exact ⟨rfl, since_next bel hS hn⟩
/-- An operation that isn't wanted. -/
theorem wanted_not {ops : Array Oper} {o : Oper} {a : Act} {g d : Nat} {b : Bool} (h : o.guard = some (g, b)) (hd : (ops[g]?).bind (·.dst) = some d) (hv : a.tmps.getD d undef = .bool (!b)) : Region.wanted o (yielded ops a.tmps) = false := by
  have hlt : d < a.tmps.size := by
    rcases Nat.lt_or_ge d a.tmps.size with h' | h'
    · exact h'
    · rw [Array.getD_eq_getD_getElem?, Array.getElem?_eq_none h'] at hv
      cases hv
  have hy : yielded ops a.tmps g = some (!b) := by
    unfold yielded
    rw [hd]
    simp only [Option.bind_some]
    rw [Array.getD_eq_getD_getElem?, Array.getElem?_eq_getElem hlt] at hv
    rw [Array.getElem?_eq_getElem hlt]
    simp only [Option.getD_some] at hv
    rw [hv]
  cases b <;> simp [Region.wanted, h, hy]
theorem step_skip {P : Program} {ops : Array Oper} {a0 : Act} {w0 : World} {L : List Facts.Pred} {j : Nat} {o : Oper}
    (h : ∀ (a : Act) (w : World), (∀ i d, Facts.dep ops j i d = true → Facts.holds L i (a.tmps.getD d undef) w) → Region.wanted o (yielded ops a.tmps) = false) (hu : ∀ w, Facts.holds L j undef w) :
    Facts.Step P ops a0 w0 (fun a b => Below a.heap.size a b) (Facts.holds L) j o := fun a w _ _ hnew =>
  ⟨fun hw => absurd hw (by rw [h a w hnew]; decide), fun _ => hu w⟩
theorem wraps_short3 {L : List (List UInt8)} (h : lens L ≤ 10000) : (wraps L).length ≤ lens L := by
  induction L with
  | nil => simp [wraps]
  | cons x r ih =>
    simp only [lens] at h ⊢
    have h1 := ih (by omega)
    have h2 := enc_two (n := x.length) (by omega)
    have h3 := wrap_length x
    have h4 : (wraps (x :: r)).length = (wrap x).length + (wraps r).length := by simp [wraps]
    omega
theorem sheetL3 (w0 w : World) (d : Nat) (k : UInt8) (a b : Nat) (L : List (List UInt8)) (N acts : Nat) (T : Chk.Tabs w0) (ha : a < 18446744073709551616) (hb : b < 18446744073709551616) (hd : Since w0 d [⟨fN, wholeL k a b L, N⟩] ⟨65536, acts, -1, 0, false⟩ w) (hL : lens L ≤ 10000) :
    Calls Tryd.prog 11 #[.pointer (some ⟨d, 0, none⟩), .string ⟨#[102]⟩] w fun e w' => ∃ Al cl, e = .returned (.tuple #[sheetV k a b Al L.length cl (wholeL k a b L).length 0, .int .i64 0]) ∧ SeesAll w' Al L.length L ∧ Below w.heap.size w w' := by
  obtain ⟨S, hd, bel, hS⟩ := hd
  have hhl := headL_len (k := k) ha hb
  have htl := (titleL_len (k := k) ha hb).2
  have hwa := wraps_short3 hL
  have hla : (wholeL k a b L).length ≤ 11000 := by unfold wholeL; rw [List.length_append]; omega
  have hall := allL_wraps most L [] (fun l hl => by have := lens_mem l hl; unfold most; omega)
  rw [List.append_nil] at hall
  have h0 : allL [] most = ([], 0, 0) := by decide +kernel
  rw [h0] at hall
  have hg : goodN k a b (wraps L) = (wholeL k a b L).length := by unfold goodN wholeL; rw [hall, List.length_append]; simp
  have := read_ok d S [⟨fN, wholeL k a b L, N⟩] ⟨65536, acts, -1, 0, false⟩ fN ⟨fN, wholeL k a b L, N⟩ k a b (wraps L) w (T.below bel) ha hb hd (by simp) (by simp only [sumA]; omega) rfl (by simp [lookA]) rfl
  rw [hg, hall] at this
  refine this.mono ?_
  rintro e w' ⟨Al, nl, cl, vs, rfl, hown, heach, hb'⟩
  have hs := SeesAll.of_own hown heach.each
  simp only [List.append_nil] at hs
  have hln := hs.len
  subst hln
  exact ⟨Al, cl, rfl, hs, hb'⟩
end Go.Proofs.YtokfajlmephdeaaDoor.Sht
