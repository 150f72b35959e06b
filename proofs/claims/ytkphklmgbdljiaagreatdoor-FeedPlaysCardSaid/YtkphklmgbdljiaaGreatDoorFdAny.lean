/- feed: an event is added, whichever way. -/
import Derived.Test.YtkphklmgbdljiaaGreatDoorFdAdd
import Derived.Test.YtkphklmgbdljiaaGreatDoorFdLast
import Derived.Test.YtkphklmgbdljiaaGreatDoorFdFull
import Derived.Test.YtkphklmgbdljiaaGreatDoorFdEv
namespace Go.Proofs.YtkphklmgbdljiaaGreatDoor.Fd
open Go Go.RowKit Go.Proofs.YtkphklmgbdljiaaGreatDoor.Words Go.Proofs.YtkphklmgbdljiaaGreatDoor.Enc Go.Proofs.YtkphklmgbdljiaaGreatDoor.Evt Go.Proofs.YtkphklmgbdljiaaGreatDoor.Made Go.Proofs.YtkphklmgbdljiaaGreatDoor.Dsk Go.Proofs.YtkphklmgbdljiaaGreatDoor.Sht Go.Proofs.YtkphklmgbdljiaaGreatDoor.Seg
set_option linter.unusedVariables false
set_option linter.unusedSimpArgs false

theorem evs_full (x : Nat) : ∀ P : List Part, evsP (P.map (Part.full x)) = evsP P
  | [] => rfl
  | p :: r => by
    have := evs_full x r
    simp only [List.map_cons, evsP, this]
    rfl
theorem chain_full {x : Nat} : ∀ {P : List Part} {u : Nat}, Chain x u P → Chain x u (P.map (Part.full x))
  | [], u, _ => trivial
  | p :: r, u, h => ⟨⟨h.1.1, h.1.2.1, h.1.2.2.1, Nat.le_refl _⟩, chain_full h.2⟩
theorem head_short {x u : Nat} (hx : x < 64) (hu : u < 100000) : (headL 115 x u).length ≤ 60 := by
  have h := headL_len (k := 115) (a := x) (b := u) (by omega) (by omega)
  have h3 := (titleL_len (k := 115) (a := x) (b := u) (by omega) (by omega)).1
  have h1 := enc_two (n := x) (by omega)
  have h2 := enc_le 2 u (by omega)
  omega
theorem chain_sum {x : Nat} (hx : x < 64) : ∀ {P : List Part} {u : Nat}, Chain x u P → u + (evsP P).length ≤ 1000 → (P.map (Part.z x)).sum ≤ 235 * (evsP P).length
  | [], u, _, _ => by simp
  | p :: r, u, h, hl => by
    simp only [evsP, List.length_append] at hl ⊢
    have h1 := chain_sum hx h.2 (by omega)
    have h2 := List.length_pos_iff.2 h.1.2.1
    have h3 := runs_wraps h.1.2.2.1
    have h4 := head_short (x := x) (u := p.u) hx (by have := h.1.1; omega)
    have hz : p.z x = (headL 115 x p.u).length + (wraps (p.L.map evL)).length := rfl
    simp only [List.map_cons, List.sum_cons]
    omega
/-- What holds of a feed's parts. -/
structure Fine (x floor u0 : Nat) (P : List Part) (safe : Nat) : Prop where
  good : Good x floor u0 P
  sf : safe ≤ P.length - 1
  done : ∀ p ∈ P.take safe, p.N = p.z x
theorem Fine.rise {x floor u0 : Nat} {P : List Part} {safe : Nat} (h : Fine x floor u0 P safe) : Rise P := (chain_rise h.good.chain h.good.few).1
theorem Fine.low {x floor u0 : Nat} {P : List Part} {safe : Nat} (h : Fine x floor u0 P safe) : ∀ p ∈ P, p.N ≤ p.z x := by
  intro p hp
  obtain ⟨I, J, hIJ⟩ := List.append_of_mem hp
  have hc := h.good.chain
  rw [hIJ] at hc
  exact (chain_append.1 hc).2.1.2.2.2
/-- The parts go on with an event. -/
structure Goes (x floor u0 : Nat) (P : List Part) (ev : Ev) (P' : List Part) (safe' : Nat) : Prop where
  fine : Fine x floor u0 P' safe'
  evs : evsP P' = evsP P ++ [ev]
  loose : ∃ p ∈ P'.drop safe', p.N < p.z x
/-- An event that may come next. -/
structure Comes (x q : Nat) (ev : Ev) : Prop where
  wr : ev.writer = (x : Int)
  seq : ev.seq = q
  right : Right ev
  fit : ev.Fit
  plain : plainE ev = ev
  text : ev.text.length ≤ 29
  key : ev.key.size ≤ 1048576
theorem goes_extend {x floor u0 : Nat} {I : List Part} {p : Part} {safe : Nat} {ev : Ev} (F : Fine x floor u0 (I ++ [p]) safe) (C : Comes x (u0 + (evsP (I ++ [p])).length) ev) (hl : u0 + (evsP (I ++ [p])).length < 1000) : Goes x floor u0 (I ++ [p]) ev (I ++ [⟨p.u, p.L ++ [ev], p.N⟩]) safe := by
  have hc := chain_append.1 F.good.chain
  have hlast := chain_last F.good.chain
  have hp := hc.2.1
  have hev : evsP (I ++ [(⟨p.u, p.L ++ [ev], p.N⟩ : Part)]) = evsP (I ++ [p]) ++ [ev] := by simp [evsP_append, evsP]
  have hz : (⟨p.u, p.L ++ [ev], p.N⟩ : Part).z x = p.z x + (wrap (evL ev)).length := by simp [Part.z, wraps]; omega
  have hw : 0 < (wrap (evL ev)).length := by rw [wrap_length]; omega
  have hsf := F.sf
  simp at hsf
  refine ⟨⟨⟨chain_append.2 ⟨hc.1, ⟨hp.1, by simp, ?_, ?_⟩, trivial⟩, F.good.lo, ?_, F.good.pos, ?_⟩, by simp; omega, ?_⟩, hev, ?_⟩
  · refine runs_snoc hp.2.2.1 ⟨C.wr, ?_, C.right, C.fit.q, C.plain, C.text⟩
    rw [C.seq, ← hlast.1, hp.1]
  · rw [hz]
    have : p.N ≤ p.z x := hp.2.2.2
    exact Nat.le_trans this (Nat.le_add_right _ _)
  · rw [hev, List.length_append]
    have := F.good.hi
    simp only [List.length_singleton]
    omega
  · rw [hev, List.length_append]
    simp only [List.length_singleton]
    omega
  · intro q hq
    refine F.done q ?_
    rw [List.take_append_of_le_length (by omega)] at hq ⊢
    exact hq
  · refine ⟨(⟨p.u, p.L ++ [ev], p.N⟩ : Part), ?_, ?_⟩
    · rw [List.drop_append_of_le_length (by omega)]
      exact List.mem_append.2 (.inr (by simp))
    · have h1 : p.N ≤ p.z x := hp.2.2.2
      have h2 : p.N < p.z x + (wrap (evL ev)).length := by omega
      rw [hz]
      exact h2
theorem goes_begin {x floor u0 : Nat} {P : List Part} {safe : Nat} {ev : Ev} (F : Fine x floor u0 P safe) (C : Comes x (u0 + (evsP P).length) ev) (hl : u0 + (evsP P).length < 1000) : Goes x floor u0 P ev (P.map (Part.full x) ++ [⟨ev.seq, [ev], (headL 115 x ev.seq).length⟩]) (P.length - 1) := by
  have hev : evsP (P.map (Part.full x) ++ [(⟨ev.seq, [ev], (headL 115 x ev.seq).length⟩ : Part)]) = evsP P ++ [ev] := by rw [evsP_append, evs_full]; simp [evsP]
  have hz : (⟨ev.seq, [ev], (headL 115 x ev.seq).length⟩ : Part).z x = (headL 115 x ev.seq).length + (wrap (evL ev)).length := by simp [Part.z, wraps]
  have hw : 0 < (wrap (evL ev)).length := by rw [wrap_length]; omega
  refine ⟨⟨⟨chain_append.2 ⟨chain_full F.good.chain, ⟨?_, by simp, ?_, by rw [hz]; exact Nat.le_add_right _ _⟩, trivial⟩, F.good.lo, ?_, F.good.pos, ?_⟩, by simp, ?_⟩, hev, ?_⟩
  · rw [evs_full]; exact C.seq
  · rw [evs_full]
    exact ⟨⟨C.wr, C.seq, C.right, C.fit.q, C.plain, C.text⟩, trivial⟩
  · rw [hev, List.length_append]
    have := F.good.hi
    simp only [List.length_singleton]
    omega
  · rw [hev, List.length_append]
    simp only [List.length_singleton]
    omega
  · intro q hq
    rw [List.take_append_of_le_length (by rw [List.length_map]; omega)] at hq
    obtain ⟨p, hp, rfl⟩ := List.mem_map.1 (List.mem_of_mem_take hq)
    rfl
  · refine ⟨⟨ev.seq, [ev], (headL 115 x ev.seq).length⟩, ?_, ?_⟩
    · rw [List.drop_append_of_le_length (by rw [List.length_map]; omega)]
      exact List.mem_append.2 (.inr (by simp))
    · rw [hz]; exact Nat.lt_add_of_pos_right hw
theorem FNext.first [Inhabited XS] {O : List Nat} {w W w' : World} {d f x : Nat} {sz : Int} {floor time : Nat} {P : List Part} {safe acts : Nat} (hW : Below w.heap.size w W) (h : FNext O W d f x sz floor time P safe acts w') : FNext O w d f x sz floor time P safe acts w' := by
  obtain ⟨O', h1, h2, h3⟩ := h
  exact ⟨O', h1, (Beside.of_below hW O).trans h2 fun k hk => .inl hk, fun k hk => (h3 k hk).imp id (fun h => Nat.le_trans hW.size h)⟩
/-- The last event, or none. -/
def LastIs (floor tm u0 : Nat) (P : List Part) (t0 : Nat) : Prop :=
  (floor + 1 = u0 + (evsP P).length ∧ t0 = tm) ∨ (floor + 1 < u0 + (evsP P).length ∧ ∃ le, (evsP P)[(evsP P).length - 1]? = some le ∧ le.time = t0 ∧ le.kind ≤ 5)
set_option maxHeartbeats 1000000 in
theorem add_any [Inhabited XS] (HB : BeginSaid) (d f x : Nat) (sz : Int) (floor tm u0 t0 : Nat) (P : List Part) (safe acts : Nat) (O : List Nat) (ev : Ev) (Be : Option Addr) (me ke : Nat) (w : World) (F : Feed w d f x sz floor tm P safe O (hdA acts)) (T : TabsOn O w) (G : Fine x floor u0 P safe) (hx : x < 64) (hl : u0 + (evsP P).length ≤ 200) (hac : acts ≤ 30000)
    (C : Comes x (u0 + (evsP P).length) ev) (hs : Sees w Be me ev.text) (hout : Out O Be me) (hla : LastIs floor tm u0 P t0) (ht : t0 < ev.time) :
    Calls Tryz.prog 10 #[.pointer (some ⟨f, 0, none⟩), ev.val Be me ke] w fun e w' => e = .returned (.int .i64 0) ∧ ∃ P' safe' acts', acts' ≤ acts + P.length + 3 ∧ Goes x floor u0 P ev P' safe' ∧ FNext O w d f x sz floor tm P' safe' acts' w' := by
  have hfl : f < w.heap.size := F.lt f (by obtain ⟨R, A, c, S, _, rfl, _⟩ := F; simp)
  have hsum := chain_sum hx G.good.chain G.good.few
  have hpl := chain_len G.good.chain
  have hse : ∀ W, Below w.heap.size w W → Calls Tryz.prog 23 #[.pointer (some ⟨f, 0, none⟩)] W fun e w' => e = .returned (.bool false) ∧ Below W.heap.size W w' := fun W hW => by
    rcases hla with ⟨he, _⟩ | ⟨he, le, hle, _, hk⟩
    · exact sealed_none _ W (lastF_none d f x sz floor tm P safe O (hdA acts) u0 W (F.below hW) G.good he.symm)
    · exact sealed_some O le _ W hk (lastF_some d f x sz floor tm P safe O (hdA acts) u0 le W (F.below hW) G.good he hle)
  have htm : ∀ W, Below w.heap.size w W → Calls Tryz.prog 21 #[.pointer (some ⟨f, 0, none⟩)] W fun e w' => e = .returned (.int .u64 (t0 : Int)) ∧ Below W.heap.size W w' := fun W hW => by
    rcases hla with ⟨he, rfl⟩ | ⟨he, le, hle, rfl, hk⟩
    · exact time_none f t0 W (fun W2 hW2 => by
        obtain ⟨R, A, c, S, _, _, FA⟩ := (F.below hW).below hW2
        exact FA.cells.2.2.2.2.1) (lastF_none d f x sz floor t0 P safe O (hdA acts) u0 W (F.below hW) G.good he.symm)
    · exact time_some O le f W (lastF_some d f x sz floor tm P safe O (hdA acts) u0 le W (F.below hW) G.good he hle)
  have hc1 : ∀ W, Below w.heap.size w W → W.cell? ⟨f, 1, none⟩ = some (.int .i64 (x : Int)) := fun W hW => by
    obtain ⟨R, A, c, S, _, _, FA⟩ := F.below hW
    exact FA.cells.2.1
  have hnx := fun W (hW : Below w.heap.size w W) => nextF_any d f x sz floor tm P safe O (hdA acts) u0 W (F.below hW) G.good
  have hpos := G.good.pos
  have hev0 : 1 ≤ ev.seq ∧ ev.seq < 100000 := by have := C.seq; omega
  have hwl : (wrap (evL ev)).length ≤ 175 := by
    have h1 := wrap_length (evL ev)
    have h2 := evL_len C.right
    have h3 := C.text
    have h4 := enc_two (n := (evL ev).length) (by omega)
    omega
  have hhl := head_short (x := x) (u := ev.seq) hx hev0.2
  have BEG : ∀ W, Below w.heap.size w W → Calls Tryz.prog 28 #[.pointer (some ⟨f, 0, none⟩), ev.val Be me ke] W fun e w' => e = .returned (.int .i64 0) ∧ ∃ P' safe' acts', acts' ≤ acts + P.length + 3 ∧ Goes x floor u0 P ev P' safe' ∧ FNext O W d f x sz floor tm P' safe' acts' w' := fun W hW => by
    refine (HB d f x sz floor tm P safe acts O ev Be me ke W (F.below hW) (T.below hW) G.rise hx (by omega) (by have := G.sf; omega) (by omega) G.low G.done (hs.below hW) hout C.right C.fit (by have := C.text; omega) C.key C.wr C.plain hev0 (fun p hp => ?_) (by omega)).mono ?_
    · obtain ⟨I, J, hIJ⟩ := List.append_of_mem hp
      have hc := G.good.chain
      rw [hIJ] at hc
      have h1 := (chain_append.1 hc).2.1
      have h2 := C.seq
      rw [hIJ, evsP_append] at h2
      have h3 := List.length_pos_iff.2 h1.2.1
      simp only [evsP, List.length_append] at h2
      have h4 := h1.1
      omega
    · rintro e w' ⟨rfl, acts', ha, hF⟩
      exact ⟨rfl, _, _, acts', ha, goes_begin G C (by omega), hF⟩
  have key : ∀ full : Bool, (∀ W, Below w.heap.size w W → Calls Tryz.prog 27 #[.pointer (some ⟨f, 0, none⟩)] W fun e w' => e = .returned (.bool full) ∧ Below W.heap.size W w') →
      (full = false → ∀ W, Below w.heap.size w W → Calls Tryz.prog 29 #[.pointer (some ⟨f, 0, none⟩), ev.val Be me ke] W fun e w' => e = .returned (.int .i64 0) ∧ ∃ P' safe' acts', acts' ≤ acts + P.length + 3 ∧ Goes x floor u0 P ev P' safe' ∧ FNext O W d f x sz floor tm P' safe' acts' w') →
      Calls Tryz.prog 10 #[.pointer (some ⟨f, 0, none⟩), ev.val Be me ke] w fun e w' => e = .returned (.int .i64 0) ∧ ∃ P' safe' acts', acts' ≤ acts + P.length + 3 ∧ Goes x floor u0 P ev P' safe' ∧ FNext O w d f x sz floor tm P' safe' acts' w' := fun full hfu hex => by
    refine (add_at f x _ t0 full ev Be me ke w (fun W w' => ∃ P' safe' acts', acts' ≤ acts + P.length + 3 ∧ Goes x floor u0 P ev P' safe' ∧ FNext O W d f x sz floor tm P' safe' acts' w') hc1 hse hnx htm hfu (fun _ => BEG) hex C.wr C.seq ht hfl).mono ?_
    rintro e w' ⟨rfl, W, hW, P', safe', acts', h1, h2, h3⟩
    exact ⟨rfl, P', safe', acts', h1, h2, h3.first hW⟩
  by_cases hP : P = []
  · subst hP
    exact key true (fun W hW => full_none d f x sz floor tm safe O (hdA acts) W (F.below hW)) (fun h => by cases h)
  · obtain ⟨I, p, rfl⟩ := list_last hP
    refine key _ (fun W hW => full_any d f x sz floor tm I p safe O (hdA acts) u0 W (F.below hW) G.good) (fun _ W hW => ?_)
    have hlast := chain_last G.good.chain
    refine (extend_any d f x sz floor tm I p safe acts O ev Be me ke W (F.below hW) (T.below hW) G.rise hx (by simp at hpl; omega) (by omega) (hs.below hW) hout C.right C.fit (by have := C.text; omega) C.key ⟨C.wr, by rw [C.seq, hlast.1]⟩ C.plain (by rw [hlast.1]; omega) (by omega)).mono ?_
    rintro e w' ⟨rfl, hF⟩
    exact ⟨rfl, _, _, acts + 1, by omega, goes_extend G C (by omega), hF⟩
end Go.Proofs.YtkphklmgbdljiaaGreatDoor.Fd
