/- Order: Next of a cursor. -/
import Derived.Test.YtlacihgoammjgaaOrdJ
namespace Go.Proofs.Ytlacihgoammjgaa.Ord
open Go Go.RowKit Go.Proofs.Ytlacihgoammjgaa.Words Go.Proofs.Ytlacihgoammjgaa.Enc Go.Proofs.Ytlacihgoammjgaa.Evt Go.Proofs.Ytlacihgoammjgaa.Seg
set_option linter.unusedVariables false
set_option linter.unusedSimpArgs false

def zeroE : Array Value := #[.int .i64 0, .int .u64 0, .int .u64 0, .int .u8 0, .string ⟨#[]⟩, .slice none 0 0, .float .f64 0, .int .i64 0]
def zeroEV : Value := .agg zeroE
/-- What is left of a list behind its first. -/
def HV.rest (h : HV) : HV := ⟨h.A.map fun a => ⟨a.block, a.off + 8, none⟩, h.c - 1, h.S.tail⟩
theorem rowsL_tail {S : List EvS} (hS : S ≠ []) (j : Nat) : (rowsL S.tail)[j]? = (rowsL S)[8 + j]? := by
  cases S with
  | nil => exact absurd rfl hS
  | cons a l => rw [rowsL, List.getElem?_append_right (by rw [EvS.cells_len]; omega), EvS.cells_len, show 8 + j - 8 = j by omega]; rfl
theorem Lies.rest {B : Nat} {w : World} {h : HV} (hl : Lies B w h) (hn : h.S ≠ []) : Lies B w h.rest := by
  have hp := List.length_pos_iff.2 hn
  refine ⟨⟨by simp [HV.rest]; have := hl.1.1; omega, by have := hl.1.2; simp [HV.rest]; omega⟩, fun h0 => ?_⟩
  obtain ⟨b, o, h1, h2, h3⟩ := hl.2 hp
  refine ⟨b, o + 8, h1, by simp [HV.rest, h2], fun j v hv => ?_⟩
  rw [show o + 8 + j = o + (8 + j) by omega]
  refine h3 (8 + j) v ?_
  rw [← rowsL_tail hn]
  exact hv

/-- One step of a cursor: the first list has lost its first event. -/
structure Step1 (hs hs' : List HV) : Prop where
  heap : Heap hs'
  flat : ((HV.at_ hs 0).one :: flat hs').Perm (flat hs)
  sub : ∀ x ∈ hs', x ∈ hs ∨ x = (HV.at_ hs 0).rest
theorem one_cons {h : HV} (hn : h.S ≠ []) : h.S = h.one :: h.S.tail := by
  unfold HV.one
  cases hS : h.S with
  | nil => exact absurd hS hn
  | cons a l => rfl
theorem at_zero {h : HV} {t : List HV} : HV.at_ (h :: t) 0 = h := rfl
theorem Step1.of_fix {hs hs' : List HV} (h0 : 0 < hs.length) (hne : (HV.at_ hs 0).S ≠ []) (hh : Heap hs') (hp : hs'.Perm (hs.set 0 (HV.at_ hs 0).rest)) : Step1 hs hs' := by
  cases hs with
  | nil => simp at h0
  | cons a t =>
    rw [at_zero] at *
    rw [List.set_cons_zero] at hp
    refine ⟨hh, ?_, fun x hx => ?_⟩
    · refine ((flat_perm hp).cons _).trans ?_
      rw [at_zero]
      unfold Ord.flat
      rw [List.flatMap_cons, List.flatMap_cons]
      conv => rhs; rw [one_cons hne]
      exact List.Perm.refl _
    · rcases List.mem_cons.1 (hp.mem_iff.1 hx) with rfl | h
      · exact .inr rfl
      · exact .inl (List.mem_cons_of_mem _ h)
theorem Step1.of_pop {hs hs' : List HV} (h0 : 0 < hs.length) (hne : (HV.at_ hs 0).S.length = 1) (hh : Heap hs') (hp : (hs' ++ [HV.at_ hs 0]).Perm hs) : Step1 hs hs' := by
  cases hs with
  | nil => simp at h0
  | cons a t =>
    rw [at_zero] at *
    have hp2 : hs'.Perm t := by
      have := List.perm_append_comm.symm.trans hp
      exact List.Perm.cons_inv this
    have hS : a.S = [a.one] := by
      have h1 := one_cons (h := a) (by intro e; rw [e] at hne; simp at hne)
      have : a.S.tail = [] := List.eq_nil_of_length_eq_zero (by rw [List.length_tail, hne])
      rw [this] at h1
      exact h1
    refine ⟨hh, ?_, fun x hx => .inl (List.mem_cons_of_mem _ (hp2.mem_iff.1 hx))⟩
    rw [at_zero]
    refine ((flat_perm hp2).cons _).trans ?_
    unfold Ord.flat
    rw [List.flatMap_cons, hS]
    exact List.Perm.refl _

def NextGives (B p : Nat) (T : TypeId) (A : Option Addr) (c : Nat) (hs : List HV) (w : World) (e : Ending) (w' : World) : Prop :=
  e = .returned (.tuple #[(HV.at_ hs 0).one.e.val (HV.at_ hs 0).one.A (HV.at_ hs 0).one.n (HV.at_ hs 0).one.c, .bool true]) ∧ (∃ hs', HeadsAt B p T A c hs' w' ∧ Step1 hs hs') ∧ Below B w w' ∧ Beside (mine p A) w w'

set_option maxRecDepth 100000 in
set_option maxHeartbeats 4000000 in
theorem next_none {B p : Nat} {T : TypeId} {A : Option Addr} {c : Nat} {w : World} (h : HeadsAt B p T A c [] w) :
    Calls Try.prog 11 #[.pointer (some ⟨p, 0, none⟩)] w fun e w' => e = .returned (.tuple #[zeroEV, .bool false]) ∧ Below w.heap.size w w' := by
  have hsf := store_float Try.prog
  have hc := (h.below ((Below.refl w.heap.size w).alloc (Nat.le_refl _) (.cells zeroE 34))).cell
  have g0 := heap_alloc_new w (.cells zeroE 34)
  have b0 := (Below.refl w.heap.size w).alloc (Nat.le_refl _) (.cells zeroE 34)
  obtain ⟨u, hu⟩ : ∃ u, u = w.alloc (.cells zeroE 34) := ⟨_, rfl⟩
  rw [← hu] at hc g0 b0
  unfold zeroE at hu g0
  have HU := Lib.hid hu
  have G0 := Lib.hid g0
  have B0 := Lib.hid b0
  simp only [List.length_nil] at hc
  clear h hu g0 b0
  unfold zeroEV
  go_enter Try.func11, Try.ntmps11
  go_upto_region 1 with fail
  rw [← HU.out]
  go_wp2_with (first
    | (refine wpList_putRow rfl 34 (.tmp 2) (.tmp 15) rfl w.heap.size 34 zeroE zeroE rfl rfl ?g2 (by kernel_rfl) rfl (by simp [zeroE, Value.oneCell']) ?_))
  case g2 => exact G0.out
  intro W5 hW5 hbe5
  unfold zeroE at hW5
  obtain ⟨k0, k1, k2, k3, k4, k5, k6, k7⟩ := box8 hW5
  have B5 := Lib.hid (Below.beside B0.out hbe5 B0.out.size (by simp))
  clear hW5 hbe5
  go_wp2
  refine bodyPost_ret (v := .tuple #[.agg zeroE, .bool false]) ?_ rfl ⟨rfl, B5.out⟩
  simp [results, zeroE, Try.results11, go_sem, k0, k1, k2, k3, k4, k5, k6, k7]

set_option maxRecDepth 100000 in
set_option maxHeartbeats 4000000 in
theorem next_any {B p : Nat} {T : TypeId} {A : Option Addr} {c : Nat} {hs : List HV} {w : World} (h : HeadsAt B p T A c hs w) (hH : Heap hs) (hn0 : 0 < hs.length) (hn : hs.length ≤ 1000000000) :
    Calls Try.prog 11 #[.pointer (some ⟨p, 0, none⟩)] w (NextGives B p T A c hs w) := by
  have hsf := store_float Try.prog
  have hps := (Array.getElem?_eq_some_iff.1 h.box).1
  have hu := h.below ((Below.refl w.heap.size w).alloc (Nat.le_refl _) (.cells zeroE 34))
  have g0 := heap_alloc_new w (.cells zeroE 34)
  have b0 := (Below.refl w.heap.size w).alloc (Nat.le_refl _) (.cells zeroE 34)
  obtain ⟨u, hue⟩ : ∃ u, u = w.alloc (.cells zeroE 34) := ⟨_, rfl⟩
  rw [← hue] at hu g0 b0
  unfold zeroE at hue g0
  have HU := Lib.hid hue
  clear hue
  obtain ⟨g, rfl, hg, hgp, hcell⟩ := hu.get hn0
  have hgs : g < w.heap.size := by
    obtain ⟨g', e, _, _, hc'⟩ := h.get hn0
    cases e
    exact World.block_lt_of_cell? _ _ (hc' 0 hn0)
  have hne : (HV.at_ hs 0).S ≠ [] := hH.ne _ (at_mem hn0)
  have hrb : w.heap.size ∉ mine p (some ⟨g, 0, none⟩) := by simp [mine]; omega
  have hlow : ∀ x ∈ mine p (some ⟨g, 0, none⟩), B ≤ x := mine_low h.low (fun a ha => by cases ha; exact hg)
  have hcp := hu.cell
  have hc0 := hcell 0 hn0
  have hf0 := hu.frz 0
  obtain ⟨b, o, hbB, hAb, f0, f1, f2, f3, f4, f5, f6, f7⟩ := (hu.lie _ (at_mem hn0)).first hne
  have hcap := (hu.lie _ (at_mem hn0)).1
  -- what comes behind the calls
  have FIN : ∀ W hs', HeadsAt B p T (some ⟨g, 0, none⟩) c hs' W → Step1 hs hs' → Below B u W → Beside (mine p (some ⟨g, 0, none⟩)) u W →
      W.heap[w.heap.size]? = some (.cells #[.int .i64 0, .int .u64 0, .int .u64 0, .int .u8 0, .string ⟨#[]⟩, .slice none 0 0, .float .f64 0, .int .i64 0] 34 (0, 0)) ∧ (W.cell? ⟨b, o, none⟩ = some (.int .i64 (HV.at_ hs 0).one.e.writer) ∧ W.cell? ⟨b, o + 1, none⟩ = some (.int .u64 ((HV.at_ hs 0).one.e.seq : Int)) ∧ W.cell? ⟨b, o + 2, none⟩ = some (.int .u64 ((HV.at_ hs 0).one.e.time : Int)) ∧ W.cell? ⟨b, o + 3, none⟩ = some (.int .u8 ((HV.at_ hs 0).one.e.kind : Int)) ∧ W.cell? ⟨b, o + 4, none⟩ = some (.string (HV.at_ hs 0).one.e.key) ∧ W.cell? ⟨b, o + 5, none⟩ = some (.slice (HV.at_ hs 0).one.A (HV.at_ hs 0).one.n (HV.at_ hs 0).one.c) ∧ W.cell? ⟨b, o + 6, none⟩ = some (.float .f64 (HV.at_ hs 0).one.e.num) ∧ W.cell? ⟨b, o + 7, none⟩ = some (.int .i64 (HV.at_ hs 0).one.e.node)) ∧ Hid (∀ W5, Beside [w.heap.size] W W5 → ∃ e, e = Ending.returned (.tuple #[(HV.at_ hs 0).one.e.val (HV.at_ hs 0).one.A (HV.at_ hs 0).one.n (HV.at_ hs 0).one.c, .bool true]) ∧ NextGives B p T (some ⟨g, 0, none⟩) c hs w e W5) := fun W hs' hh hst hb hbs => by
    have old : ∀ {q : Addr} {v : Value}, q.block < B → u.cell? q = some v → W.cell? q = some v := fun {q v} hq hv => by rw [hb.cell hq]; exact hv
    refine ⟨(hbs.block _ (Array.getElem?_eq_some_iff.1 g0).1 hrb).trans g0, ⟨old hbB f0, old hbB f1, old hbB f2, old hbB f3, old hbB f4, old hbB f5, old hbB f6, old hbB f7⟩, Lib.hid fun W5 h5 => ⟨_, rfl, rfl, ⟨hs', ?_, hst⟩, ?_, ?_⟩⟩
    · have hbx : Below B W W5 := Below.beside (Below.refl B W) h5 (by have := hh.low; have := (Array.getElem?_eq_some_iff.1 hh.box).1; omega) (fun x hx => by simp at hx; subst hx; have := h.low; omega)
      have hge : ∀ k, k ∈ mine p (some ⟨g, 0, none⟩) → k ≠ w.heap.size := fun k hk e => hrb (e ▸ hk)
      refine ⟨(h5.block p (Array.getElem?_eq_some_iff.1 hh.box).1 (by simpa using hge p (by simp [mine]))).trans hh.box, ⟨hh.own.1, ?_⟩, hh.apart, hh.low, fun x hx => (hh.lie x hx).below hbx⟩
      rcases hh.own.2 with hn | ⟨g', cap, cur, hv, hg', hhh, r⟩
      · exact .inl hn
      · have : g' = g := by injection hv with e1 _ _; injection e1 with e1; injection e1 with e1; exact e1.symm
        subst this
        exact .inr ⟨g', cap, cur, hv, hg', (h5.block g' (Array.getElem?_eq_some_iff.1 hhh).1 (by simpa using hge g' (by simp [mine]))).trans hhh, r⟩
    · have : B ≤ w.heap.size := by have := h.low; omega
      exact ((b0.mono this).trans hb).trans (Below.beside (Below.refl B W) h5 (by have := hb.size; have := b0.size; omega) (fun x hx => by simp at hx; subst hx; exact this))
    · exact ((Beside.of_below b0 _).trans hbs fun x hx => .inl hx).trans h5 fun x hx => .inr (by simp at hx; omega)
  have FX : 1 < (HV.at_ hs 0).S.length → ∀ W, W = (u.setCell ⟨g, 0, none⟩ (HV.at_ hs 0).rest.val).drew → Calls Try.prog 29 #[IH p, .int .i64 0] W fun e w' => e = .returned (.tuple #[]) ∧ ∃ hs', HeadsAt B p T (some ⟨g, 0, none⟩) c hs' w' ∧ Step1 hs hs' ∧ Below B u w' ∧ Beside (mine p (some ⟨g, 0, none⟩)) u w' := fun hlen W hW => by
    obtain ⟨q1, q2, _⟩ := hu.set 0 hn0 (HV.at_ hs 0).rest ((hu.lie _ (at_mem hn0)).rest hne)
    have hrn : (HV.at_ hs 0).rest.S ≠ [] := fun e => by have := congrArg List.length e; simp [HV.rest] at this; omega
    have hD : DownInv hvLe (HV.at_ (hs.set 0 (HV.at_ hs 0).rest)) (hs.set 0 (HV.at_ hs 0).rest).length 0 := by
      rw [List.length_set]
      exact Heaped.down0 hH.ord (fun k k1 k2 => at_set_ne (by omega)) (Nat.le_refl _)
    have hne2 : ∀ x ∈ hs.set 0 (HV.at_ hs 0).rest, x.S ≠ [] := fun x hx => by
      rcases List.mem_or_eq_of_mem_set hx with h | rfl
      · exact hH.ne x h
      · exact hrn
    have hfx := hfix_any (q1.drew) hne2 (by simpa using hn0) hD (by simpa using hn)
    rw [← hW] at hfx
    refine hfx.mono ?_
    rintro e w' ⟨rfl, ⟨hs', k1, k2, k3⟩, k4, k5⟩
    refine ⟨rfl, hs', k1, Step1.of_fix hn0 hne k2 k3, ?_, ?_⟩
    · have : Below B u W := by rw [hW]; exact q2.drew
      exact this.trans k4
    · have : Beside (mine p (some ⟨g, 0, none⟩)) u W := by rw [hW]; exact ((Beside.refl _ u).setCell (by simp [mine]) _).drew
      exact this.trans k5 fun x hx => .inl hx
  have PO : (HV.at_ hs 0).S.length = 1 → Calls Try.prog 30 #[IH p] u fun e w' => (∃ v, e = .returned v) ∧ ∃ hs', HeadsAt B p T (some ⟨g, 0, none⟩) c hs' w' ∧ Step1 hs hs' ∧ Below B u w' ∧ Beside (mine p (some ⟨g, 0, none⟩)) u w' := fun hlen => by
    obtain ⟨m, hm⟩ : ∃ m, hs.length = m + 1 := ⟨hs.length - 1, by omega⟩
    refine (hpop_any hu hH hm (by omega)).mono ?_
    rintro e w' ⟨hv, ⟨hs', k1, k2, k3⟩, k4, k5⟩
    exact ⟨hv, hs', k1, Step1.of_pop hn0 hlen k2 k3, k4, k5⟩
  have hz1 : 0 < (HV.at_ hs 0).S.length := List.length_pos_iff.2 hne
  have hrv : (HV.at_ hs 0).rest.val = .slice (some ⟨b, o + 8, none⟩) ((HV.at_ hs 0).S.length - 1) ((HV.at_ hs 0).c - 1) := by
    simp [HV.val, HV.rest, hAb]
  rw [hrv] at FX
  unfold HV.val at hc0
  rw [hAb] at hc0
  have HFIN := Lib.hid FIN
  have HPO := Lib.hid PO
  have HFX := Lib.hid FX
  clear FIN PO FX h hu hcell hH hne hrb hlow hAb hrv f0 f1 f2 f3 f4 f5 f6 f7 g0 b0
  generalize (HV.at_ hs 0).S.length = m at *
  generalize (HV.at_ hs 0).c = cm at *
  generalize (HV.at_ hs 0).one = r at *
  generalize hs.length = n at *
  have zn : ((n : Int) == 0) = false := by rw [beq_eq_false_iff_ne]; omega
  have zn2 : (0 : Int) < (n : Int) := by omega
  by_cases hm1 : 1 < m
  · have zm : (1 : Int) < (m : Int) := by omega
    have zm2 : 1 ≤ m := by omega
    have zm3 : ¬ cm = 1 := by omega
    have zm4 : m ≤ cm := hcap.1
    go_enter Try.func11, Try.ntmps11
    go_upto_region 1 with fail
    rw [← HU.out]
    go_wp2_with fail
    go_region
    all_goals go_wp2_with fail
    refine (HFX.out hm1 _ rfl).mono ?_
    rintro e w2 ⟨rfl, hs', q1, q2, q3, q4⟩
    obtain ⟨G2, ⟨k0, k1, k2, k3, k4, k5, k6, k7⟩, HF⟩ := HFIN.out w2 hs' q1 q2 q3 q4
    have HG2 := Lib.hid G2
    clear G2 q1 q2 q3 q4 HFIN HPO HFX
    go_wp2_with (first
      | (refine wpList_putRow rfl 34 (.tmp 2) (.tmp 44) rfl w.heap.size 34 zeroE (r.e.row r.A r.n r.c) rfl rfl ?g2 (by kernel_rfl) rfl (by simp [Ev.row, Value.oneCell']) ?_))
    case g2 => exact HG2.out
    intro W5 hW5 hbe5
    obtain ⟨e5, he5, hng⟩ := HF.out W5 hbe5
    subst he5
    unfold Ev.row at hW5
    obtain ⟨m0, m1, m2, m3, m4, m5, m6, m7⟩ := box8 hW5
    have HNG := Lib.hid hng
    clear hW5 hbe5 hng
    go_wp2
    refine bodyPost_ret (v := .tuple #[r.e.val r.A r.n r.c, .bool true]) ?_ rfl HNG.out
    simp [results, Ev.val, Ev.row, Try.results11, go_sem, m0, m1, m2, m3, m4, m5, m6, m7]
  · have hm2 : m = 1 := by omega
    subst hm2
    go_enter Try.func11, Try.ntmps11
    go_upto_region 1 with fail
    rw [← HU.out]
    go_wp2_with fail
    refine (HPO.out trivial).mono ?_
    rintro e w2 ⟨⟨v, rfl⟩, hs', q1, q2, q3, q4⟩
    obtain ⟨G2, ⟨k0, k1, k2, k3, k4, k5, k6, k7⟩, HF⟩ := HFIN.out w2 hs' q1 q2 q3 q4
    have HG2 := Lib.hid G2
    clear G2 q1 q2 q3 q4 HFIN HPO HFX
    go_wp2_with (first
      | (refine wpList_putRow rfl 34 (.tmp 2) (.tmp 44) rfl w.heap.size 34 zeroE (r.e.row r.A r.n r.c) rfl rfl ?g2 (by kernel_rfl) rfl (by simp [Ev.row, Value.oneCell']) ?_))
    case g2 => exact HG2.out
    intro W5 hW5 hbe5
    obtain ⟨e5, he5, hng⟩ := HF.out W5 hbe5
    subst he5
    unfold Ev.row at hW5
    obtain ⟨m0, m1, m2, m3, m4, m5, m6, m7⟩ := box8 hW5
    have HNG := Lib.hid hng
    clear hW5 hbe5 hng
    go_wp2
    refine bodyPost_ret (v := .tuple #[r.e.val r.A r.n r.c, .bool true]) ?_ rfl HNG.out
    simp [results, Ev.val, Ev.row, Try.results11, go_sem, m0, m1, m2, m3, m4, m5, m6, m7]
end Go.Proofs.Ytlacihgoammjgaa.Ord
