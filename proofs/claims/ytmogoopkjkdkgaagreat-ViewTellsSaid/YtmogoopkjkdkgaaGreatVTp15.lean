/- Order: Next of a cursor. Order: an event with a text of its own; events made in a row. Order: take, All. Order: take, All. -/
import Derived.Deep.MidRow
import Derived.Test.YtmogoopkjkdkgaaGreatVTp03
import Derived.Test.YtmogoopkjkdkgaaGreatVTp12
import Derived.Test.YtmogoopkjkdkgaaGreatVTp14
namespace Go.Proofs.YtmogoopkjkdkgaaGreat.Ord
open Go Go.RowKit Go.Proofs.YtmogoopkjkdkgaaGreat.Words Go.Proofs.YtmogoopkjkdkgaaGreat.Enc Go.Proofs.YtmogoopkjkdkgaaGreat.Evt Go.Proofs.YtmogoopkjkdkgaaGreat.Seg
set_option linter.unusedVariables false
set_option linter.unusedSimpArgs false

def zeroE : Array Value := #[.int .i64 0, .int .u64 0, .int .u64 0, .int .u8 0, .string ⟨#[]⟩, .slice none 0 0, .float .f64 0, .int .i64 0]
def zeroEV : Value := .agg zeroE
/-- What is left of a list behind its first. -/
def HV.rest (h : HV) : HV := ⟨h.A.map fun a => ⟨a.block, a.off + 8, none⟩, h.c - 1, h.S.tail⟩
theorem rowsL_tail {S : List EvS} (hS : S ≠ []) (j : Nat) : (rowsL S.tail)[j]? = (rowsL S)[8 + j]? := by
  cases S with
  | nil => exact absurd rfl hS
  | cons a l => rw [rowsL, List.getElem?_append_right (by rw [EvS.cells_len]; omega), EvS.cells_len, show 8 + j - 8 = j by omega]; rfl
theorem Lies.rest {B : Nat} {w : World} {h : HV} (hl : Lies B w h) (hn : h.S ≠ []) : Lies B w h.rest := by
  have hp := List.length_pos_iff.2 hn
  refine ⟨⟨by simp [HV.rest]; have := hl.1.1; omega, by have := hl.1.2; simp [HV.rest]; omega⟩, fun h0 => ?_⟩
  obtain ⟨b, o, h1, h2, h3⟩ := hl.2 hp
  refine ⟨b, o + 8, h1, by simp [HV.rest, h2], fun j v hv => ?_⟩
  rw [show o + 8 + j = o + (8 + j) by omega]
  refine h3 (8 + j) v ?_
  rw [← rowsL_tail hn]
  exact hv

/-- One step of a cursor: the first list has lost its first event. -/
structure Step1 (hs hs' : List HV) : Prop where
  heap : Heap hs'
  flat : ((HV.at_ hs 0).one :: flat hs').Perm (flat hs)
  sub : ∀ x ∈ hs', x ∈ hs ∨ x = (HV.at_ hs 0).rest
theorem one_cons {h : HV} (hn : h.S ≠ []) : h.S = h.one :: h.S.tail := by
  unfold HV.one
  cases hS : h.S with
  | nil => exact absurd hS hn
  | cons a l => rfl
theorem at_zero {h : HV} {t : List HV} : HV.at_ (h :: t) 0 = h := rfl
theorem Step1.of_fix {hs hs' : List HV} (h0 : 0 < hs.length) (hne : (HV.at_ hs 0).S ≠ []) (hh : Heap hs') (hp : hs'.Perm (hs.set 0 (HV.at_ hs 0).rest)) : Step1 hs hs' := by
  cases hs with
  | nil => simp at h0
  | cons a t =>
    rw [at_zero] at *
    rw [List.set_cons_zero] at hp
    refine ⟨hh, ?_, fun x hx => ?_⟩
    · refine ((flat_perm hp).cons _).trans ?_
      rw [at_zero]
      unfold Ord.flat
      rw [List.flatMap_cons, List.flatMap_cons]
      conv => rhs; rw [one_cons hne]
      exact List.Perm.refl _
    · rcases List.mem_cons.1 (hp.mem_iff.1 hx) with rfl | h
      · exact .inr rfl
      · exact .inl (List.mem_cons_of_mem _ h)
theorem Step1.of_pop {hs hs' : List HV} (h0 : 0 < hs.length) (hne : (HV.at_ hs 0).S.length = 1) (hh : Heap hs') (hp : (hs' ++ [HV.at_ hs 0]).Perm hs) : Step1 hs hs' := by
  cases hs with
  | nil => simp at h0
  | cons a t =>
    rw [at_zero] at *
    have hp2 : hs'.Perm t := by
      have := List.perm_append_comm.symm.trans hp
      exact List.Perm.cons_inv this
    have hS : a.S = [a.one] := by
      have h1 := one_cons (h := a) (by intro e; rw [e] at hne; simp at hne)
      have : a.S.tail = [] := List.eq_nil_of_length_eq_zero (by rw [List.length_tail, hne])
      rw [this] at h1
      exact h1
    refine ⟨hh, ?_, fun x hx => .inl (List.mem_cons_of_mem _ (hp2.mem_iff.1 hx))⟩
    rw [at_zero]
    refine ((flat_perm hp2).cons _).trans ?_
    unfold Ord.flat
    rw [List.flatMap_cons, hS]
    exact List.Perm.refl _

def NextGives (B p : Nat) (T : TypeId) (A : Option Addr) (c : Nat) (hs : List HV) (w : World) (e : Ending) (w' : World) : Prop :=
  e = .returned (.tuple #[(HV.at_ hs 0).one.e.val (HV.at_ hs 0).one.A (HV.at_ hs 0).one.n (HV.at_ hs 0).one.c, .bool true]) ∧ (∃ hs', HeadsAt B p T A c hs' w' ∧ Step1 hs hs') ∧ Below B w w' ∧ Beside (mine p A) w w'

set_option maxRecDepth 100000 in
set_option maxHeartbeats 4000000 in
theorem next_any {B p : Nat} {T : TypeId} {A : Option Addr} {c : Nat} {hs : List HV} {w : World} (h : HeadsAt B p T A c hs w) (hH : Heap hs) (hn0 : 0 < hs.length) (hn : hs.length ≤ 1000000000) :
    Calls Tryz.prog 78 #[.pointer (some ⟨p, 0, none⟩)] w (NextGives B p T A c hs w) := by
  have hsf := store_float Tryz.prog
  have hps := (Array.getElem?_eq_some_iff.1 h.box).1
  have hu := h.below ((Below.refl w.heap.size w).alloc (Nat.le_refl _) (.cells zeroE 32))
  have g0 := heap_alloc_new w (.cells zeroE 32)
  have b0 := (Below.refl w.heap.size w).alloc (Nat.le_refl _) (.cells zeroE 32)
  obtain ⟨u, hue⟩ : ∃ u, u = w.alloc (.cells zeroE 32) := ⟨_, rfl⟩
  rw [← hue] at hu g0 b0
  unfold zeroE at hue g0
  have HU := Lib.hid hue
  clear hue
  obtain ⟨g, rfl, hg, hgp, hcell⟩ := hu.get hn0
  have hgs : g < w.heap.size := by
    obtain ⟨g', e, _, _, hc'⟩ := h.get hn0
    cases e
    exact World.block_lt_of_cell? _ _ (hc' 0 hn0)
  have hne : (HV.at_ hs 0).S ≠ [] := hH.ne _ (at_mem hn0)
  have hrb : w.heap.size ∉ mine p (some ⟨g, 0, none⟩) := by simp [mine]; omega
  have hlow : ∀ x ∈ mine p (some ⟨g, 0, none⟩), B ≤ x := mine_low h.low (fun a ha => by cases ha; exact hg)
  have hcp := hu.cell
  have hc0 := hcell 0 hn0
  have hf0 := hu.frz 0
  obtain ⟨b, o, hbB, hAb, f0, f1, f2, f3, f4, f5, f6, f7⟩ := (hu.lie _ (at_mem hn0)).first hne
  have hcap := (hu.lie _ (at_mem hn0)).1
  -- what comes behind the calls
  have FIN : ∀ W hs', HeadsAt B p T (some ⟨g, 0, none⟩) c hs' W → Step1 hs hs' → Below B u W → Beside (mine p (some ⟨g, 0, none⟩)) u W →
      W.heap[w.heap.size]? = some (.cells #[.int .i64 0, .int .u64 0, .int .u64 0, .int .u8 0, .string ⟨#[]⟩, .slice none 0 0, .float .f64 0, .int .i64 0] 32 (0, 0)) ∧ (W.cell? ⟨b, o, none⟩ = some (.int .i64 (HV.at_ hs 0).one.e.writer) ∧ W.cell? ⟨b, o + 1, none⟩ = some (.int .u64 ((HV.at_ hs 0).one.e.seq : Int)) ∧ W.cell? ⟨b, o + 2, none⟩ = some (.int .u64 ((HV.at_ hs 0).one.e.time : Int)) ∧ W.cell? ⟨b, o + 3, none⟩ = some (.int .u8 ((HV.at_ hs 0).one.e.kind : Int)) ∧ W.cell? ⟨b, o + 4, none⟩ = some (.string (HV.at_ hs 0).one.e.key) ∧ W.cell? ⟨b, o + 5, none⟩ = some (.slice (HV.at_ hs 0).one.A (HV.at_ hs 0).one.n (HV.at_ hs 0).one.c) ∧ W.cell? ⟨b, o + 6, none⟩ = some (.float .f64 (HV.at_ hs 0).one.e.num) ∧ W.cell? ⟨b, o + 7, none⟩ = some (.int .i64 (HV.at_ hs 0).one.e.node)) ∧ Hid (∀ W5, Beside [w.heap.size] W W5 → ∃ e, e = Ending.returned (.tuple #[(HV.at_ hs 0).one.e.val (HV.at_ hs 0).one.A (HV.at_ hs 0).one.n (HV.at_ hs 0).one.c, .bool true]) ∧ NextGives B p T (some ⟨g, 0, none⟩) c hs w e W5) := fun W hs' hh hst hb hbs => by
    have old : ∀ {q : Addr} {v : Value}, q.block < B → u.cell? q = some v → W.cell? q = some v := fun {q v} hq hv => by rw [hb.cell hq]; exact hv
    refine ⟨(hbs.block _ (Array.getElem?_eq_some_iff.1 g0).1 hrb).trans g0, ⟨old hbB f0, old hbB f1, old hbB f2, old hbB f3, old hbB f4, old hbB f5, old hbB f6, old hbB f7⟩, Lib.hid fun W5 h5 => ⟨_, rfl, rfl, ⟨hs', ?_, hst⟩, ?_, ?_⟩⟩
    · have hbx : Below B W W5 := Below.beside (Below.refl B W) h5 (by have := hh.low; have := (Array.getElem?_eq_some_iff.1 hh.box).1; omega) (fun x hx => by simp at hx; subst hx; have := h.low; omega)
      have hge : ∀ k, k ∈ mine p (some ⟨g, 0, none⟩) → k ≠ w.heap.size := fun k hk e => hrb (e ▸ hk)
      refine ⟨(h5.block p (Array.getElem?_eq_some_iff.1 hh.box).1 (by simpa using hge p (by simp [mine]))).trans hh.box, ⟨hh.own.1, ?_⟩, hh.apart, hh.low, fun x hx => (hh.lie x hx).below hbx⟩
      rcases hh.own.2 with hn | ⟨g', cap, cur, hv, hg', hhh, r⟩
      · exact .inl hn
      · have : g' = g := by injection hv with e1 _ _; injection e1 with e1; injection e1 with e1; exact e1.symm
        subst this
        exact .inr ⟨g', cap, cur, hv, hg', (h5.block g' (Array.getElem?_eq_some_iff.1 hhh).1 (by simpa using hge g' (by simp [mine]))).trans hhh, r⟩
    · have : B ≤ w.heap.size := by have := h.low; omega
      exact ((b0.mono this).trans hb).trans (Below.beside (Below.refl B W) h5 (by have := hb.size; have := b0.size; omega) (fun x hx => by simp at hx; subst hx; exact this))
    · exact ((Beside.of_below b0 _).trans hbs fun x hx => .inl hx).trans h5 fun x hx => .inr (by simp at hx; omega)
  have FX : 1 < (HV.at_ hs 0).S.length → ∀ W, W = (u.setCell ⟨g, 0, none⟩ (HV.at_ hs 0).rest.val).drew → Calls Tryz.prog 104 #[IH p, .int .i64 0] W fun e w' => e = .returned (.tuple #[]) ∧ ∃ hs', HeadsAt B p T (some ⟨g, 0, none⟩) c hs' w' ∧ Step1 hs hs' ∧ Below B u w' ∧ Beside (mine p (some ⟨g, 0, none⟩)) u w' := fun hlen W hW => by
    obtain ⟨q1, q2, _⟩ := hu.set 0 hn0 (HV.at_ hs 0).rest ((hu.lie _ (at_mem hn0)).rest hne)
    have hrn : (HV.at_ hs 0).rest.S ≠ [] := fun e => by have := congrArg List.length e; simp [HV.rest] at this; omega
    have hD : DownInv hvLe (HV.at_ (hs.set 0 (HV.at_ hs 0).rest)) (hs.set 0 (HV.at_ hs 0).rest).length 0 := by
      rw [List.length_set]
      exact Heaped.down0 hH.ord (fun k k1 k2 => at_set_ne (by omega)) (Nat.le_refl _)
    have hne2 : ∀ x ∈ hs.set 0 (HV.at_ hs 0).rest, x.S ≠ [] := fun x hx => by
      rcases List.mem_or_eq_of_mem_set hx with h | rfl
      · exact hH.ne x h
      · exact hrn
    have hfx := hfix_any (q1.drew) hne2 (by simpa using hn0) hD (by simpa using hn)
    rw [← hW] at hfx
    refine hfx.mono ?_
    rintro e w' ⟨rfl, ⟨hs', k1, k2, k3⟩, k4, k5⟩
    refine ⟨rfl, hs', k1, Step1.of_fix hn0 hne k2 k3, ?_, ?_⟩
    · have : Below B u W := by rw [hW]; exact q2.drew
      exact this.trans k4
    · have : Beside (mine p (some ⟨g, 0, none⟩)) u W := by rw [hW]; exact ((Beside.refl _ u).setCell (by simp [mine]) _).drew
      exact this.trans k5 fun x hx => .inl hx
  have PO : (HV.at_ hs 0).S.length = 1 → Calls Tryz.prog 105 #[IH p] u fun e w' => (∃ v, e = .returned v) ∧ ∃ hs', HeadsAt B p T (some ⟨g, 0, none⟩) c hs' w' ∧ Step1 hs hs' ∧ Below B u w' ∧ Beside (mine p (some ⟨g, 0, none⟩)) u w' := fun hlen => by
    obtain ⟨m, hm⟩ : ∃ m, hs.length = m + 1 := ⟨hs.length - 1, by omega⟩
    refine (hpop_any hu hH hm (by omega)).mono ?_
    rintro e w' ⟨hv, ⟨hs', k1, k2, k3⟩, k4, k5⟩
    exact ⟨hv, hs', k1, Step1.of_pop hn0 hlen k2 k3, k4, k5⟩
  have hz1 : 0 < (HV.at_ hs 0).S.length := List.length_pos_iff.2 hne
  have hrv : (HV.at_ hs 0).rest.val = .slice (some ⟨b, o + 8, none⟩) ((HV.at_ hs 0).S.length - 1) ((HV.at_ hs 0).c - 1) := by
    simp [HV.val, HV.rest, hAb]
  rw [hrv] at FX
  unfold HV.val at hc0
  rw [hAb] at hc0
  have HFIN := Lib.hid FIN
  have HPO := Lib.hid PO
  have HFX := Lib.hid FX
  clear FIN PO FX h hu hcell hH hne hrb hlow hAb hrv f0 f1 f2 f3 f4 f5 f6 f7 g0 b0
  generalize (HV.at_ hs 0).S.length = m at *
  generalize (HV.at_ hs 0).c = cm at *
  generalize (HV.at_ hs 0).one = r at *
  generalize hs.length = n at *
  have zn : ((n : Int) == 0) = false := by rw [beq_eq_false_iff_ne]; omega
  have zn2 : (0 : Int) < (n : Int) := by omega
  by_cases hm1 : 1 < m
  · have zm : (1 : Int) < (m : Int) := by omega
    have zm2 : 1 ≤ m := by omega
    have zm3 : ¬ cm = 1 := by omega
    have zm4 : m ≤ cm := hcap.1
    go_enter Tryz.func78, Tryz.ntmps78
    go_upto_region 1 with fail
    rw [← HU.out]
    go_wp2_with fail
    go_region
    all_goals go_wp2_with fail
    refine (HFX.out hm1 _ rfl).mono ?_
    rintro e w2 ⟨rfl, hs', q1, q2, q3, q4⟩
    obtain ⟨G2, ⟨k0, k1, k2, k3, k4, k5, k6, k7⟩, HF⟩ := HFIN.out w2 hs' q1 q2 q3 q4
    have HG2 := Lib.hid G2
    clear G2 q1 q2 q3 q4 HFIN HPO HFX
    go_wp2_with (first
      | (refine wpList_putRow rfl 32 (.tmp 2) (.tmp 44) rfl w.heap.size 32 zeroE (r.e.row r.A r.n r.c) rfl rfl ?g2 (by kernel_rfl) rfl (by simp [Ev.row, Value.oneCell']) ?_))
    case g2 => exact HG2.out
    intro W5 hW5 hbe5
    obtain ⟨e5, he5, hng⟩ := HF.out W5 hbe5
    subst he5
    unfold Ev.row at hW5
    obtain ⟨m0, m1, m2, m3, m4, m5, m6, m7⟩ := box8 hW5
    have HNG := Lib.hid hng
    clear hW5 hbe5 hng
    go_wp2
    refine bodyPost_ret (v := .tuple #[r.e.val r.A r.n r.c, .bool true]) ?_ rfl HNG.out
    simp [results, Ev.val, Ev.row, Tryz.results78, go_sem, m0, m1, m2, m3, m4, m5, m6, m7]
  · have hm2 : m = 1 := by omega
    subst hm2
    go_enter Tryz.func78, Tryz.ntmps78
    go_upto_region 1 with fail
    rw [← HU.out]
    go_wp2_with fail
    refine (HPO.out trivial).mono ?_
    rintro e w2 ⟨⟨v, rfl⟩, hs', q1, q2, q3, q4⟩
    obtain ⟨G2, ⟨k0, k1, k2, k3, k4, k5, k6, k7⟩, HF⟩ := HFIN.out w2 hs' q1 q2 q3 q4
    have HG2 := Lib.hid G2
    clear G2 q1 q2 q3 q4 HFIN HPO HFX
    go_wp2_with (first
      | (refine wpList_putRow rfl 32 (.tmp 2) (.tmp 44) rfl w.heap.size 32 zeroE (r.e.row r.A r.n r.c) rfl rfl ?g2 (by kernel_rfl) rfl (by simp [Ev.row, Value.oneCell']) ?_))
    case g2 => exact HG2.out
    intro W5 hW5 hbe5
    obtain ⟨e5, he5, hng⟩ := HF.out W5 hbe5
    subst he5
    unfold Ev.row at hW5
    obtain ⟨m0, m1, m2, m3, m4, m5, m6, m7⟩ := box8 hW5
    have HNG := Lib.hid hng
    clear hW5 hbe5 hng
    go_wp2
    refine bodyPost_ret (v := .tuple #[r.e.val r.A r.n r.c, .bool true]) ?_ rfl HNG.out
    simp [results, Ev.val, Ev.row, Tryz.results78, go_sem, m0, m1, m2, m3, m4, m5, m6, m7]
end Go.Proofs.YtmogoopkjkdkgaaGreat.Ord
namespace Go.Proofs.YtmogoopkjkdkgaaGreat.Ord
open Go Go.RowKit Go.Proofs.YtmogoopkjkdkgaaGreat.Words Go.Proofs.YtmogoopkjkdkgaaGreat.Enc Go.Proofs.YtmogoopkjkdkgaaGreat.Evt Go.Proofs.YtmogoopkjkdkgaaGreat.Seg
set_option linter.unusedVariables false
set_option linter.unusedSimpArgs false

theorem clipB (A : Option Addr) (n c : Nat) (w : World) (hc : n ≤ c) :
    Calls Tryz.prog 62 #[.slice A n c] w fun e w' => e = .returned (.slice A n n) ∧ w' = w := by
  go_enter Tryz.func62, Tryz.ntmps62
  go_wp2
  go_ret
  exact ⟨rfl, rfl⟩

/-- An event like r, with a text in memory of its own. -/
def OwnGives (r : EvS) (w : World) (e : Ending) (w' : World) : Prop :=
  ∃ r' : EvS, e = .returned (r'.e.val r'.A r'.n r'.c) ∧ r'.e = r.e ∧ Sees w' r'.A r'.n r.e.text ∧ r'.n ≤ r'.c ∧ r'.c ≤ 9223372036854775807 ∧ (0 < r'.n → ∀ a, r'.A = some a → w.heap.size ≤ a.block) ∧ Below w.heap.size w w'

set_option maxRecDepth 100000 in
set_option maxHeartbeats 4000000 in
theorem own_any (r : EvS) (w : World) (hs : Sees w r.A r.n r.e.text) (hn : r.n ≤ 1000000000) :
    Calls Tryz.prog 79 #[r.e.val r.A r.n r.c] w (OwnGives r w) := by
  have hsf := store_float Tryz.prog
  obtain ⟨u, hu⟩ : ∃ u, u = (w.alloc (.cells r.cells.toArray 32)).alloc (.cells #[.int .i64 0, .int .u64 0, .int .u64 0, .int .u8 0, .string ⟨#[]⟩, .slice none 0 0, .float .f64 0, .int .i64 0] 32) := ⟨_, rfl⟩
  have hb1 : Below w.heap.size w u := by rw [hu]; exact ((Below.refl _ _).alloc (Nat.le_refl _) _).alloc (by simp) _
  have g1 : u.heap[w.heap.size]? = some (.cells r.cells.toArray 32 (0, 0)) := by rw [hu]; exact (Below.heap_alloc _ _ _ (by simp)).trans (heap_alloc_new w _)
  have g2 : u.heap[w.heap.size + 1]? = some (.cells #[.int .i64 0, .int .u64 0, .int .u64 0, .int .u8 0, .string ⟨#[]⟩, .slice none 0 0, .float .f64 0, .int .i64 0] 32 (0, 0)) := by
    have := heap_alloc_new (w.alloc (.cells r.cells.toArray 32)) (.cells #[.int .i64 0, .int .u64 0, .int .u64 0, .int .u8 0, .string ⟨#[]⟩, .slice none 0 0, .float .f64 0, .int .i64 0] 32)
    rw [hu]
    rwa [World.size_alloc] at this
  have hz : u.heap.size = w.heap.size + 2 := by rw [hu]; simp
  have hcl := Dsk.clone_bytes r.A r.n r.c r.e.text u (hs.below hb1) (by omega)
  obtain ⟨c0, c1, c2, c3, c4, c5, c6, c7⟩ := cells8 g1
  have HG := Lib.hid (And.intro g1 (And.intro g2 (And.intro hz hb1)))
  unfold EvS.cells at hu
  have HU := Lib.hid hu
  have HCL := Lib.hid hcl
  clear hu hb1 g1 g2 hz hcl
  unfold Ev.val
  go_enter Tryz.func79, Tryz.ntmps79
  go_upto_region 1 with fail
  rw [← HU.out]
  go_wp2_with fail
  refine HCL.out.mono ?_
  rintro e w1 ⟨A', c', rfl, hown, hb⟩
  obtain ⟨hg1, hg2, hz, hb1⟩ := HG.out
  have hnc := (own_cap8 hown).1
  have k1 := (hb.block w.heap.size (by omega)).trans hg1
  have k2 := (hb.block (w.heap.size + 1) (by omega)).trans hg2
  obtain ⟨m0, m1, m2, m3, m4, m5, m6, m7⟩ := cells8 k1
  have hf5 : w1.frozen? ⟨w.heap.size, 5, none⟩ = false := frozen_row0 k1
  have b1 : Below w.heap.size w w1 := hb1.trans (hb.mono (by omega))
  have ne1 : ¬ w.heap.size = w.heap.size + 1 := by omega
  have SEEN : Sees w1 A' r.n r.e.text := Sees.of_own hown
  have FR : 0 < r.n → ∀ a, A' = some a → w.heap.size + 2 ≤ a.block := fun h0 a ha => by
    obtain ⟨g, hg, hb⟩ := own_at8 hown h0
    rw [hg] at ha; cases ha
    show w.heap.size + 2 ≤ g
    omega
  have k3 : ∀ v, (w1.setCell ⟨w.heap.size, 5, none⟩ v).heap[w.heap.size + 1]? = some (.cells #[.int .i64 0, .int .u64 0, .int .u64 0, .int .u8 0, .string ⟨#[]⟩, .slice none 0 0, .float .f64 0, .int .i64 0] 32 (0, 0)) := fun v => (heapOther (by omega)).trans k2
  have HF := Lib.hid (And.intro SEEN (And.intro FR (And.intro b1 k3)))
  clear hg1 hg2 hz hb1 hown hb k1 k2 b1 SEEN FR k3
  go_wp2_with fail
  refine (clipB A' r.n c' w1 hnc).mono ?_
  rintro e w2 ⟨rfl, rfl⟩
  go_wp2_with (first
    | (refine wpList_putRow rfl 32 (.tmp 2) (.tmp 8) rfl (w.heap.size + 1) 32 #[.int .i64 0, .int .u64 0, .int .u64 0, .int .u8 0, .string ⟨#[]⟩, .slice none 0 0, .float .f64 0, .int .i64 0] (r.e.row A' r.n r.n) rfl rfl ?g2 (by kernel_rfl) rfl (by simp [Ev.row, Value.oneCell']) ?_))
  case g2 => exact HF.out.2.2.2 _
  intro W5 hW5 hbe5
  unfold Ev.row at hW5
  obtain ⟨q0, q1, q2, q3, q4, q5, q6, q7⟩ := box8 hW5
  obtain ⟨SEEN, FR, b1, _⟩ := HF.out
  have OG : OwnGives r w (.returned (r.e.val A' r.n r.n)) W5 := by
    have hcap : r.n ≤ 9223372036854775807 := by omega
    refine ⟨⟨r.e, A', r.n, r.n⟩, rfl, rfl, ?_, Nat.le_refl _, hcap, fun h0 a ha => by have := FR h0 a ha; omega, ?_⟩
    · refine (SEEN.beside (S := [w.heap.size, w.heap.size + 1]) (((Beside.refl _ _).setCell (p := ⟨w.heap.size, 5, none⟩) (by simp) _).trans hbe5 fun x hx => .inl (by simp at hx; simp [hx])) fun h0 a ha => ?_)
      have := FR h0 a ha
      simp
      omega
    · exact Below.beside (b1.setCell (p := ⟨w.heap.size, 5, none⟩) (Nat.le_refl _) _) hbe5 (by have := b1.size; simp; omega) (by simp)
  have HOG := Lib.hid OG
  clear OG SEEN FR b1 hW5 hbe5
  go_wp2
  refine bodyPost_ret (v := r.e.val A' r.n r.n) ?_ rfl HOG.out
  simp [results, Ev.val, Tryz.results79, go_sem, q0, q1, q2, q3, q4, q5, q6, q7]
end Go.Proofs.YtmogoopkjkdkgaaGreat.Ord
namespace Go.Proofs.YtmogoopkjkdkgaaGreat.Ord
open Go Go.RowKit Go.Proofs.YtmogoopkjkdkgaaGreat.Words Go.Proofs.YtmogoopkjkdkgaaGreat.Enc Go.Proofs.YtmogoopkjkdkgaaGreat.Evt Go.Proofs.YtmogoopkjkdkgaaGreat.Seg
set_option linter.unusedVariables false
set_option linter.unusedSimpArgs false

/-- Events rs have been taken from the lists hs; hs' is what is left. -/
structure Taken (hs : List HV) (rs : List EvS) (hs' : List HV) : Prop where
  perm : (rs ++ flat hs').Perm (flat hs)
  rise : Rises rs
  le : ∀ r ∈ rs, ∀ e ∈ flat hs', evLe r e
  rises : ∀ x ∈ hs', Rises x.S
  heap : Heap hs'
theorem Taken.nil {hs : List HV} (h : Heap hs) (hr : ∀ x ∈ hs, Rises x.S) : Taken hs [] hs := ⟨by simp, List.Pairwise.nil, fun r hr => (by cases hr), hr, h⟩
theorem Taken.next {hs hs1 hs2 : List HV} {rs : List EvS} (h : Taken hs rs hs1) (hs12 : Step1 hs1 hs2) (hn0 : 0 < hs1.length) : Taken hs (rs ++ [(HV.at_ hs1 0).one]) hs2 := by
  have hmin := h.heap.least h.rises
  have hmem : (HV.at_ hs1 0).one ∈ flat hs1 := List.mem_flatMap.2 ⟨_, at_mem hn0, one_mem (h.heap.ne _ (at_mem hn0))⟩
  have hsub : ∀ e ∈ flat hs2, e ∈ flat hs1 := fun e he => hs12.flat.mem_iff.1 (List.mem_cons_of_mem _ he)
  refine ⟨?_, ?_, fun r hr e he => ?_, fun x hx => ?_, hs12.heap⟩
  · rw [List.append_assoc]
    exact (hs12.flat.append_left rs).trans h.perm
  · refine List.pairwise_append.2 ⟨h.rise, List.pairwise_singleton _ _, fun a ha b hb => ?_⟩
    rw [List.mem_singleton.1 hb]
    exact h.le a ha _ hmem
  · rcases List.mem_append.1 hr with hr | hr
    · exact h.le r hr e (hsub e he)
    · rw [List.mem_singleton.1 hr]
      exact hmin e (hsub e he)
  · rcases hs12.sub x hx with hx | rfl
    · exact h.rises x hx
    · have := h.rises _ (at_mem hn0)
      exact this.sublist (List.tail_sublist _)

/-- An event whose text lies below block B. -/
structure TextLow (B : Nat) (w : World) (r : EvS) : Prop where
  sees : Sees w r.A r.n r.e.text
  few : r.n ≤ 1000000000
  low : 0 < r.n → ∀ a, r.A = some a → a.block < B
theorem sees_below {B : Nat} {w w' : World} {A : Option Addr} {n : Nat} {l : List UInt8} (h : Sees w A n l) (hb : Below B w w') (hl : 0 < n → ∀ a, A = some a → a.block < B) : Sees w' A n l := by
  refine ⟨h.1, fun hn => ?_⟩
  obtain ⟨b, o, hA, hc⟩ := h.2 hn
  have hlt : b < B := hl hn _ hA
  exact ⟨b, o, hA, fun j u hu => by rw [hb.cell (p := ⟨b, o + j, none⟩) hlt]; exact hc j u hu⟩
theorem TextLow.below {B : Nat} {w w' : World} {r : EvS} (h : TextLow B w r) (hb : Below B w w') : TextLow B w' r := ⟨sees_below h.sees hb h.low, h.few, h.low⟩

/-- An event in the result: its text is new. -/
structure TextNew (g : Nat) (w : World) (r : EvS) : Prop where
  sees : Sees w r.A r.n r.e.text
  cap : r.n ≤ r.c ∧ r.c ≤ 9223372036854775807
  new : 0 < r.n → ∀ a, r.A = some a → g < a.block
theorem TextNew.beside {g : Nat} {w w' : World} {r : EvS} (h : TextNew g w r) {S : List Nat} (hb : Beside S w w') (hS : ∀ x ∈ S, x ≤ g) : TextNew g w' r :=
  ⟨h.sees.beside hb fun hn a ha hm => by have := h.new hn a ha; have := hS _ hm; omega, h.cap, h.new⟩
/-- The result's row, i of m events of which are there. -/
structure RowAt (g m : Nat) (S : List EvS) (w : World) : Prop where
  row : ∃ cur : Array Value, w.heap[g]? = some (.cells cur 32 (0, 0)) ∧ cur.size = m * 8 ∧ ∀ (j : Nat) (v : Value), (rowsL S)[j]? = some v → cur[j]? = some v
  text : ∀ r ∈ S, TextNew g w r
theorem RowAt.beside {g m : Nat} {S : List EvS} {w w' : World} (h : RowAt g m S w) {L : List Nat} (hb : Beside L w w') (hL : ∀ x ∈ L, x < g) : RowAt g m S w' := by
  obtain ⟨⟨cur, h1, h2, h3⟩, h4⟩ := h
  refine ⟨⟨cur, (hb.block g (Array.getElem?_eq_some_iff.1 h1).1 (fun hm => by have := hL g hm; omega)).trans h1, h2, h3⟩, fun r hr => (h4 r hr).beside hb fun x hx => by have := hL x hx; omega⟩
theorem setCells_beside (b : Nat) : ∀ (vs : List Value) (o : Nat) (w : World), Beside [b] w (w.setCells b o vs)
  | [], o, w => Beside.refl _ _
  | v :: r, o, w => ((Beside.refl [b] w).setCell (p := ⟨b, o, none⟩) (by simp) v).trans (setCells_beside b r (o + 1) _) fun x hx => .inl hx
theorem setCells_heap (b : Nat) (T : TypeId) (f : Nat × Nat) : ∀ (vs : List Value) (o : Nat) (w : World) (cur : Array Value), w.heap[b]? = some (.cells cur T f) →
    ∃ cur', (w.setCells b o vs).heap[b]? = some (.cells cur' T f) ∧ cur'.size = cur.size ∧ (∀ i, i < o ∨ o + vs.length ≤ i → cur'[i]? = cur[i]?) ∧ (∀ j, j < vs.length → o + j < cur.size → cur'[o + j]? = vs[j]?)
  | [], o, w, cur, h => ⟨cur, h, rfl, fun i _ => rfl, fun j hj => by simp at hj⟩
  | v :: r, o, w, cur, h => by
    obtain ⟨cur', h1, h2, h3, h4⟩ := setCells_heap b T f r (o + 1) (w.setCell ⟨b, o, none⟩ v) (cur.setIfInBounds o v) (heapSame h)
    refine ⟨cur', h1, by rw [h2]; simp, fun i hi => ?_, fun j hj hs => ?_⟩
    · rw [h3 i (by simp at hi; omega), Array.getElem?_setIfInBounds_ne (by simp at hi; omega)]
    · rcases j with _ | j
      · rw [Nat.add_zero, h3 o (by omega)]
        simp at hs
        simp [Array.getElem?_setIfInBounds, hs]
      · have := h4 j (by simpa using hj) (by simp; omega)
        rw [show o + (j + 1) = o + 1 + j by omega, this]
        simp
theorem RowAt.there {g m : Nat} {S : List EvS} {w : World} (h : RowAt g m S w) (hS : S.length < m) : w.there g (S.length * 8) 8 := by
  obtain ⟨⟨cur, h1, h2, h3⟩, h4⟩ := h
  intro j hj
  refine ⟨?_, frozen_row0 h1⟩
  rw [cell_of_row w g _ _ _ _ h1, Array.getElem?_eq_getElem (by omega)]
  rfl
theorem RowAt.put {g m : Nat} {S : List EvS} {w : World} (h : RowAt g m S w) (hS : S.length < m) (r : EvS) (hr : TextNew g w r) : RowAt g m (S ++ [r]) (w.setCells g (S.length * 8) r.cells) := by
  obtain ⟨⟨cur, h1, h2, h3⟩, h4⟩ := h
  obtain ⟨cur', k1, k2, k3, k4⟩ := setCells_heap g 32 (0, 0) r.cells (S.length * 8) w cur h1
  have hb := setCells_beside g r.cells (S.length * 8) w
  refine ⟨⟨cur', k1, by rw [k2, h2], fun j v hv => ?_⟩, fun x hx => ?_⟩
  · rw [rowsL_append] at hv
    by_cases hj : j < (rowsL S).length
    · rw [List.getElem?_append_left hj] at hv
      rw [k3 j (.inl (by rw [rowsL_len] at hj; exact hj))]
      exact h3 j v hv
    · rw [List.getElem?_append_right (by omega), rowsL_len] at hv
      simp only [rowsL, List.append_nil] at hv
      rw [rowsL_len] at hj
      have hjl : j - S.length * 8 < r.cells.length := (List.getElem?_eq_some_iff.1 hv).1
      have := k4 (j - S.length * 8) hjl (by rw [EvS.cells_len] at hjl; omega)
      rw [show S.length * 8 + (j - S.length * 8) = j by omega] at this
      rw [this, hv]
  · have hb2 : ∀ x ∈ [g], x ≤ g := by simp
    rcases List.mem_append.1 hx with hx | hx
    · exact (h4 x hx).beside hb hb2
    · rw [List.mem_singleton.1 hx]; exact hr.beside hb hb2
theorem RowAt.raw {g m : Nat} {S : List EvS} {w : World} (h : RowAt g m S w) : RawEv w (some ⟨g, 0, none⟩) S := fun hn => by
  obtain ⟨⟨cur, h1, h2, h3⟩, h4⟩ := h
  exact ⟨g, 0, rfl, fun j v hv => by rw [Nat.zero_add, cell_of_row w g _ _ _ _ h1]; exact h3 j v hv⟩

theorem infoEv : (Tryz.prog.info? 32).map (fun i => (i.zero, i.size, i.bytes)) = some (some zeroEV, 8, 88) := by kernel_rfl
theorem make_ev (W : World) (kk : Nat) (hk : kk ≤ 1000000000) : (Instr.makeSlice 24 (.int .i64 (kk : Int)) (.int .i64 (kk : Int))).run Tryz.prog W = .ok (.slice (some ⟨W.heap.size, 0, none⟩) kk kk) (W.alloc (.cells (madeCells zeroE (kk * 8)) 32)) := by
  obtain ⟨i, hi, hz, hsz, hby⟩ := info_parts infoEv
  have := run_make (P := Tryz.prog) W 24 32 i zeroEV Tryz.underlying24 hi hz .i64 .i64 (kk : Int) (kk : Int) (by omega) (Int.le_refl _) (by rw [hby]; omega) (by omega)
  rw [this, hsz]
  simp only [Int.toNat_natCast]
  rfl
theorem RowAt.made (w : World) (m : Nat) : RowAt w.heap.size m [] (w.alloc (.cells (madeCells zeroE (m * 8)) 32)) :=
  ⟨⟨_, heap_alloc_new w _, size_madeCells _ _, fun j v hv => by simp [rowsL] at hv⟩, fun r hr => by cases hr⟩
end Go.Proofs.YtmogoopkjkdkgaaGreat.Ord
namespace Go.Proofs.YtmogoopkjkdkgaaGreat.Ord
open Go Go.RowKit Go.Proofs.YtmogoopkjkdkgaaGreat.Words Go.Proofs.YtmogoopkjkdkgaaGreat.Enc Go.Proofs.YtmogoopkjkdkgaaGreat.Evt Go.Proofs.YtmogoopkjkdkgaaGreat.Seg
set_option linter.unusedVariables false
set_option linter.unusedSimpArgs false

theorem HeadsAt.beside {B p : Nat} {T : TypeId} {A : Option Addr} {c : Nat} {hs : List HV} {w w' : World} (h : HeadsAt B p T A c hs w) {L : List Nat} (hb : Beside L w w') (hp : p ∉ L) (hA : ∀ a, A = some a → a.block ∉ L) (hB : Below B w w') : HeadsAt B p T A c hs w' := by
  refine ⟨(hb.block p (Array.getElem?_eq_some_iff.1 h.box).1 hp).trans h.box, ⟨h.own.1, ?_⟩, h.apart, h.low, fun x hx => (h.lie x hx).below hB⟩
  rcases h.own.2 with hn | ⟨g, cap, cur, hv, hg, hh, r⟩
  · exact .inl hn
  · have : A = some ⟨g, 0, none⟩ := by injection hv
    exact .inr ⟨g, cap, cur, hv, hg, (hb.block g (Array.getElem?_eq_some_iff.1 hh).1 (hA _ this)).trans hh, r⟩
theorem Heap.len_le {hs : List HV} (h : ∀ x ∈ hs, x.S ≠ []) : hs.length ≤ (flat hs).length := by
  induction hs with
  | nil => simp
  | cons a t ih =>
    have h1 := ih fun x hx => h x (List.mem_cons_of_mem _ hx)
    have h2 := List.length_pos_iff.2 (h a List.mem_cons_self)
    unfold flat at *
    rw [List.flatMap_cons, List.length_append, List.length_cons]
    omega
theorem HeadsAt.row_lt {B p : Nat} {T : TypeId} {A : Option Addr} {c : Nat} {hs : List HV} {w : World} (h : HeadsAt B p T A c hs w) : ∀ x ∈ mine p A, x < w.heap.size := by
  intro x hx
  rcases List.mem_cons.1 hx with rfl | hx
  · exact (Array.getElem?_eq_some_iff.1 h.box).1
  · cases A with
    | none => simp at hx
    | some a =>
      simp at hx
      subst hx
      rcases h.own.2 with ⟨hv, _⟩ | ⟨g, cap, cur, hv, hg, hh, r⟩
      · cases hv
      · injection hv with e1
        injection e1 with e1
        rw [e1]
        exact (Array.getElem?_eq_some_iff.1 hh).1

/-- What stands while events are taken. -/
structure Takes (B p g m : Nat) (T : TypeId) (A : Option Addr) (c : Nat) (hs : List HV) (w0 : World) (i : Nat) (W : World) : Prop where
  ex : ∃ rs hs' S, Taken hs rs hs' ∧ rs.length = i ∧ S.map EvS.e = rs.map EvS.e ∧ HeadsAt B p T A c hs' W ∧ RowAt g m S W
  below : Below B w0 W
  beside : Beside (mine p A) w0 W

set_option maxRecDepth 100000 in
set_option maxHeartbeats 4000000 in
theorem ctake_any {B p : Nat} {T : TypeId} {A : Option Addr} {c : Nat} {hs : List HV} {w : World} (h : HeadsAt B p T A c hs w) (hH : Heap hs) (hr : ∀ x ∈ hs, Rises x.S) (hf : (flat hs).length ≤ 1000000000) (ht : ∀ r ∈ flat hs, TextLow B w r)
    (most : Int) (hm0 : -9223372036854775808 ≤ most) (hm1 : most ≤ 9223372036854775807) (m : Nat) (hm : (m : Int) = max 0 (min most ((flat hs).length : Int))) :
    Calls Tryz.prog 44 #[.pointer (some ⟨p, 0, none⟩), .int .i64 most] w fun e w' => ∃ g, e = .returned (.slice (some ⟨g, 0, none⟩) m m) ∧ w.heap.size ≤ g ∧ Takes B p g m T A c hs w m w' := by
  have hsf := store_float Tryz.prog
  have hlen := Heap.len_le hH.ne
  have LEFT := cleft_any h (by omega) (by omega)
  have hmf : m ≤ (flat hs).length := by omega
  have MK := make_ev w m (by omega)
  have B1 : Below w.heap.size w (w.alloc (.cells (madeCells zeroE (m * 8)) 32)) := (Below.refl _ _).alloc (Nat.le_refl _) _
  have hps := (Array.getElem?_eq_some_iff.1 h.box).1
  have hBs : B ≤ w.heap.size := by have := h.low; omega
  have T0 : Takes B p w.heap.size m T A c hs w 0 (w.alloc (.cells (madeCells zeroE (m * 8)) 32)) :=
    ⟨⟨[], hs, [], Taken.nil hH hr, rfl, rfl, h.below B1, RowAt.made w m⟩, B1.mono hBs, Beside.of_below B1 _⟩
  obtain ⟨u, hu⟩ : ∃ u, u = w.alloc (.cells (madeCells zeroE (m * 8)) 32) := ⟨_, rfl⟩
  rw [← hu] at T0 MK
  have HMINE := h.row_lt
  have hlowA : ∀ x ∈ mine p A, B ≤ x := mine_low h.low (fun a ha => by
    rcases h.own.2 with ⟨hv, _⟩ | ⟨g, cap, cur, hv, hg, hh, r⟩
    · rw [ha] at hv; cases hv
    · rw [ha] at hv; injection hv with e1; injection e1 with e1; rw [e1]; exact hg)
  -- a step
  have NX : ∀ i W, i < m → Takes B p w.heap.size m T A c hs w i W → ∃ r : EvS, Calls Tryz.prog 78 #[.pointer (some ⟨p, 0, none⟩)] W fun e w' => e = .returned (.tuple #[r.e.val r.A r.n r.c, .bool true]) ∧
      Hid (∀ W3, Beside [w'.heap.size] (w'.alloc (.cells zeroE 32)) W3 → Calls Tryz.prog 79 #[r.e.val r.A r.n r.c] W3 fun e w4 => ∃ r' : EvS, e = .returned (r'.e.val r'.A r'.n r'.c) ∧ w4.there w.heap.size (i * 8) 8 ∧ Hid (Takes B p w.heap.size m T A c hs w (i + 1) (w4.setCells w.heap.size (i * 8) r'.cells))) := fun i W hi hT => by
    obtain ⟨⟨rs, hs1, S, ht1, hl1, he1, ha1, hr1⟩, hb1, hs1'⟩ := hT
    have hfl : (flat hs1).length = (flat hs).length - i := by
      have := ht1.perm.length_eq
      rw [List.length_append, hl1] at this
      omega
    have hn1 : 0 < hs1.length := by
      rcases Nat.eq_zero_or_pos hs1.length with h0 | h0
      · have e0 : (flat hs1).length = 0 := by rw [List.eq_nil_of_length_eq_zero h0]; rfl
        omega
      · exact h0
    have hle1 := Heap.len_le ht1.heap.ne
    refine ⟨(HV.at_ hs1 0).one, (next_any ha1 ht1.heap hn1 (by omega)).mono ?_⟩
    rintro e w1 ⟨rfl, ⟨hs2, ha2, hst⟩, hb2, hbs2⟩
    refine ⟨rfl, Lib.hid fun W3 hW3 => ?_⟩
    have hmem : (HV.at_ hs1 0).one ∈ flat hs1 := List.mem_flatMap.2 ⟨_, at_mem hn1, one_mem (ht1.heap.ne _ (at_mem hn1))⟩
    have htl := ht _ (ht1.perm.mem_iff.1 (List.mem_append.2 (.inr hmem)))
    have hBW1 : B ≤ w1.heap.size := by have := ha2.low; have := (Array.getElem?_eq_some_iff.1 ha2.box).1; omega
    have hgW : w.heap.size < W.heap.size := by
      obtain ⟨⟨cur, q, _⟩, _⟩ := hr1
      exact (Array.getElem?_eq_some_iff.1 q).1
    have hWW1 : W.heap.size ≤ w1.heap.size := hbs2.size
    have hb3 : Below w1.heap.size w1 W3 := Below.beside ((Below.refl _ _).alloc (Nat.le_refl _) _) hW3 (by simp) (by simp)
    have hbB : Below B w W3 := (hb1.trans hb2).trans (hb3.mono hBW1)
    refine (own_any (HV.at_ hs1 0).one W3 (htl.below hbB).sees htl.few).mono ?_
    rintro e w4 ⟨r', rfl, hre, hs4, hc4, hc5, hnew, hb4⟩
    have hb14 : Below w1.heap.size w1 w4 := hb3.trans (hb4.mono hb3.size)
    have hbs4 : Beside (mine p A) W w4 := hbs2.trans (Beside.of_below hb14 []) (fun x hx => by cases hx)
    have hr4 := hr1.beside hbs4 (fun x hx => HMINE x hx)
    have hSl : S.length = i := by rw [← hl1, ← List.length_map (f := EvS.e), he1, List.length_map]
    have hth := hr4.there (by rw [hSl]; exact hi)
    rw [hSl] at hth
    have hput := hr4.put (by rw [hSl]; exact hi) r' ⟨by rw [hre]; exact hs4, ⟨hc4, hc5⟩, fun h0 a ha => by have := hnew h0 a ha; have := hb3.size; omega⟩
    rw [hSl] at hput
    have hsc := setCells_beside w.heap.size r'.cells (i * 8) w4
    have hbsc : Below B w4 (w4.setCells w.heap.size (i * 8) r'.cells) := Below.beside (Below.refl B w4) hsc (by have := hb14.size; omega) (fun x hx => by simp at hx; subst hx; exact hBs)
    have hpg : ∀ x ∈ mine p A, x ≠ w.heap.size := fun x hx e => by have := HMINE x hx; omega
    refine ⟨r', rfl, hth, Lib.hid ⟨⟨rs ++ [(HV.at_ hs1 0).one], hs2, S ++ [r'], ht1.next hst hn1, by simp [hl1], by simp [he1, hre], ?_, hput⟩, ?_, ?_⟩⟩
    · refine (ha2.below hb14).beside hsc (fun hm => hpg p (by simp [mine]) (by simpa using hm)) (fun a ha hm => hpg a.block (by simp [mine, ha]) (by simpa using hm)) hbsc
    · exact (hb1.trans hb2).trans ((hb14.mono hBW1).trans hbsc)
    · exact (hs1'.trans hbs4 fun x hx => .inl hx).trans hsc fun x hx => .inr (by simp at hx; omega)
  obtain ⟨nf, hnf⟩ : ∃ nf, (flat hs).length = nf := ⟨_, rfl⟩
  rw [hnf] at hm LEFT hmf hf
  have hmm : max (0 : Int) (min most (nf : Int)) = (m : Int) := hm.symm
  have HU := Lib.hid hu
  have HT0 := Lib.hid T0
  have HNX := Lib.hid NX
  have HM := Lib.hid hm
  clear T0 NX h hH hr ht hm hu HMINE hlowA B1 hlen
  go_enter Tryz.func44, Tryz.ntmps44
  go_wp2_with fail
  refine LEFT.mono ?_
  rintro e w' ⟨rfl, rfl⟩
  go_wp2_with fail
  have hmz : m ≤ 1000000000 := by omega
  clear hmm hm0 hm1 hf hmf hps hBs MK
  go_loopw [17] (fun iv W => ∃ i : Nat, iv = .int .i64 (i : Int) ∧ i ≤ m ∧ Hid (Takes B p w'.heap.size m T A c hs w' i W)) (fun iv _ => m - (intOf iv).toNat)
  case atStart => exact ⟨0, rfl, Nat.zero_le _, HT0⟩
  case round =>
    obtain ⟨i, rfl, hi, HR⟩ := hrel
    by_cases hlt : i < m
    · obtain ⟨r, hnx⟩ := HNX.out i wr hlt HR.out
      have HN1 := Lib.hid hnx
      have zi : (i : Int) < (m : Int) := by omega
      have zi0 : (0 : Int) ≤ (i : Int) := by omega
      clear hnx HNX LEFT
      go_wp2_with fail
      refine HN1.out.mono ?_
      rintro e w1 ⟨rfl, HO⟩
      have g3 : (w1.alloc (.cells zeroE 32)).heap[w1.heap.size]? = _ := heap_alloc_new w1 (.cells zeroE 32)
      unfold zeroE at g3
      have G3 := Lib.hid g3
      clear g3 HN1
      go_wp2_with (first
        | (refine wpList_putRow rfl 32 (.tmp 7) (.tmp 23) rfl w1.heap.size 32 zeroE (r.e.row r.A r.n r.c) rfl rfl ?g1 (by kernel_rfl) rfl (by simp [Ev.row, Value.oneCell']) ?_))
      case g1 => exact G3.out
      intro W3 hW3 hbe3
      have HOW := Lib.hid (HO.out W3 hbe3)
      have G4 := Lib.hid hW3
      clear hW3 hbe3 HO
      go_wp2_with (first
        | (refine wpList_getRow rfl 32 (.tmp 7) rfl w1.heap.size 32 (r.e.row r.A r.n r.c) (0, 0) _ rfl ?g1 Tryz.underlying32 rfl (by kernel_rfl) ?_))
      case g1 => exact G4.out
      go_wp2_with fail
      refine HOW.out.mono ?_
      rintro e w4 ⟨r', rfl, hth, HF⟩
      have HTH := Lib.hid hth
      clear hth HOW
      go_wp2_with (first | (refine wpList_store_mid rfl 32 (.tmp 29) (.tmp 28) rfl w'.heap.size (i * 8) (r'.e.row r'.A r'.n r'.c) ?hx ?hy ?ht ?hi ?h1 ?h))
      case hx => rfl
      case hy => rfl
      case ht => exact HTH.out
      case hi => kernel_rfl
      case h1 => simp [Ev.row, Value.oneCell']
      exact ⟨⟨i + 1, rfl, by omega, HF⟩, by simp [intOf]; omega⟩
    · have him : i = m := by omega
      subst him
      go_wp2
      go_ret
      exact ⟨_, rfl, Nat.le_refl _, HR.out⟩

/-- What a row of lists must be. -/
structure GoodLists (B : Nat) (w : World) (Al : Option Addr) (L : List HV) : Prop where
  lists : Lists B w Al L
  rise : ∀ x ∈ L, Rises x.S
  few : L.length ≤ 1000000000
  evs : (flat L).length ≤ 1000000000
  text : ∀ r ∈ flat L, TextLow B w r
theorem flat_filter (L : List HV) : flat (L.filter hasEv) = flat L := by
  induction L with
  | nil => rfl
  | cons a t ih =>
    unfold flat at *
    rw [List.filter_cons]
    by_cases h : hasEv a = true
    · rw [if_pos h, List.flatMap_cons, List.flatMap_cons, ih]
    · rw [if_neg h, ih, List.flatMap_cons]
      have : a.S = [] := by
        rcases Decidable.em (a.S = []) with h2 | h2
        · exact h2
        · exact absurd (hasEv_iff.2 h2) h
      rw [this]; rfl

/-- A row of new events. -/
def AllGives (B : Nat) (rs : List EvS → Prop) (w : World) (e : Ending) (w' : World) : Prop :=
  ∃ g m S r0, e = .returned (.slice (some ⟨g, 0, none⟩) m m) ∧ S.length = m ∧ RowAt g m S w' ∧ B ≤ g ∧ S.map EvS.e = r0.map EvS.e ∧ rs r0 ∧ Below B w w'

set_option maxRecDepth 100000 in
set_option maxHeartbeats 4000000 in
theorem all_any (Al : Option Addr) (cl : Nat) (L : List HV) (w : World) (h : GoodLists w.heap.size w Al L) :
    Calls Tryz.prog 20 #[.slice Al L.length cl] w (AllGives w.heap.size (fun r0 => r0.Perm (flat L) ∧ Rises r0) w) := by
  have OV := over_any Al cl L w h.lists h.few
  have TK : ∀ hs W, HeapAt w.heap.size w.heap.size 115 hs W → hs.Perm (L.filter hasEv) → Below w.heap.size w W → Calls Tryz.prog 44 #[.pointer (some ⟨w.heap.size, 0, none⟩), .int .i64 9223372036854775807] W (AllGives w.heap.size (fun r0 => r0.Perm (flat L) ∧ Rises r0) w) := fun hs W hA hp hb => by
    obtain ⟨⟨A, c, hat⟩, hH⟩ := hA
    have hfl : (flat hs).Perm (flat L) := (flat_perm hp).trans (by rw [flat_filter])
    have hlen := hfl.length_eq
    have he := h.evs
    refine (ctake_any hat hH (fun x hx => h.rise x (List.mem_filter.1 (hp.mem_iff.1 hx)).1) (by omega) (fun r hr => (h.text r (hfl.mem_iff.1 hr)).below hb) 9223372036854775807 (by omega) (by omega) (flat hs).length (by omega)).mono ?_
    rintro e w' ⟨g, rfl, hg, ⟨⟨rs, hs', S, t1, t2, t3, t4, t5⟩, t6, t7⟩⟩
    have hz : (flat hs').length = 0 := by
      have := t1.perm.length_eq
      rw [List.length_append, t2] at this
      omega
    have hpp := t1.perm
    rw [List.eq_nil_of_length_eq_zero hz, List.append_nil] at hpp
    have hSl : S.length = (flat hs).length := by rw [← t2, ← List.length_map (f := EvS.e), t3, List.length_map]
    exact ⟨g, _, S, rs, rfl, hSl, t5, Nat.le_trans hb.size hg, t3, ⟨hpp.trans hfl, t1.rise⟩, hb.trans t6⟩
  have HTK := Lib.hid TK
  have HOV := Lib.hid OV
  clear TK OV h
  generalize L.length = n at *
  go_enter Tryz.func20, Tryz.ntmps20
  go_wp2_with fail
  refine HOV.out.mono ?_
  rintro e w1 ⟨hs, rfl, h1, h2, h3⟩
  have HT := HTK.out hs w1 h1 h2 h3
  clear h1 h2 h3 HTK HOV
  go_wp2_with fail
  refine HT.mono ?_
  rintro e w2 ⟨g, m, S, r0, rfl, hrest⟩
  have HR := Lib.hid hrest
  clear hrest HT
  go_wp2
  go_ret
  exact ⟨g, m, S, r0, rfl, HR.out⟩
end Go.Proofs.YtmogoopkjkdkgaaGreat.Ord
