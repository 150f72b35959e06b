/- Order: container/heap: down. Order: container/heap: Push, Fix, Pop; add. Order: over, left. Order: Next of a cursor. Order: take, All. Order: the document's lists of events by writers: Feeds: what stands while they are made. Order: Feeds: an event is put behind a list. Order: Right: slices.IsSortedFunc of events. -/
import Derived.Deep.MidRow
import Derived.Test.YthdflbpmabcjlaaDoorLTp04
import Derived.Test.YthdflbpmabcjlaaDoorLTp08
namespace Go.Proofs.YthdflbpmabcjlaaDoor.Ord
open Go Go.RowKit Go.Proofs.YthdflbpmabcjlaaDoor.Words Go.Proofs.YthdflbpmabcjlaaDoor.Enc Go.Proofs.YthdflbpmabcjlaaDoor.Evt Go.Proofs.YthdflbpmabcjlaaDoor.Seg
set_option linter.unusedVariables false
set_option linter.unusedSimpArgs false

/-- What stands while the first m places are mended downwards. -/
structure Downs (B p : Nat) (T : TypeId) (A : Option Addr) (c n : Nat) (hs0 : List HV) (w0 : World) (hs1 : List HV) (m i : Nat) (hs : List HV) (w : World) : Prop where
  md : Mends B p T A c n hs0 w0 hs w
  inv : DownInv hvLe (HV.at_ hs) m i
  far : ∀ k, m ≤ k → HV.at_ hs k = HV.at_ hs1 k
theorem Downs.swap {B p : Nat} {T : TypeId} {A : Option Addr} {c n : Nat} {hs0 : List HV} {w0 : World} {hs1 hs : List HV} {m i j : Nat} {w w' : World} (h : Downs B p T A c n hs0 w0 hs1 m i hs w) (hmn : m ≤ n) (hj : i < j) (hjm : j < m) (hji : (j - 1) / 2 = i)
    (hl : hvLe (HV.at_ hs j) (HV.at_ hs i)) (hm : ∀ k, 0 < k → k < m → (k - 1) / 2 = i → hvLe (HV.at_ hs j) (HV.at_ hs k)) (hat : HeadsAt B p T A c (swL hs noHV i j) w') (hb : Below B w w') (hbs : Beside (mine p A) w w') : Downs B p T A c n hs0 w0 hs1 m j (swL hs noHV i j) w' := by
  have e := at_swap (hs := hs) (i := i) (j := j) (by rw [h.md.len]; omega) (by rw [h.md.len]; omega)
  refine ⟨h.md.swap (by omega) (by omega) hat hb hbs, by rw [e]; exact h.inv.go (by omega) hjm hji hl hm, fun k hk => ?_⟩
  rw [e]
  unfold swp
  rw [if_neg (by omega), if_neg (by omega)]
  exact h.far k hk
end Go.Proofs.YthdflbpmabcjlaaDoor.Ord
namespace Go.Proofs.YthdflbpmabcjlaaDoor.Ord
open Go Go.RowKit Go.Proofs.YthdflbpmabcjlaaDoor.Words Go.Proofs.YthdflbpmabcjlaaDoor.Enc Go.Proofs.YthdflbpmabcjlaaDoor.Evt Go.Proofs.YthdflbpmabcjlaaDoor.Seg
set_option linter.unusedVariables false
set_option linter.unusedSimpArgs false

theorem at_take {hs : List HV} {n k : Nat} (h : k < n) : HV.at_ (hs.take n) k = HV.at_ hs k := by
  unfold HV.at_
  rw [List.getD_eq_getElem?_getD, List.getD_eq_getElem?_getD, List.getElem?_take, if_pos h]
end Go.Proofs.YthdflbpmabcjlaaDoor.Ord
namespace Go.Proofs.YthdflbpmabcjlaaDoor.Ord
open Go Go.RowKit Go.Proofs.YthdflbpmabcjlaaDoor.Words Go.Proofs.YthdflbpmabcjlaaDoor.Enc Go.Proofs.YthdflbpmabcjlaaDoor.Evt Go.Proofs.YthdflbpmabcjlaaDoor.Seg
set_option linter.unusedVariables false
set_option linter.unusedSimpArgs false

/-- A row of lists, below block B. -/
structure Lists (B : Nat) (w : World) (Al : Option Addr) (L : List HV) : Prop where
  row : 0 < L.length → ∃ b o, b < B ∧ Al = some ⟨b, o, none⟩ ∧ ∀ k x, L[k]? = some x → w.cell? ⟨b, o + k, none⟩ = some x.val
  lie : ∀ x ∈ L, Lies B w x
theorem Lists.below {B : Nat} {w w' : World} {Al : Option Addr} {L : List HV} (h : Lists B w Al L) (hb : Below B w w') : Lists B w' Al L :=
  ⟨fun hn => by
    obtain ⟨b, o, h1, h2, h3⟩ := h.row hn
    exact ⟨b, o, h1, h2, fun k x hx => by rw [hb.cell h1]; exact h3 k x hx⟩, fun x hx => (h.lie x hx).below hb⟩

end Go.Proofs.YthdflbpmabcjlaaDoor.Ord
namespace Go.Proofs.YthdflbpmabcjlaaDoor.Ord
open Go Go.RowKit Go.Proofs.YthdflbpmabcjlaaDoor.Words Go.Proofs.YthdflbpmabcjlaaDoor.Enc Go.Proofs.YthdflbpmabcjlaaDoor.Evt Go.Proofs.YthdflbpmabcjlaaDoor.Seg
set_option linter.unusedVariables false
set_option linter.unusedSimpArgs false

def zeroE : Array Value := #[.int .i64 0, .int .u64 0, .int .u64 0, .int .u8 0, .string ⟨#[]⟩, .slice none 0 0, .float .f64 0, .int .i64 0]
def zeroEV : Value := .agg zeroE
/-- What is left of a list behind its first. -/
def HV.rest (h : HV) : HV := ⟨h.A.map fun a => ⟨a.block, a.off + 8, none⟩, h.c - 1, h.S.tail⟩
theorem rowsL_tail {S : List EvS} (hS : S ≠ []) (j : Nat) : (rowsL S.tail)[j]? = (rowsL S)[8 + j]? := by
  cases S with
  | nil => exact absurd rfl hS
  | cons a l => rw [rowsL, List.getElem?_append_right (by rw [EvS.cells_len]; omega), EvS.cells_len, show 8 + j - 8 = j by omega]; rfl
theorem Lies.rest {B : Nat} {w : World} {h : HV} (hl : Lies B w h) (hn : h.S ≠ []) : Lies B w h.rest := by
  have hp := List.length_pos_iff.2 hn
  refine ⟨⟨by simp [HV.rest]; have := hl.1.1; omega, by have := hl.1.2; simp [HV.rest]; omega⟩, fun h0 => ?_⟩
  obtain ⟨b, o, h1, h2, h3⟩ := hl.2 hp
  refine ⟨b, o + 8, h1, by simp [HV.rest, h2], fun j v hv => ?_⟩
  rw [show o + 8 + j = o + (8 + j) by omega]
  refine h3 (8 + j) v ?_
  rw [← rowsL_tail hn]
  exact hv

/-- One step of a cursor: the first list has lost its first event. -/
structure Step1 (hs hs' : List HV) : Prop where
  heap : Heap hs'
  flat : ((HV.at_ hs 0).one :: flat hs').Perm (flat hs)
  sub : ∀ x ∈ hs', x ∈ hs ∨ x = (HV.at_ hs 0).rest
end Go.Proofs.YthdflbpmabcjlaaDoor.Ord
namespace Go.Proofs.YthdflbpmabcjlaaDoor.Ord
open Go Go.RowKit Go.Proofs.YthdflbpmabcjlaaDoor.Words Go.Proofs.YthdflbpmabcjlaaDoor.Enc Go.Proofs.YthdflbpmabcjlaaDoor.Evt Go.Proofs.YthdflbpmabcjlaaDoor.Seg
set_option linter.unusedVariables false
set_option linter.unusedSimpArgs false

/-- Events rs have been taken from the lists hs; hs' is what is left. -/
structure Taken (hs : List HV) (rs : List EvS) (hs' : List HV) : Prop where
  perm : (rs ++ flat hs').Perm (flat hs)
  rise : Rises rs
  le : ∀ r ∈ rs, ∀ e ∈ flat hs', evLe r e
  rises : ∀ x ∈ hs', Rises x.S
  heap : Heap hs'
theorem Taken.nil {hs : List HV} (h : Heap hs) (hr : ∀ x ∈ hs, Rises x.S) : Taken hs [] hs := ⟨by simp, List.Pairwise.nil, fun r hr => (by cases hr), hr, h⟩
theorem Taken.next {hs hs1 hs2 : List HV} {rs : List EvS} (h : Taken hs rs hs1) (hs12 : Step1 hs1 hs2) (hn0 : 0 < hs1.length) : Taken hs (rs ++ [(HV.at_ hs1 0).one]) hs2 := by
  have hmin := h.heap.least h.rises
  have hmem : (HV.at_ hs1 0).one ∈ flat hs1 := List.mem_flatMap.2 ⟨_, at_mem hn0, one_mem (h.heap.ne _ (at_mem hn0))⟩
  have hsub : ∀ e ∈ flat hs2, e ∈ flat hs1 := fun e he => hs12.flat.mem_iff.1 (List.mem_cons_of_mem _ he)
  refine ⟨?_, ?_, fun r hr e he => ?_, fun x hx => ?_, hs12.heap⟩
  · rw [List.append_assoc]
    exact (hs12.flat.append_left rs).trans h.perm
  · refine List.pairwise_append.2 ⟨h.rise, List.pairwise_singleton _ _, fun a ha b hb => ?_⟩
    rw [List.mem_singleton.1 hb]
    exact h.le a ha _ hmem
  · rcases List.mem_append.1 hr with hr | hr
    · exact h.le r hr e (hsub e he)
    · rw [List.mem_singleton.1 hr]
      exact hmin e (hsub e he)
  · rcases hs12.sub x hx with hx | rfl
    · exact h.rises x hx
    · have := h.rises _ (at_mem hn0)
      exact this.sublist (List.tail_sublist _)

/-- An event whose text lies below block B. -/
structure TextLow (B : Nat) (w : World) (r : EvS) : Prop where
  sees : Sees w r.A r.n r.e.text
  few : r.n ≤ 1000000000
  low : 0 < r.n → ∀ a, r.A = some a → a.block < B
theorem sees_below {B : Nat} {w w' : World} {A : Option Addr} {n : Nat} {l : List UInt8} (h : Sees w A n l) (hb : Below B w w') (hl : 0 < n → ∀ a, A = some a → a.block < B) : Sees w' A n l := by
  refine ⟨h.1, fun hn => ?_⟩
  obtain ⟨b, o, hA, hc⟩ := h.2 hn
  have hlt : b < B := hl hn _ hA
  exact ⟨b, o, hA, fun j u hu => by rw [hb.cell (p := ⟨b, o + j, none⟩) hlt]; exact hc j u hu⟩
theorem TextLow.below {B : Nat} {w w' : World} {r : EvS} (h : TextLow B w r) (hb : Below B w w') : TextLow B w' r := ⟨sees_below h.sees hb h.low, h.few, h.low⟩

/-- An event in the result: its text is new. -/
structure TextNew (g : Nat) (w : World) (r : EvS) : Prop where
  sees : Sees w r.A r.n r.e.text
  cap : r.n ≤ r.c ∧ r.c ≤ 9223372036854775807
  new : 0 < r.n → ∀ a, r.A = some a → g < a.block
theorem TextNew.beside {g : Nat} {w w' : World} {r : EvS} (h : TextNew g w r) {S : List Nat} (hb : Beside S w w') (hS : ∀ x ∈ S, x ≤ g) : TextNew g w' r :=
  ⟨h.sees.beside hb fun hn a ha hm => by have := h.new hn a ha; have := hS _ hm; omega, h.cap, h.new⟩
/-- The result's row, i of m events of which are there. -/
structure RowAt (g m : Nat) (S : List EvS) (w : World) : Prop where
  row : ∃ cur : Array Value, w.heap[g]? = some (.cells cur 52 (0, 0)) ∧ cur.size = m * 8 ∧ ∀ (j : Nat) (v : Value), (rowsL S)[j]? = some v → cur[j]? = some v
  text : ∀ r ∈ S, TextNew g w r
theorem RowAt.beside {g m : Nat} {S : List EvS} {w w' : World} (h : RowAt g m S w) {L : List Nat} (hb : Beside L w w') (hL : ∀ x ∈ L, x < g) : RowAt g m S w' := by
  obtain ⟨⟨cur, h1, h2, h3⟩, h4⟩ := h
  refine ⟨⟨cur, (hb.block g (Array.getElem?_eq_some_iff.1 h1).1 (fun hm => by have := hL g hm; omega)).trans h1, h2, h3⟩, fun r hr => (h4 r hr).beside hb fun x hx => by have := hL x hx; omega⟩
theorem setCells_beside (b : Nat) : ∀ (vs : List Value) (o : Nat) (w : World), Beside [b] w (w.setCells b o vs)
  | [], o, w => Beside.refl _ _
  | v :: r, o, w => ((Beside.refl [b] w).setCell (p := ⟨b, o, none⟩) (by simp) v).trans (setCells_beside b r (o + 1) _) fun x hx => .inl hx
theorem setCells_heap (b : Nat) (T : TypeId) (f : Nat × Nat) : ∀ (vs : List Value) (o : Nat) (w : World) (cur : Array Value), w.heap[b]? = some (.cells cur T f) →
    ∃ cur', (w.setCells b o vs).heap[b]? = some (.cells cur' T f) ∧ cur'.size = cur.size ∧ (∀ i, i < o ∨ o + vs.length ≤ i → cur'[i]? = cur[i]?) ∧ (∀ j, j < vs.length → o + j < cur.size → cur'[o + j]? = vs[j]?)
  | [], o, w, cur, h => ⟨cur, h, rfl, fun i _ => rfl, fun j hj => by simp at hj⟩
  | v :: r, o, w, cur, h => by
    obtain ⟨cur', h1, h2, h3, h4⟩ := setCells_heap b T f r (o + 1) (w.setCell ⟨b, o, none⟩ v) (cur.setIfInBounds o v) (heapSame h)
    refine ⟨cur', h1, by rw [h2]; simp, fun i hi => ?_, fun j hj hs => ?_⟩
    · rw [h3 i (by simp at hi; omega), Array.getElem?_setIfInBounds_ne (by simp at hi; omega)]
    · rcases j with _ | j
      · rw [Nat.add_zero, h3 o (by omega)]
        simp at hs
        simp [Array.getElem?_setIfInBounds, hs]
      · have := h4 j (by simpa using hj) (by simp; omega)
        rw [show o + (j + 1) = o + 1 + j by omega, this]
        simp
theorem RowAt.there {g m : Nat} {S : List EvS} {w : World} (h : RowAt g m S w) (hS : S.length < m) : w.there g (S.length * 8) 8 := by
  obtain ⟨⟨cur, h1, h2, h3⟩, h4⟩ := h
  intro j hj
  refine ⟨?_, frozen_row0 h1⟩
  rw [cell_of_row w g _ _ _ _ h1, Array.getElem?_eq_getElem (by omega)]
  rfl
theorem RowAt.put {g m : Nat} {S : List EvS} {w : World} (h : RowAt g m S w) (hS : S.length < m) (r : EvS) (hr : TextNew g w r) : RowAt g m (S ++ [r]) (w.setCells g (S.length * 8) r.cells) := by
  obtain ⟨⟨cur, h1, h2, h3⟩, h4⟩ := h
  obtain ⟨cur', k1, k2, k3, k4⟩ := setCells_heap g 52 (0, 0) r.cells (S.length * 8) w cur h1
  have hb := setCells_beside g r.cells (S.length * 8) w
  refine ⟨⟨cur', k1, by rw [k2, h2], fun j v hv => ?_⟩, fun x hx => ?_⟩
  · rw [rowsL_append] at hv
    by_cases hj : j < (rowsL S).length
    · rw [List.getElem?_append_left hj] at hv
      rw [k3 j (.inl (by rw [rowsL_len] at hj; exact hj))]
      exact h3 j v hv
    · rw [List.getElem?_append_right (by omega), rowsL_len] at hv
      simp only [rowsL, List.append_nil] at hv
      rw [rowsL_len] at hj
      have hjl : j - S.length * 8 < r.cells.length := (List.getElem?_eq_some_iff.1 hv).1
      have := k4 (j - S.length * 8) hjl (by rw [EvS.cells_len] at hjl; omega)
      rw [show S.length * 8 + (j - S.length * 8) = j by omega] at this
      rw [this, hv]
  · have hb2 : ∀ x ∈ [g], x ≤ g := by simp
    rcases List.mem_append.1 hx with hx | hx
    · exact (h4 x hx).beside hb hb2
    · rw [List.mem_singleton.1 hx]; exact hr.beside hb hb2
theorem RowAt.raw {g m : Nat} {S : List EvS} {w : World} (h : RowAt g m S w) : RawEv w (some ⟨g, 0, none⟩) S := fun hn => by
  obtain ⟨⟨cur, h1, h2, h3⟩, h4⟩ := h
  exact ⟨g, 0, rfl, fun j v hv => by rw [Nat.zero_add, cell_of_row w g _ _ _ _ h1]; exact h3 j v hv⟩

theorem infoEv : (Tryd.prog.info? 52).map (fun i => (i.zero, i.size, i.bytes)) = some (some zeroEV, 8, 88) := by kernel_rfl
theorem RowAt.made (w : World) (m : Nat) : RowAt w.heap.size m [] (w.alloc (.cells (madeCells zeroE (m * 8)) 52)) :=
  ⟨⟨_, heap_alloc_new w _, size_madeCells _ _, fun j v hv => by simp [rowsL] at hv⟩, fun r hr => by cases hr⟩
end Go.Proofs.YthdflbpmabcjlaaDoor.Ord
namespace Go.Proofs.YthdflbpmabcjlaaDoor.Ord
open Go Go.RowKit Go.Proofs.YthdflbpmabcjlaaDoor.Words Go.Proofs.YthdflbpmabcjlaaDoor.Enc Go.Proofs.YthdflbpmabcjlaaDoor.Evt Go.Proofs.YthdflbpmabcjlaaDoor.Seg
set_option linter.unusedVariables false
set_option linter.unusedSimpArgs false

/-- A row of numbers of 16 bits. -/
structure SeesH (w : World) (A : Option Addr) (n : Nat) (l : List Nat) : Prop where
  len : l.length = n
  row : 0 < n → ∃ b o, A = some ⟨b, o, none⟩ ∧ ∀ (j x : Nat), l[j]? = some x → w.cell? ⟨b, o + j, none⟩ = some (.int .u16 (x : Int))
  few : ∀ x ∈ l, x < 65536
theorem SeesH.below {w w' : World} {A : Option Addr} {n : Nat} {l : List Nat} (h : SeesH w A n l) (hb : Below w.heap.size w w') : SeesH w' A n l :=
  ⟨h.len, fun hn => by
    obtain ⟨b, o, h1, h2⟩ := h.row hn
    exact ⟨b, o, h1, fun j x hx => by rw [hb.cell (World.block_lt_of_cell? _ _ (h2 j x hx))]; exact h2 j x hx⟩, h.few⟩

/-- An event's text, if it has one, is a block of one byte. -/
def TextBox (B : Nat) (W : World) (e : EvS) : Prop :=
  (e.n = 0 ∧ e.c = 0 ∧ e.A = none ∧ e.e.text = []) ∨ ∃ (tb : Nat) (u : UInt8), e.A = some ⟨tb, 0, none⟩ ∧ e.n = 1 ∧ e.c = 1 ∧ e.e.text = [u] ∧ W.heap[tb]? = some (.cells #[.int .u8 (u.toNat : Int)] 5 (0, 0)) ∧ B ≤ tb
/-- A list of the writer k, whose last event has the time t. -/
structure ListOf (k t : Nat) (x : HV) : Prop where
  each : ∀ e ∈ x.S, e.e.writer = k ∧ 1 ≤ e.e.time ∧ e.e.time ≤ t ∧ 1 ≤ e.e.seq ∧ e.e.seq ≤ 60 ∧ 1 ≤ e.e.kind ∧ e.e.kind ≤ 4 ∧ e.e.key.size = 1 ∧ (e.e.kind ≠ 1 → e.e.text = []) ∧ e.e.node = 0 ∧ e.e.num < 18446744073709551616
  rise : x.S.Pairwise fun a b => a.e.time < b.e.time
  seq : ∀ j e, x.S[j]? = some e → e.e.seq = j + 1
def u64s (T : List Nat) : List Value := T.map fun (t : Nat) => Value.int .u64 (t : Int)
/-- What stands while the lists are made. -/
structure FeedsAt (B0 ob lb wn : Nat) (w0 : World) (i m : Nat) (L : List HV) (T : List Nat) (W : World) : Prop where
  out : W.heap[ob]? = some (.cells (L.map HV.val).toArray 34 (0, 0))
  last : W.heap[lb]? = some (.cells (u64s T).toArray 22 (0, 0))
  lenL : L.length = wn
  lenT : T.length = wn
  own : ∀ x ∈ L, W.ownsRow B0 52 8 (.slice x.A x.S.length x.c) x.S.length (rowsL x.S)
  apart : ∀ (j k : Nat) (x y : HV) (a b : Addr), L[j]? = some x → L[k]? = some y → x.A = some a → y.A = some b → j ≠ k → a.block ≠ b.block
  text : ∀ x ∈ L, ∀ e ∈ x.S, TextBox B0 W e
  good : ∀ (k t : Nat) (x : HV), L[k]? = some x → T[k]? = some t → ListOf k t x
  few : (flat L).length = i
  time : ∀ t ∈ T, t ≤ m
  below : Below B0 w0 W
  new : B0 ≤ ob ∧ B0 ≤ lb ∧ B0 ≤ w0.heap.size

theorem infoLL : (Tryd.prog.info? 34).map (fun i => (i.zero, i.size, i.bytes)) = some (some (.slice none 0 0), 1, 24) := by kernel_rfl
set_option maxRecDepth 100000 in
theorem make_ll (W : World) (kk : Nat) (hk : kk ≤ 1000000) : (Instr.makeSlice 56 (.int .i64 (kk : Int)) (.int .i64 (kk : Int))).run Tryd.prog W = .ok (.slice (some ⟨W.heap.size, 0, none⟩) kk kk) (W.alloc (.cells ((List.replicate kk (⟨none, 0, []⟩ : HV)).map HV.val).toArray 34)) := by
  obtain ⟨i, hi, hz, hsz, hby⟩ := info_parts infoLL
  have := run_make (P := Tryd.prog) W 56 34 i (.slice none 0 0) Tryd.underlying56 hi hz .i64 .i64 (kk : Int) (kk : Int) (by omega) (Int.le_refl _) (by rw [hby]; omega) (by omega)
  rw [this, hsz]
  simp only [Int.toNat_natCast, Nat.mul_one]
  congr 4
  apply Array.ext'
  rw [show (Value.slice none 0 0).cells = #[Value.slice none 0 0] from rfl, toList_madeCells_one]
  simp [HV.val]
theorem infoU64 : (Tryd.prog.info? 22).map (fun i => (i.zero, i.size, i.bytes)) = some (some (.int .u64 0), 1, 8) := by kernel_rfl
set_option maxRecDepth 100000 in
theorem make_us (W : World) (kk : Nat) (hk : kk ≤ 1000000) : (Instr.makeSlice 24 (.int .i64 (kk : Int)) (.int .i64 (kk : Int))).run Tryd.prog W = .ok (.slice (some ⟨W.heap.size, 0, none⟩) kk kk) (W.alloc (.cells (u64s (List.replicate kk 0)).toArray 22)) := by
  obtain ⟨i, hi, hz, hsz, hby⟩ := info_parts infoU64
  have := run_make (P := Tryd.prog) W 24 22 i (.int .u64 0) Tryd.underlying24 hi hz .i64 .i64 (kk : Int) (kk : Int) (by omega) (Int.le_refl _) (by rw [hby]; omega) (by omega)
  rw [this, hsz]
  simp only [Int.toNat_natCast, Nat.mul_one]
  congr 4
  apply Array.ext'
  rw [show (Value.int .u64 0).cells = #[Value.int .u64 0] from rfl, toList_madeCells_one]
  simp [u64s]
theorem feeds_start (w : World) (wn : Nat) : FeedsAt w.heap.size w.heap.size (w.heap.size + 1) wn w 0 0 (List.replicate wn ⟨none, 0, []⟩) (List.replicate wn 0)
    ((w.alloc (.cells ((List.replicate wn (⟨none, 0, []⟩ : HV)).map HV.val).toArray 34)).alloc (.cells (u64s (List.replicate wn 0)).toArray 22)) := by
  have hall : ∀ x ∈ List.replicate wn (⟨none, 0, []⟩ : HV), x = ⟨none, 0, []⟩ := fun x hx => (List.mem_replicate.1 hx).2
  refine ⟨(Below.heap_alloc _ _ _ (by simp)).trans (heap_alloc_new w _), ?_, by simp, by simp, fun x hx => ?_, fun j k x y a b hx hy ha hb => ?_, fun x hx e he => ?_, fun k t x hx ht => ?_, ?_, fun t ht => ?_, ((Below.refl _ _).alloc (Nat.le_refl _) _).alloc (by simp) _, Nat.le_refl _, by omega, Nat.le_refl _⟩
  · have := heap_alloc_new (w.alloc (.cells ((List.replicate wn (⟨none, 0, []⟩ : HV)).map HV.val).toArray 34)) (.cells (u64s (List.replicate wn 0)).toArray 22)
    rwa [World.size_alloc] at this
  · rw [hall x hx]; exact World.ownsRow_nil _ _ _ 8
  · rw [hall x (List.mem_of_getElem? hx)] at ha; cases ha
  · rw [hall x hx] at he; cases he
  · rw [hall x (List.mem_of_getElem? hx)]; exact ⟨fun e he => (by cases he), List.Pairwise.nil, fun j e h => (by simp at h)⟩
  · simp [flat]
  · rw [(List.mem_replicate.1 ht).2]; omega

theorem ListOf.later {k t t' : Nat} {x : HV} (h : ListOf k t x) (ht : t ≤ t') : ListOf k t' x :=
  ⟨fun e he => by obtain ⟨h1, h2, h3, h4⟩ := h.each e he; exact ⟨h1, h2, by omega, h4⟩, h.rise, h.seq⟩
/-- One writer's last time is another one. -/
theorem FeedsAt.tick {B0 ob lb wn i m k t t' : Nat} {w0 W : World} {L : List HV} {T : List Nat} (h : FeedsAt B0 ob lb wn w0 i m L T W) (hol : ob ≠ lb) (hx : ∀ (b : Nat) (x : HV) (a : Addr), x ∈ L → x.A = some a → a.block ≠ lb) (hk : T[k]? = some t) (htt : t ≤ t') (m' : Nat) (hm : m ≤ m') (ht' : t' ≤ m') :
    FeedsAt B0 ob lb wn w0 i m' L (T.set k t') (W.setCell ⟨lb, k, none⟩ (.int .u64 (t' : Int))).drew := by
  have hkl : k < T.length := (List.getElem?_eq_some_iff.1 hk).1
  have hlast := heapSame (i := k) (v := .int .u64 (t' : Int)) h.last
  refine ⟨(heapOther hol).trans h.out, ?_, h.lenL, by simpa using h.lenT, fun x hxL => ⟨(h.own x hxL).1, ?_⟩, h.apart, fun x hxL e he => ?_, fun j tj x hj htj => ?_, h.few, fun tj htj => ?_, (h.below.setCell (p := ⟨lb, k, none⟩) h.new.2.1 _).drew, h.new⟩
  · show (W.setCell ⟨lb, k, none⟩ (.int .u64 (t' : Int))).heap[lb]? = _
    rw [hlast]
    congr 2
    apply Array.ext'
    simp [u64s, List.map_set]
  · rcases (h.own x hxL).2 with hn | ⟨g, cap, cur, hv, hg, hh, r⟩
    · exact .inl hn
    · have hA : x.A = some ⟨g, 0, none⟩ := by injection hv
      exact .inr ⟨g, cap, cur, hv, hg, (heapOther (hx 0 x _ hxL hA)).trans hh, r⟩
  · rcases h.text x hxL e he with hz | ⟨tb, u, h1, h2, h3, h4, h5, h6⟩
    · exact .inl hz
    · refine .inr ⟨tb, u, h1, h2, h3, h4, (heapOther (fun e => ?_)).trans h5, h6⟩
      subst e
      rw [h.last] at h5
      injection h5 with h5
      injection h5 with _ h5
      exact absurd h5 (by decide)
  · by_cases hjk : j = k
    · subst hjk
      rw [List.getElem?_set_self hkl] at htj
      cases htj
      exact (h.good j t x hj hk).later htt
    · rw [List.getElem?_set_ne (Ne.symm hjk)] at htj
      exact h.good j tj x hj htj
  · rcases List.mem_or_eq_of_mem_set htj with h1 | rfl
    · have := h.time tj h1; omega
    · exact ht'
/-- The rows of the lists aren't the row of the last times. -/
theorem FeedsAt.far {B0 ob lb wn i m : Nat} {w0 W : World} {L : List HV} {T : List Nat} (h : FeedsAt B0 ob lb wn w0 i m L T W) {x : HV} {a : Addr} (hx : x ∈ L) (ha : x.A = some a) : a.block ≠ lb ∧ a.block ≠ ob := by
  rcases (h.own x hx).2 with ⟨hv, _⟩ | ⟨g, cap, cur, hv, hg, hh, r⟩
  · rw [ha] at hv; cases hv
  · have hA : x.A = some ⟨g, 0, none⟩ := by injection hv
    rw [ha] at hA
    cases hA
    refine ⟨fun e => ?_, fun e => ?_⟩
    · simp only at e; rw [e, h.last] at hh; injection hh with hh; injection hh with _ hh; exact absurd hh (by decide)
    · simp only at e; rw [e, h.out] at hh; injection hh with hh; injection hh with _ hh; exact absurd hh (by decide)
/-- The key's byte, as the program reckons it. -/
def keyV (x : Nat) : Int := IntKind.u8.wrap (97 + (IntKind.u8.wrap (IntKind.u16.wrap ((x : Int) / 256))).tmod 4)
theorem keyV_eq (x : Nat) (hx : x < 65536) : keyV x = ((97 + x / 256 % 4 : Nat) : Int) := by
  have h1 : IntKind.u16.wrap ((x : Int) / 256) = (x : Int) / 256 := by simp [IntKind.wrap, IntKind.bits, IntKind.signed]; omega
  have h2 : IntKind.u8.wrap ((x : Int) / 256) = (x : Int) / 256 := by simp [IntKind.wrap, IntKind.bits, IntKind.signed]; omega
  have h3 : ((x : Int) / 256).tmod 4 = (x : Int) / 256 % 4 := Int.tmod_eq_emod_of_nonneg (by omega)
  unfold keyV
  rw [h1, h2, h3]
  simp [IntKind.wrap, IntKind.bits, IntKind.signed]
  omega
theorem key_run12 (W : World) (x : Nat) (hx : x < 65536) : (convert 27 9 (.slice (some ⟨W.heap.size, 0, none⟩) 1 1)).run Tryd.prog (W.alloc (.cells #[.int .u8 (keyV x)] 5)).drew = .ok (.string ⟨#[UInt8.ofNat (97 + x / 256 % 4)]⟩) (W.alloc (.cells #[.int .u8 (keyV x)] 5)).drew := by
  have h : Sees (W.alloc (.cells #[.int .u8 (keyV x)] 5)) (some ⟨W.heap.size, 0, none⟩) 1 [UInt8.ofNat (97 + x / 256 % 4)] := by
    refine sees_new W _ _ 1 _ rfl fun j u hu => ?_
    match j, hu with
    | 0, hu =>
      rw [List.getElem?_cons_zero] at hu
      injection hu with hu
      subst hu
      have h2 : (UInt8.ofNat (97 + x / 256 % 4)).toNat = 97 + x / 256 % 4 := by rw [UInt8.toNat_ofNat']; omega
      show some (Value.int IntKind.u8 (keyV x)) = some (Value.int IntKind.u8 ((UInt8.ofNat (97 + x / 256 % 4)).toNat : Int))
      rw [h2, keyV_eq x hx]
  exact (h.below (Below.refl _ _).drew).string 1 Tryd.underlying27 Tryd.underlying5 Tryd.underlying9
theorem key_run13 (W : World) (x : Nat) (hx : x < 65536) (o : Obj) : (convert 27 9 (.slice (some ⟨W.heap.size, 0, none⟩) 1 1)).run Tryd.prog ((W.alloc (.cells #[.int .u8 (keyV x)] 5)).alloc o).drew = .ok (.string ⟨#[UInt8.ofNat (97 + x / 256 % 4)]⟩) ((W.alloc (.cells #[.int .u8 (keyV x)] 5)).alloc o).drew := by
  have h : Sees (W.alloc (.cells #[.int .u8 (keyV x)] 5)) (some ⟨W.heap.size, 0, none⟩) 1 [UInt8.ofNat (97 + x / 256 % 4)] := by
    refine sees_new W _ _ 1 _ rfl fun j u hu => ?_
    match j, hu with
    | 0, hu =>
      rw [List.getElem?_cons_zero] at hu
      injection hu with hu
      subst hu
      have h2 : (UInt8.ofNat (97 + x / 256 % 4)).toNat = 97 + x / 256 % 4 := by rw [UInt8.toNat_ofNat']; omega
      show some (Value.int IntKind.u8 (keyV x)) = some (Value.int IntKind.u8 ((UInt8.ofNat (97 + x / 256 % 4)).toNat : Int))
      rw [h2, keyV_eq x hx]
  exact (h.below (((Below.refl _ _).alloc (Nat.le_refl _) o).drew)).string 1 Tryd.underlying27 Tryd.underlying5 Tryd.underlying9
theorem kindV_eq (x : Nat) (hx : x < 65536) : ∃ kd : Nat, 1 ≤ kd ∧ kd ≤ 4 ∧ IntKind.u8.wrap (1 + (IntKind.u8.wrap (IntKind.u16.wrap ((x : Int) / 64))).tmod 4) = (kd : Int) := by
  have h1 : IntKind.u16.wrap ((x : Int) / 64) = (x : Int) / 64 := by simp [IntKind.wrap, IntKind.bits, IntKind.signed]; omega
  have h2 : IntKind.u8.wrap ((x : Int) / 64) = (x : Int) / 64 % 256 := by simp [IntKind.wrap, IntKind.bits, IntKind.signed]
  have h3 : ((x : Int) / 64 % 256).tmod 4 = (x : Int) / 64 % 256 % 4 := Int.tmod_eq_emod_of_nonneg (by omega)
  refine ⟨1 + x / 64 % 256 % 4, by omega, by omega, ?_⟩
  rw [h1, h2, h3]
  simp [IntKind.wrap, IntKind.bits, IntKind.signed]
  omega
theorem seqV_eq (s : Nat) (hs : s ≤ 60) : IntKind.u64.wrap (IntKind.u64.wrap (s : Int) + 1) = ((s + 1 : Nat) : Int) := by
  rw [IntKind.wrap_u64, IntKind.wrap_u64]; omega
theorem quo4_some : ∀ i : Fin 60, (floatBits .quo .f64 (floatOfInt .f64 ((i.val : Nat) : Int)) 4616189618054758400).any (fun q => decide (q < 18446744073709551616)) = true := by decide +kernel
theorem quo4_run (i : Nat) (hi : i < 60) : ∃ q : Nat, q < 18446744073709551616 ∧ ∀ t W, (binOp .quo t (.float .f64 (floatOfInt .f64 (i : Int))) (.float .f64 4616189618054758400)).run Tryd.prog W = .ok (.float .f64 q) W := by
  obtain ⟨q, hq, hq2⟩ := (Option.any_eq_true _ _).1 (quo4_some ⟨i, hi⟩)
  exact ⟨q, of_decide_eq_true hq2, fun t W => run_float_arith W .quo t .f64 _ _ _ hq⟩
theorem TextBox.below {B : Nat} {w w' : World} {e : EvS} (h : TextBox B w e) (hb : Below w.heap.size w w') : TextBox B w' e := by
  rcases h with hz | ⟨tb, u, q1, q2, q3, q4, q5, q6⟩
  · exact .inl hz
  · exact .inr ⟨tb, u, q1, q2, q3, q4, (hb.block tb (Array.getElem?_eq_some_iff.1 q5).1).trans q5, q6⟩
end Go.Proofs.YthdflbpmabcjlaaDoor.Ord
namespace Go.Proofs.YthdflbpmabcjlaaDoor.Ord
open Go Go.RowKit Go.Proofs.YthdflbpmabcjlaaDoor.Words Go.Proofs.YthdflbpmabcjlaaDoor.Enc Go.Proofs.YthdflbpmabcjlaaDoor.Evt Go.Proofs.YthdflbpmabcjlaaDoor.Seg
set_option linter.unusedVariables false
set_option linter.unusedSimpArgs false

theorem own_block_of {w : World} {base : Nat} {e : TypeId} {A : Option Addr} {n c : Nat} {xs : List Value} (h : w.ownsRow base e 8 (.slice A n c) n xs) {a : Addr} (ha : A = some a) : base ≤ a.block ∧ a.off = 0 ∧ a.spot = none ∧ ∃ cur, w.heap[a.block]? = some (.cells cur e (0, 0)) := by
  rcases h.2 with ⟨hv, _⟩ | ⟨g, cap, cur, hv, hg, hh, r⟩
  · rw [ha] at hv; cases hv
  · rw [ha] at hv
    injection hv with e1
    injection e1 with e1
    exact ⟨by rw [e1]; exact hg, by rw [e1], by rw [e1], cur, by rw [e1]; exact hh⟩
theorem flat_set_len {L : List HV} {k : Nat} {x y : HV} (h : L[k]? = some x) (hy : y.S.length = x.S.length + 1) : (flat (L.set k y)).length = (flat L).length + 1 := by
  induction L generalizing k with
  | nil => simp at h
  | cons a t ih =>
    cases k with
    | zero =>
      simp at h; subst h
      unfold flat
      simp only [List.set_cons_zero, List.flatMap_cons, List.length_append]
      omega
    | succ k =>
      have := ih (k := k) (by simpa using h)
      unfold flat at *
      simp only [List.set_cons_succ, List.flatMap_cons, List.length_append]
      omega
set_option maxHeartbeats 1000000 in
theorem FeedsAt.put {B0 ob lb wn i m k t : Nat} {w0 W1 W W2 : World} {L : List HV} {T : List Nat} {x : HV} (h : FeedsAt B0 ob lb wn w0 i m L T W1) (hol : ob ≠ lb) (hx : L[k]? = some x) (hT : T[k]? = some t) (e : EvS) (hW : Below W1.heap.size W1 W) (htx : TextBox B0 W e)
    (he : e.e.writer = k ∧ e.e.time = t ∧ 1 ≤ t ∧ e.e.seq = x.S.length + 1 ∧ x.S.length + 1 ≤ 60 ∧ 1 ≤ e.e.kind ∧ e.e.kind ≤ 4 ∧ e.e.key.size = 1 ∧ (e.e.kind ≠ 1 → e.e.text = []) ∧ e.e.node = 0 ∧ e.e.num < 18446744073709551616) (hlt : ∀ e' ∈ x.S, e'.e.time < t) {g' cap' : Nat}
    (hown : W2.ownsRow B0 52 8 (.slice (some ⟨g', 0, none⟩) (x.S.length + 1) cap') (x.S.length + 1) (rowsL x.S ++ e.cells)) (hg : W.grownBy W2 (Value.slice x.A x.S.length x.c).ownBlock) (hat : (Value.slice x.A x.S.length x.c).ownBlock = some g' ∨ W1.heap.size ≤ g') :
    W2.heap[ob]? = some (.cells (L.map HV.val).toArray 34 (0, 0)) ∧
    FeedsAt B0 ob lb wn w0 (i + 1) m (L.set k ⟨some ⟨g', 0, none⟩, cap', x.S ++ [e]⟩) T (W2.setCell ⟨ob, k, none⟩ (.slice (some ⟨g', 0, none⟩) (x.S.length + 1) cap')) := by
  have hxm : x ∈ L := List.mem_of_getElem? hx
  have hkl : k < L.length := (List.getElem?_eq_some_iff.1 hx).1
  have hobl : ob < W1.heap.size := (Array.getElem?_eq_some_iff.1 h.out).1
  have hlbl : lb < W1.heap.size := (Array.getElem?_eq_some_iff.1 h.last).1
  have hBW1 : B0 ≤ W1.heap.size := by have := h.new.1; omega
  -- the row's block, if there is one, holds events
  have hrow : ∀ b, (Value.slice x.A x.S.length x.c).ownBlock = some b → b < W1.heap.size ∧ B0 ≤ b ∧ b ≠ ob ∧ b ≠ lb ∧ ∃ cur, W1.heap[b]? = some (.cells cur 52 (0, 0)) := fun b hb => by
    cases hA : x.A with
    | none => rw [hA] at hb; simp [Value.ownBlock] at hb
    | some a =>
      rw [hA] at hb
      simp [Value.ownBlock] at hb
      subst hb
      obtain ⟨hb0, _, _, cur, hc⟩ := own_block_of (h.own x hxm) hA
      have hf := h.far hxm hA
      exact ⟨(Array.getElem?_eq_some_iff.1 hc).1, hb0, hf.2, hf.1, cur, hc⟩
  have hrn : ∀ b, b < W1.heap.size → (∀ a, x.A = some a → a.block ≠ b) → W2.heap[b]? = W1.heap[b]? := fun b hb hn => by
    refine (hg.block b (by have := hW.size; omega) (fun e => ?_)).trans (hW.block b hb)
    cases hA : x.A with
    | none => rw [hA] at e; simp [Value.ownBlock] at e
    | some a => rw [hA] at e; simp [Value.ownBlock] at e; exact hn a hA e.symm
  have hout2 : W2.heap[ob]? = some (.cells (L.map HV.val).toArray 34 (0, 0)) := (hrn ob hobl fun a ha => (h.far hxm ha).2).trans h.out
  have hlast2 : W2.heap[lb]? = some (.cells (u64s T).toArray 22 (0, 0)) := (hrn lb hlbl fun a ha => (h.far hxm ha).1).trans h.last
  have hgo : g' ≠ ob ∧ g' ≠ lb ∧ B0 ≤ g' := by
    rcases hat with hh | hh
    · obtain ⟨_, q1, q2, q3, _⟩ := hrow g' hh; exact ⟨q2, q3, q1⟩
    · exact ⟨by omega, by omega, by omega⟩
  have hB2 : Below B0 W1 W2 := (hW.mono hBW1).trans ((Below.refl B0 W).grown hg (by have := hW.size; omega) (fun b hb => (hrow b hb).2.1))
  refine ⟨hout2, ?_⟩
  have hset : ∀ (j : Nat) (y : HV), (L.set k ⟨some ⟨g', 0, none⟩, cap', x.S ++ [e]⟩)[j]? = some y → (j = k ∧ y = ⟨some ⟨g', 0, none⟩, cap', x.S ++ [e]⟩) ∨ (j ≠ k ∧ L[j]? = some y) := fun j y hy => by
    by_cases hj : j = k
    · subst hj; rw [List.getElem?_set_self hkl] at hy; cases hy; exact .inl ⟨rfl, rfl⟩
    · rw [List.getElem?_set_ne (Ne.symm hj)] at hy; exact .inr ⟨hj, hy⟩
  have hother : ∀ (j : Nat) (y : HV), j ≠ k → L[j]? = some y → ∀ a, y.A = some a → a.block ≠ g' ∧ W2.heap[a.block]? = W1.heap[a.block]? := fun j y hj hy a ha => by
    obtain ⟨hb0, _, _, cur, hc⟩ := own_block_of (h.own y (List.mem_of_getElem? hy)) ha
    have hlt2 := (Array.getElem?_eq_some_iff.1 hc).1
    refine ⟨fun e2 => ?_, hrn _ hlt2 fun a2 ha2 => h.apart k j x y a2 a hx hy ha2 ha (Ne.symm hj)⟩
    rcases hat with hh | hh
    · cases hA : x.A with
      | none => rw [hA] at hh; simp [Value.ownBlock] at hh
      | some a2 =>
        rw [hA] at hh; simp [Value.ownBlock] at hh
        exact h.apart k j x y a2 a hx hy hA ha (Ne.symm hj) (by rw [hh, e2])
    · omega
  have htext : ∀ e', (TextBox B0 W1 e' ∨ TextBox B0 W e') → TextBox B0 (W2.setCell ⟨ob, k, none⟩ (.slice (some ⟨g', 0, none⟩) (x.S.length + 1) cap')) e' := fun e' h1 => by
    have h2 : TextBox B0 W e' := by
      rcases h1 with h1 | h1
      · rcases h1 with hz | ⟨tb, u, q1, q2, q3, q4, q5, q6⟩
        · exact .inl hz
        · exact .inr ⟨tb, u, q1, q2, q3, q4, (hW.block tb (Array.getElem?_eq_some_iff.1 q5).1).trans q5, q6⟩
      · exact h1
    rcases h2 with hz | ⟨tb, u, q1, q2, q3, q4, q5, q6⟩
    · exact .inl hz
    · have htl := (Array.getElem?_eq_some_iff.1 q5).1
      have n1 : ¬ some tb = (Value.slice x.A x.S.length x.c).ownBlock := fun e2 => by
        obtain ⟨r1, _, _, _, cur, r2⟩ := hrow tb e2.symm
        rw [hW.block tb r1, r2] at q5
        injection q5 with q5; injection q5 with _ q5
        exact absurd q5 (by decide)
      have n2 : tb ≠ ob := fun e2 => by
        subst e2
        rw [hW.block tb hobl, h.out] at q5
        injection q5 with q5; injection q5 with _ q5
        exact absurd q5 (by decide)
      exact .inr ⟨tb, u, q1, q2, q3, q4, (heapOther n2).trans ((hg.block tb htl n1).trans q5), q6⟩
  refine ⟨?_, (heapOther (Ne.symm hol)).trans hlast2, by simpa using h.lenL, h.lenT, fun y hy => ?_, fun j1 j2 y1 y2 a1 a2 hy1 hy2 ha1 ha2 hj => ?_, fun y hy e' he' => ?_, fun j tj y hy htj => ?_, ?_, h.time, (h.below.trans hB2).setCell (p := ⟨ob, k, none⟩) h.new.1 _, h.new⟩
  · rw [heapSame hout2]
    congr 2
    apply Array.ext'
    simp [List.map_set, HV.val]
  · obtain ⟨j, hjl, rfl⟩ := List.getElem_of_mem hy
    rcases hset j _ (List.getElem?_eq_getElem hjl) with ⟨_, e2⟩ | ⟨hj, hyj⟩
    · rw [e2]
      simp only [List.length_append, List.length_cons, List.length_nil, Nat.zero_add]
      have e3 : rowsL (x.S ++ [e]) = rowsL x.S ++ e.cells := by rw [rowsL_append]; simp [rowsL]
      rw [e3]
      refine ⟨hown.1, ?_⟩
      rcases hown.2 with ⟨hv, _⟩ | ⟨g, cap, cur, hv, hbg, hh, r⟩
      · cases hv
      · have : g = g' := by injection hv with e1; injection e1 with e1; injection e1 with e1; exact e1.symm
        subst this
        exact .inr ⟨g, cap, cur, hv, hbg, (heapOther hgo.1).trans hh, r⟩
    · have ho := h.own _ (List.mem_of_getElem? hyj)
      refine ⟨ho.1, ?_⟩
      rcases ho.2 with hn | ⟨g, cap, cur, hv, hbg, hh, r⟩
      · exact .inl hn
      · have hA : (L.set k ⟨some ⟨g', 0, none⟩, cap', x.S ++ [e]⟩)[j].A = some ⟨g, 0, none⟩ := by injection hv
        have q := hother j _ hj hyj _ hA
        exact .inr ⟨g, cap, cur, hv, hbg, (heapOther (h.far (List.mem_of_getElem? hyj) hA).2).trans (q.2.trans hh), r⟩
  · rcases hset j1 _ hy1 with ⟨e1, rfl⟩ | ⟨hj1, hy1'⟩
    · rcases hset j2 _ hy2 with ⟨e2, rfl⟩ | ⟨hj2, hy2'⟩
      · exact absurd (e1.trans e2.symm) hj
      · simp at ha1; subst ha1
        exact Ne.symm (hother j2 _ hj2 hy2' _ ha2).1
    · rcases hset j2 _ hy2 with ⟨e2, rfl⟩ | ⟨hj2, hy2'⟩
      · simp at ha2; subst ha2
        exact (hother j1 _ hj1 hy1' _ ha1).1
      · exact h.apart j1 j2 y1 y2 a1 a2 hy1' hy2' ha1 ha2 hj
  · obtain ⟨j, hjl, rfl⟩ := List.getElem_of_mem hy
    rcases hset j _ (List.getElem?_eq_getElem hjl) with ⟨_, e2⟩ | ⟨hj, hyj⟩
    · rw [e2] at he'
      rcases List.mem_append.1 he' with he' | he'
      · exact htext _ (.inl (h.text x hxm e' he'))
      · rw [List.mem_singleton.1 he']; exact htext _ (.inr htx)
    · exact htext _ (.inl (h.text _ (List.mem_of_getElem? hyj) e' he'))
  · rcases hset j _ hy with ⟨e1, rfl⟩ | ⟨hj, hyj⟩
    · subst e1
      rw [hT] at htj; cases htj
      have hg1 := h.good j t x hx hT
      refine ⟨fun e' he' => ?_, ?_, fun j' e' hj' => ?_⟩
      · rcases List.mem_append.1 he' with he' | he'
        · exact hg1.each e' he'
        · rw [List.mem_singleton.1 he']
          obtain ⟨r1, r2, r3, r4, r5, r6, r7, r8, r9, r10⟩ := he
          exact ⟨r1, by omega, by omega, by omega, by omega, r6, r7, r8, r9, r10⟩
      · refine List.pairwise_append.2 ⟨hg1.rise, List.pairwise_singleton _ _, fun a ha b hb => ?_⟩
        rw [List.mem_singleton.1 hb, he.2.1]
        exact hlt a ha
      · by_cases h6 : j' < x.S.length
        · rw [List.getElem?_append_left h6] at hj'; exact hg1.seq j' e' hj'
        · rw [List.getElem?_append_right (by omega)] at hj'
          have h7 : j' - x.S.length = 0 := by
            cases h8 : j' - x.S.length with
            | zero => rfl
            | succ n => rw [h8] at hj'; simp at hj'
          rw [h7] at hj'
          simp at hj'
          subst hj'
          rw [he.2.2.2.1]; omega
    · exact h.good j tj y hyj htj
  · rw [flat_set_len hx (by simp), h.few]
end Go.Proofs.YthdflbpmabcjlaaDoor.Ord
namespace Go.Proofs.YthdflbpmabcjlaaDoor.Ord
open Go Go.RowKit Go.Proofs.YthdflbpmabcjlaaDoor.Words Go.Proofs.YthdflbpmabcjlaaDoor.Enc Go.Proofs.YthdflbpmabcjlaaDoor.Evt Go.Proofs.YthdflbpmabcjlaaDoor.Seg
set_option linter.unusedVariables false
set_option linter.unusedSimpArgs false

def evAt (S : List EvS) (k : Nat) : EvS := S.getD k noEv
theorem evAt_get {S : List EvS} {k : Nat} (hk : k < S.length) : S[k]? = some (evAt S k) := by
  unfold evAt
  rw [List.getD_eq_getElem?_getD, List.getElem?_eq_getElem hk]; rfl
theorem RawEv.cells_at {w : World} {b o : Nat} {S : List EvS} (h : ∀ j v, (rowsL S)[j]? = some v → w.cell? ⟨b, o + j, none⟩ = some v) {k : Nat} (hk : k < S.length) : w.cell? ⟨b, o + k * 8, none⟩ = some (.int .i64 (evAt S k).e.writer) ∧ w.cell? ⟨b, o + k * 8 + 1, none⟩ = some (.int .u64 ((evAt S k).e.seq : Int)) ∧ w.cell? ⟨b, o + k * 8 + 2, none⟩ = some (.int .u64 ((evAt S k).e.time : Int)) ∧ w.cell? ⟨b, o + k * 8 + 3, none⟩ = some (.int .u8 ((evAt S k).e.kind : Int)) ∧ w.cell? ⟨b, o + k * 8 + 4, none⟩ = some (.string (evAt S k).e.key) ∧ w.cell? ⟨b, o + k * 8 + 5, none⟩ = some (.slice (evAt S k).A (evAt S k).n (evAt S k).c) ∧ w.cell? ⟨b, o + k * 8 + 6, none⟩ = some (.float .f64 (evAt S k).e.num) ∧ w.cell? ⟨b, o + k * 8 + 7, none⟩ = some (.int .i64 (evAt S k).e.node) := by
  obtain ⟨b', o', e, q⟩ := RawEv.at_ (S := S) (A := some ⟨b, o, none⟩) (w := w) (fun _ => ⟨b, o, rfl, h⟩) (evAt_get hk)
  cases e
  rw [Nat.mul_comm k 8]
  exact q

end Go.Proofs.YthdflbpmabcjlaaDoor.Ord
