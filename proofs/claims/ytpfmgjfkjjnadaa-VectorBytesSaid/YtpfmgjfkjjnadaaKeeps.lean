/- As Facts, for regions in which a new block may be marked as a constant's: what stays is the cells of every block, and all of the old ones. -/
import Derived.Test.YtpfmgjfkjjnadaaFacts
import Derived.Test.YtpfmgjfkjjnadaaRows2
import Derived.Lib.SlBytesConst
namespace Go.Proofs.Ytpfmgjfkjjnadaa.Keeps
open Go Go.RowKit Go.Proofs.Ytpfmgjfkjjnadaa.Facts Go.Proofs.Ytpfmgjfkjjnadaa.Words
set_option linter.unusedVariables false

/-- Each block's cells are as they were; none but rows of m cells at most are marked. -/
def Keep (m : Nat) (a b : World) : Prop := ∀ (k : Nat) (cur : Array Value) (e : TypeId) (fr : Nat × Nat), a.heap[k]? = some (.cells cur e fr) → ∃ fr', b.heap[k]? = some (.cells cur e fr') ∧ (fr' = fr ∨ cur.size ≤ m)
theorem Keep.refl (m : Nat) (a : World) : Keep m a a := fun k cur e fr h => ⟨fr, h, .inl rfl⟩
theorem Keep.trans {m : Nat} {a b c : World} (h : Keep m a b) (k : Keep m b c) : Keep m a c := fun i cur e fr hi => by
  obtain ⟨fr', h', h1⟩ := h i cur e fr hi
  obtain ⟨fr2, h2, h3⟩ := k i cur e fr' h'
  refine ⟨fr2, h2, ?_⟩
  rcases h1 with rfl | h1
  · exact h3
  · exact .inr h1
theorem Keep.of_below (m : Nat) {a b : World} (h : Below a.heap.size a b) : Keep m a b := fun k cur e fr hk => ⟨fr, (h.block k (Array.getElem?_eq_some_iff.1 hk).1).trans hk, .inl rfl⟩
theorem Keep.cell {m : Nat} {a b : World} (h : Keep m a b) {p : Addr} {v : Value} (hc : a.cell? p = some v) : b.cell? p = some v := by
  unfold World.cell? at hc ⊢
  split at hc
  · rename_i c e fr hk
    obtain ⟨fr', h', _⟩ := h p.block c e fr hk
    rw [h']
    exact hc
  · cases hc
theorem sees_keep {w w' : World} {A : Option Addr} {n : Nat} {l : List UInt8} (h : Sees w A n l) {mk : Nat} (hb : Keep mk w w') : Sees w' A n l := by
  refine ⟨h.1, fun hn => ?_⟩
  obtain ⟨b, o, hA, hc⟩ := h.2 hn
  exact ⟨b, o, hA, fun j u hu => hb.cell (hc j u hu)⟩
theorem each_keep {w w' : World} {vs : List Value} {L : List (List UInt8)} (h : Each w vs L) {mk : Nat} (hb : Keep mk w w') : Each w' vs L :=
  ⟨h.1, fun j l hl => by
    obtain ⟨A, c, h1, h2, h3⟩ := h.2 j l hl
    exact ⟨A, c, h1, h2, sees_keep h3 hb⟩⟩
theorem seesAll_keep {w w' : World} {A : Option Addr} {n : Nat} {L : List (List UInt8)} (h : SeesAll w A n L) {mk : Nat} (hb : Keep mk w w') : SeesAll w' A n L := by
  obtain ⟨vs, h1, h2, h3⟩ := h
  refine ⟨vs, each_keep h1 hb, h2, fun hn => ?_⟩
  obtain ⟨b, o, h4, h5⟩ := h3 hn
  exact ⟨b, o, h4, fun j v hv => hb.cell (h5 j v hv)⟩

/-- What holds from the region's beginning on: what was below B is as it was, and each block keeps its cells. -/
def R (m B : Nat) (a b : World) : Prop := Below B a b ∧ Keep m a b
theorem R.refl (m B : Nat) (a : World) : R m B a a := ⟨Below.refl _ _, Keep.refl m a⟩
theorem R.trans {m B : Nat} {a b c : World} (h : R m B a b) (k : R m B b c) : R m B a c := ⟨h.1.trans k.1, h.2.trans k.2⟩
theorem R.of_below {m B : Nat} {a b : World} (hB : B ≤ a.heap.size) (h : Below a.heap.size a b) : R m B a b := ⟨h.mono hB, Keep.of_below m h⟩

/-- A fact on a value that stays true while each block keeps its cells. -/
structure Pred (m : Nat) where
  p : Value → World → Prop
  mono : ∀ v w w', p v w → Keep m w w' → p v w'
def Pred.is {m : Nat} (u : Value) : Pred m := ⟨fun v _ => v = u, fun _ _ _ h _ => h⟩
def Pred.any {m : Nat} : Pred m := ⟨fun _ _ => True, fun _ _ _ h _ => h⟩
/-- n bytes that show l, and their room. -/
def Pred.row {m : Nat} (n : Nat) (l : List UInt8) : Pred m := ⟨fun v w => ∃ A c, v = .slice A n c ∧ n ≤ c ∧ c ≤ 9223372036854775807 ∧ Sees w A n l, fun _ _ _ ⟨A, c, h, h1, h2, hs⟩ hb => ⟨A, c, h, h1, h2, sees_keep hs hb⟩⟩
def Pred.rows {m : Nat} (n : Nat) (L : List (List UInt8)) : Pred m := ⟨fun v w => ∃ A c, v = .slice A n c ∧ SeesAll w A n L, fun _ _ _ ⟨A, c, h, hs⟩ hb => ⟨A, c, h, seesAll_keep hs hb⟩⟩
/-- A row that has just been laid: a block of the region's own. -/
def Pred.laid {m : Nat} (B : Nat) (C : Array Value) (e : TypeId) : Pred m := ⟨fun v w => ∃ g fr, v = .slice (some ⟨g, 0, none⟩) C.size C.size ∧ B ≤ g ∧ w.heap[g]? = some (.cells C e fr), fun v w w' ⟨g, fr, h, h1, h2⟩ hb => by
  obtain ⟨fr', h', _⟩ := hb g C e fr h2
  exact ⟨g, fr', h, h1, h'⟩⟩
/-- n bytes that the region owns above B: more than may be marked. -/
def Pred.own {m : Nat} (B : Nat) (e : TypeId) (n : Nat) (l : List UInt8) (hm : m < n) : Pred m := ⟨fun v w => ∃ A c, v = .slice A n c ∧ w.ownsRow B e 1 (.slice A n c) n (cs l), fun v w w' ⟨A, c, h, ho⟩ hb => by
  refine ⟨A, c, h, ho.1, ?_⟩
  rcases ho.2 with ⟨hv, hn⟩ | ⟨g, cap, cur, hv, hg, hh, hnc, hcm, hsz, r⟩
  · omega
  · obtain ⟨fr', h', hf⟩ := hb g cur e (0, 0) hh
    rcases hf with rfl | hf
    · exact .inr ⟨g, cap, cur, hv, hg, h', hnc, hcm, hsz, r⟩
    · omega⟩
def holds {m : Nat} (L : List (Pred m)) (i : Nat) (v : Value) (w : World) : Prop := (L.getD i Pred.any).p v w

section
variable {P : Program} {ops : Array Oper} {a0 : Act} {w0 : World} {m B : Nat}

def All {m : Nat} (P : Program) (ops : Array Oper) (a0 : Act) (w0 : World) (B : Nat) (L : List (Pred m)) : Nat → List Oper → Prop
  | _, [] => True
  | k, o :: r => Facts.Step P ops a0 w0 (R m B) (holds L) k o ∧ All P ops a0 w0 B L (k + 1) r
theorem All.step {L : List (Pred m)} : ∀ {l : List Oper} {k : Nat}, All P ops a0 w0 B L k l → ∀ j o, l[j]? = some o → Facts.Step P ops a0 w0 (R m B) (holds L) (k + j) o
  | [], _, _, _, _, h => by simp at h
  | o :: r, k, h, 0, o', ho => by simp at ho; subst ho; exact h.1
  | o :: r, k, h, j + 1, o', ho => by
    have := All.step h.2 j o' (by simpa using ho)
    rw [show k + (j + 1) = k + 1 + j by omega]
    exact this

theorem wp_region_keeps {n : Nat} {l : List Oper} {id : Nat} {w : World} {Q : Exit → Act → World → Prop} (hm : P.follows .mixedOrders = true) (hs : sound n l.toArray = true) (hn : a0.tmps.size = n)
    (B : Nat) (L : List (Pred m)) (hall : All P l.toArray a0 w.drew B L 0 l)
    (hend : ∀ a w', R m B w.drew w' → a.tmps.size = n → a.defers = a0.defers → (∀ i d, (l.toArray[i]?).bind (·.dst) = some d → holds L i (a.tmps.getD d undef) w') →
      (∀ t : Nat, (∀ i : Nat, (l.toArray[i]?).bind (·.dst) ≠ some t) → a.tmps.getD t undef = a0.tmps.getD t undef) → Q .normal a w') :
    (Code.region id l.toArray true).wp P Q a0 w := by
  refine wp_region_any hm ?_
  refine wpAny_facts (R := R m B) (Fact := holds L) (w0 := w.drew) hs hn (fun {a b c} h k => h.trans k) (fun a => R.refl _ _ _) (fun i v w1 w2 h hb => (L.getD i Pred.any).mono v w1 w2 h hb.2)
    (fun j o ho => by have := hall.step j o (by simpa using ho); rwa [Nat.zero_add] at this) (fun a w' hI => ?_) _ _ _ _
    ⟨by simp, rfl, rfl, R.refl _ _ _, ?_, fun _ _ => rfl, ?_⟩ ?_
  · refine hend a w' hI.rel (by rw [hI.size, hn]) hI.defers (fun i d hd => hI.new i d ?_ hd) fun t ht => hI.old t fun i _ => ht i
    have : i < l.toArray.size := by
      rcases Nat.lt_or_ge i l.toArray.size with h' | h'
      · exact h'
      · rw [Array.getElem?_eq_none h'] at hd; cases hd
    simp at this
    simp [this]
  · intro i d hi
    rw [none_listed] at hi
    cases hi
  · intro i o _ hi
    rw [none_listed] at hi
    cases hi
  · have := List.count_le_length (a := false) (l := (Array.replicate l.toArray.size false).toList)
    rw [Array.length_toList, Array.size_replicate] at this
    exact this

/-- An operation that yields one value and leaves the world alone. -/
theorem step_is {L : List (Pred m)} {j : Nat} {o : Oper} (u : Value)
    (h : ∀ (a : Act) (w : World), R m B w0 w → (∀ t, Facts.early ops j t = true → a.tmps.getD t undef = a0.tmps.getD t undef) → (∀ i d, Facts.dep ops j i d = true → holds L i (a.tmps.getD d undef) w) →
      Region.wanted o (yielded ops a.tmps) = true ∧ (execOp a.eval o).run P w = .ok (.value u) w ∧ ∀ w, holds L j u w) : Facts.Step P ops a0 w0 (R m B) (holds L) j o := by
  intro a w hR hold hnew
  obtain ⟨hw, hr, hF⟩ := h a w hR hold hnew
  refine ⟨fun _ K Q hK => ?_, fun hf => by rw [hw] at hf; cases hf⟩
  unfold Oper.wp
  rw [hr]
  exact hK u w (R.refl _ _ _) (hF w)
/-- An operation that yields some value; what it makes, or marks, is the region's own. -/
theorem step_new {L : List (Pred m)} {j : Nat} {o : Oper}
    (h : ∀ (a : Act) (w : World), R m B w0 w → (∀ t, Facts.early ops j t = true → a.tmps.getD t undef = a0.tmps.getD t undef) → (∀ i d, Facts.dep ops j i d = true → holds L i (a.tmps.getD d undef) w) →
      Region.wanted o (yielded ops a.tmps) = true ∧ ∃ u w', (execOp a.eval o).run P w = .ok (.value u) w' ∧ R m B w w' ∧ holds L j u w') : Facts.Step P ops a0 w0 (R m B) (holds L) j o := by
  intro a w hR hold hnew
  obtain ⟨hw, u, w', hr, hb, hF⟩ := h a w hR hold hnew
  refine ⟨fun _ K Q hK => ?_, fun hf => by rw [hw] at hf; cases hf⟩
  unfold Oper.wp
  rw [hr]
  exact hK u w' hb hF
theorem step_some {L : List (Pred m)} {j : Nat} {o : Oper}
    (h : ∀ (a : Act) (w : World), R m B w0 w → (∀ t, Facts.early ops j t = true → a.tmps.getD t undef = a0.tmps.getD t undef) → (∀ i d, Facts.dep ops j i d = true → holds L i (a.tmps.getD d undef) w) →
      Region.wanted o (yielded ops a.tmps) = true ∧ ∃ u, (execOp a.eval o).run P w = .ok (.value u) w ∧ holds L j u w) : Facts.Step P ops a0 w0 (R m B) (holds L) j o :=
  step_new fun a w hR hold hnew => by
    obtain ⟨hw, u, hr, hF⟩ := h a w hR hold hnew
    exact ⟨hw, u, w, hr, R.refl _ _ _, hF⟩
/-- A call, by its contract. -/
theorem step_call {L : List (Pred m)} {j : Nat} {o : Oper} (hB : B ≤ w0.heap.size)
    (h : ∀ (a : Act) (w : World), R m B w0 w → (∀ t, Facts.early ops j t = true → a.tmps.getD t undef = a0.tmps.getD t undef) → (∀ i d, Facts.dep ops j i d = true → holds L i (a.tmps.getD d undef) w) →
      Region.wanted o (yielded ops a.tmps) = true ∧ ∃ f args, (execOp a.eval o).run P w = .ok (.enter f args) w ∧ Calls P f args w fun e w' => ∃ v, e = .returned v ∧ Below w.heap.size w w' ∧ holds L j v w') :
    Facts.Step P ops a0 w0 (R m B) (holds L) j o := by
  intro a w hR hold hnew
  obtain ⟨hw, f, args, hr, hc⟩ := h a w hR hold hnew
  refine ⟨fun _ K Q hK => ?_, fun hf => by rw [hw] at hf; cases hf⟩
  unfold Oper.wp
  rw [hr]
  refine hc.mono ?_
  rintro e w' ⟨v, rfl, hb, hF⟩
  exact hK v w' (R.of_below (Nat.le_trans hB hR.1.size) hb) hF

/-- A row is laid. -/
theorem laid_new {m B : Nat} (w : World) (C : Array Value) (e : TypeId) (hB : B ≤ w.heap.size) : R m B w (w.alloc (.cells C e)) ∧ (Pred.laid (m := m) B C e).p (.slice (some ⟨w.heap.size, 0, none⟩) C.size C.size) (w.alloc (.cells C e)) :=
  ⟨R.of_below hB ((Below.refl _ _).alloc (Nat.le_refl _) _), w.heap.size, (0, 0), rfl, hB, heap_alloc_new w _⟩

/-- '[]byte' of a constant: the row is marked, wherever it stands by now. -/
theorem run_mark {w : World} {t e : TypeId} {B g : Nat} {C : Array Value} {fr : Nat × Nat} (n c : Nat) (ht : P.underlying t = some (.slice e)) (he : P.underlying e = some (.int .u8)) (hg : w.heap[g]? = some (.cells C e fr)) (hB : B ≤ g) (hm : C.size ≤ m) :
    ∃ w', (convert t t (.slice (some ⟨g, 0, none⟩) n c)).run P w = .ok (.slice (some ⟨g, 0, none⟩) n c) w' ∧ R m B w w' := by
  have hsh : w.shape? g = some (e, C.size) := by unfold World.shape?; rw [hg]
  refine ⟨w.freeze ⟨g, C.size, none⟩ 1, ?_, ?_⟩
  · simp [convert, run_underlying ht, run_underlying he, markStringish, hsh]
  · have hlt := (Array.getElem?_eq_some_iff.1 hg).1
    unfold World.freeze
    rw [if_neg (by decide)]
    refine ⟨⟨rfl, rfl, rfl, by simp, fun k hk => ?_⟩, fun k cur e' fr' hk => ?_⟩
    · show (w.heap.modify g _)[k]? = w.heap[k]?
      rw [Array.getElem?_modify, if_neg (by omega)]
    · by_cases h : g = k
      · subst h
        have hcur : cur = C := by rw [hg] at hk; injection hk with hk; injection hk with h1; exact h1.symm
        obtain ⟨lo, hi⟩ := fr'
        refine ⟨if lo == hi then (C.size, C.size + 1) else (min lo C.size, max hi (C.size + 1)), ?_, .inr (by rw [hcur]; exact hm)⟩
        show (w.heap.modify g _)[g]? = _
        rw [Array.getElem?_modify, if_pos rfl, hk]
        rfl
      · refine ⟨fr', ?_, .inl rfl⟩
        show (w.heap.modify g _)[k]? = _
        rw [Array.getElem?_modify, if_neg h]
        exact hk
end
end Go.Proofs.Ytpfmgjfkjjnadaa.Keeps
