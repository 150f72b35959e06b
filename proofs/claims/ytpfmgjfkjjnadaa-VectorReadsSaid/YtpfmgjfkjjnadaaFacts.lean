/- A statement that leaves its order open, whatever the order: one obligation an operation, each with the facts alone on which it waits. No program, no condition: lemmas on regions. -/
import Derived.WalkKit
import Derived.Test.YtpfmgjfkjjnadaaWords
namespace Go.Proofs.Ytpfmgjfkjjnadaa.Facts
open Go Go.RowKit

/-- Operation j waits for operation i, whose temporary is d. -/
def dep (ops : Array Oper) (j i d : Nat) : Bool :=
  ((ops[j]?).map fun o => o.after.any fun e => Region.binds .any e && e.on == i).getD false && ((ops[i]?).bind (·.dst)) == some d
/-- When operation j comes up, no operation of the region has yet written temporary t. -/
def early (ops : Array Oper) (j t : Nat) : Bool :=
  (List.range ops.size).all fun i => ((ops[i]?).bind (·.dst)) != some t || i == j || ((ops[i]?).map fun o => o.after.any fun e => Region.binds .any e && e.on == j).getD false
/-- No two operations write one temporary; each temporary lies in the frame; each operation waits for lower ones alone. -/
def sound (n : Nat) (ops : Array Oper) : Bool :=
  (List.range ops.size).all fun i => (List.range i).all (fun j => match (ops[i]?).bind (·.dst), (ops[j]?).bind (·.dst) with | some d, some d' => d != d' | _, _ => true) &&
    (match (ops[i]?).bind (·.dst) with | some d => decide (d < n) | none => true) &&
    ((ops[i]?).map fun o => o.after.all fun e => !Region.binds .any e || decide (e.on < i)).getD true

section
variable {P : Program} {ops : Array Oper} {a0 : Act} {w0 : World} {R : World → World → Prop} {Fact : Nat → Value → World → Prop}

/-- What is to be shown of operation j. -/
def Step (P : Program) (ops : Array Oper) (a0 : Act) (w0 : World) (R : World → World → Prop) (Fact : Nat → Value → World → Prop) (j : Nat) (o : Oper) : Prop :=
  ∀ (a : Act) (w : World), R w0 w → (∀ t, early ops j t = true → a.tmps.getD t undef = a0.tmps.getD t undef) → (∀ i d, dep ops j i d = true → Fact i (a.tmps.getD d undef) w) →
    (Region.wanted o (yielded ops a.tmps) = true → ∀ (K : Act → World → Prop) (Q : Exit → Act → World → Prop), (∀ v w', R w w' → Fact j v w' → K (a.put o.dst v) w') → o.wp P a w K Q) ∧
    (Region.wanted o (yielded ops a.tmps) = false → Fact j undef w)

structure Inv (ops : Array Oper) (a0 : Act) (w0 : World) (R : World → World → Prop) (Fact : Nat → Value → World → Prop) (listed : Array Bool) (a : Act) (w : World) : Prop where
  len : listed.size = ops.size
  size : a.tmps.size = a0.tmps.size
  defers : a.defers = a0.defers
  rel : R w0 w
  new : ∀ i d, listed.getD i false = true → (ops[i]?).bind (·.dst) = some d → Fact i (a.tmps.getD d undef) w
  old : ∀ t, (∀ i, listed.getD i false = true → (ops[i]?).bind (·.dst) ≠ some t) → a.tmps.getD t undef = a0.tmps.getD t undef
  closed : ∀ i o, ops[i]? = some o → listed.getD i false = true → ∀ e ∈ o.after, Region.binds .any e = true → listed.getD e.on false = true

theorem getD_put_same {a : Act} {d : Nat} {v : Value} (h : d < a.tmps.size) : (a.put (some d) v).tmps.getD d undef = v := by
  simp [Act.put, h]
theorem getD_put_other {a : Act} {d t : Nat} {v : Value} (h : t ≠ d) : (a.put (some d) v).tmps.getD t undef = a.tmps.getD t undef := by
  simp [Act.put, Array.getElem?_setIfInBounds_ne (Ne.symm h)]
theorem size_put (a : Act) (d : Option Nat) (v : Value) : (a.put d v).tmps.size = a.tmps.size := by
  cases d <;> simp [Act.put]
theorem defers_put (a : Act) (d : Option Nat) (v : Value) : (a.put d v).defers = a.defers := by
  cases d <;> simp [Act.put]

theorem sound_dst {n : Nat} (h : sound n ops = true) {i d : Nat} (hi : (ops[i]?).bind (·.dst) = some d) : d < n := by
  have hlt : i < ops.size := by
    rcases Nat.lt_or_ge i ops.size with h' | h'
    · exact h'
    · rw [Array.getElem?_eq_none h'] at hi; cases hi
  simp only [sound, List.all_eq_true, List.mem_range, Bool.and_eq_true] at h
  have := (h i hlt).1.2
  rw [hi] at this
  simpa using this
theorem sound_ne {n : Nat} (h : sound n ops = true) {i j d : Nat} (hi : (ops[i]?).bind (·.dst) = some d) (hj : (ops[j]?).bind (·.dst) = some d) : i = j := by
  have lt : ∀ {k : Nat}, (ops[k]?).bind (·.dst) = some d → k < ops.size := fun {k} hk => by
    rcases Nat.lt_or_ge k ops.size with h' | h'
    · exact h'
    · rw [Array.getElem?_eq_none h'] at hk; cases hk
  simp only [sound, List.all_eq_true, List.mem_range, Bool.and_eq_true] at h
  rcases Nat.lt_trichotomy i j with h' | h' | h'
  · have := (h j (lt hj)).1.1 i h'
    rw [hi, hj] at this
    simp at this
  · exact h'
  · have := (h i (lt hi)).1.1 j h'
    rw [hi, hj] at this
    simp at this
theorem sound_low {n : Nat} (h : sound n ops = true) {i : Nat} {o : Oper} (hi : ops[i]? = some o) {e : Edge} (he : e ∈ o.after) (hb : Region.binds .any e = true) : e.on < i := by
  have hlt : i < ops.size := (Array.getElem?_eq_some_iff.1 hi).1
  simp only [sound, List.all_eq_true, List.mem_range, Bool.and_eq_true] at h
  have := (h i hlt).2
  rw [hi] at this
  simp only [Option.map_some, Option.getD_some, Array.all_eq_true_iff_forall_mem] at this
  have := this e he
  simpa [hb] using this

/-- Where nothing may come up any more, all has come up. -/
theorem all_listed {n : Nat} (h : sound n ops = true) {listed : Array Bool} (hlen : listed.size = ops.size) (hr : Region.ready .any ops listed = []) : ∀ i, i < ops.size → listed.getD i false = true := by
  intro i
  induction i using Nat.strongRecOn with
  | _ i ih =>
    intro hi
    cases hl : listed.getD i false with
    | true => rfl
    | false =>
      exfalso
      have ho : ops[i]? = some ops[i] := Array.getElem?_eq_getElem hi
      have : i ∈ Region.ready .any ops listed := mem_ready.2 ⟨by
        have hi' : i < listed.size := by omega
        simp [hi'] at hl ⊢
        exact hl, _, ho, fun e he hb => ih e.on (sound_low h ho he hb) (by have := sound_low h ho he hb; omega)⟩
      rw [hr] at this
      cases this

theorem wpAny_facts {n : Nat} (hs : sound n ops = true) (hn : a0.tmps.size = n) (trans : ∀ {a b c}, R a b → R b c → R a c) (refl : ∀ a, R a a)
    (mono : ∀ i v w w', Fact i v w → R w w' → Fact i v w')
    (hstep : ∀ j o, ops[j]? = some o → Step P ops a0 w0 R Fact j o)
    {Q : Exit → Act → World → Prop}
    (hend : ∀ a w, Inv ops a0 w0 R Fact (Array.replicate ops.size true) a w → Q .normal a w) :
    ∀ (fuel : Nat) (listed : Array Bool) (a : Act) (w : World), Inv ops a0 w0 R Fact listed a w → listed.toList.count false ≤ fuel → wpAny P .any ops Q fuel listed a w := by
  have fin : ∀ (listed : Array Bool) (a : Act) (w : World), Inv ops a0 w0 R Fact listed a w → (∀ i, i < ops.size → listed.getD i false = true) → Q .normal a w := by
    intro listed a w hI hall
    have : listed = Array.replicate ops.size true := by
      apply Array.ext
      · simp [hI.len]
      · intro i h1 h2
        have := hall i (by rw [← hI.len]; exact h1)
        simpa [h1] using this
    subst this
    exact hend a w hI
  intro fuel
  induction fuel with
  | zero =>
    intro listed a w hI hc
    have hall : ∀ i, i < ops.size → listed.getD i false = true := by
      intro i hi
      have h0 : listed.toList.count false = 0 := by omega
      rw [List.count_eq_zero] at h0
      have hi' : i < listed.size := by rw [hI.len]; exact hi
      cases hb : listed[i] with
      | true => simp [hi', hb]
      | false => exact absurd (by rw [← hb]; simp) h0
    refine ⟨?_, fin listed a w hI hall⟩
    rw [List.eq_nil_iff_forall_not_mem]
    intro j hj
    obtain ⟨h1, o, ho, _⟩ := mem_ready.1 hj
    have hjs : j < ops.size := (Array.getElem?_eq_some_iff.1 ho).1
    have hjl : j < listed.size := by rw [hI.len]; exact hjs
    have := hall j hjs
    simp [hjl] at this h1
    rw [this] at h1
    cases h1
  | succ fuel ih =>
    intro listed a w hI hc
    refine ⟨fun hr => fin listed a w hI (all_listed hs hI.len hr), fun j hj => ?_⟩
    obtain ⟨h1, o, ho, hedge⟩ := mem_ready.1 hj
    have hjs : j < ops.size := (Array.getElem?_eq_some_iff.1 ho).1
    have hjl : j < listed.size := by rw [hI.len]; exact hjs
    have hjf : listed[j] = false := by simpa [hjl] using h1
    have hjn : listed.getD j false = false := by simp [hjl, hjf]
    have early_ok : ∀ t, early ops j t = true → a.tmps.getD t undef = a0.tmps.getD t undef := by
      intro t ht
      refine hI.old t fun i hi hd => ?_
      have his : i < ops.size := by
        rcases Nat.lt_or_ge i ops.size with h' | h'
        · exact h'
        · rw [Array.getElem?_eq_none h'] at hd; cases hd
      simp only [early, List.all_eq_true, List.mem_range] at ht
      have := ht i his
      rw [hd] at this
      simp only [bne_self_eq_false, Bool.false_or, Bool.or_eq_true, beq_iff_eq] at this
      rcases this with rfl | this
      · rw [hjn] at hi; cases hi
      · rw [Array.getElem?_eq_getElem his] at this
        simp only [Option.map_some, Option.getD_some] at this
        obtain ⟨e, he, hb⟩ := Array.any_eq_true'.1 this
        simp only [Bool.and_eq_true, beq_iff_eq] at hb
        have := hI.closed i _ (Array.getElem?_eq_getElem his) hi e he hb.1
        rw [hb.2, hjn] at this
        cases this
    have dep_ok : ∀ i d, dep ops j i d = true → Fact i (a.tmps.getD d undef) w := by
      intro i d hd
      simp only [dep, ho, Option.map_some, Option.getD_some, Bool.and_eq_true, beq_iff_eq] at hd
      obtain ⟨e, he, hb⟩ := Array.any_eq_true'.1 hd.1
      simp only [Bool.and_eq_true, beq_iff_eq] at hb
      exact hI.new i d (by rw [← hb.2]; exact hedge e he hb.1) hd.2
    obtain ⟨s1, s2⟩ := hstep j o ho a w hI.rel early_ok dep_ok
    have next : ∀ v w', R w w' → Fact j v w' → wpAny P .any ops Q fuel (listed.setIfInBounds j true) (a.put o.dst v) w' := by
      intro v w' hR hF
      have hlist : ∀ i, (listed.setIfInBounds j true).getD i false = true ↔ i = j ∨ listed.getD i false = true := by
        intro i
        by_cases hij : i = j
        · subst hij; simp [hjl]
        · rw [getD_set_ne false (Ne.symm hij)]; simp [hij]
      refine ih _ _ _ ⟨by simp [hI.len], by rw [size_put]; exact hI.size, by rw [defers_put]; exact hI.defers, trans hI.rel hR, ?_, ?_, ?_⟩ ?_
      · intro i d hi hd
        rcases (hlist i).1 hi with rfl | hi'
        · rw [ho] at hd
          have hd' : o.dst = some d := hd
          rw [hd', getD_put_same (by rw [hI.size, hn]; exact sound_dst hs (by rw [ho]; exact hd))]
          exact hF
        · have hne : ∀ d', o.dst = some d' → d ≠ d' := by
            rintro d' hd' rfl
            have : i = j := sound_ne hs hd (by rw [ho]; exact hd')
            subst this
            rw [hjn] at hi'; cases hi'
          have keep : (a.put o.dst v).tmps.getD d undef = a.tmps.getD d undef := by
            cases hod : o.dst with
            | none => rfl
            | some d' => exact getD_put_other (hne d' hod)
          rw [keep]
          exact mono i _ w w' (hI.new i d hi' hd) hR
      · intro t ht
        have hne : ∀ d', o.dst = some d' → t ≠ d' := by
          rintro d' hd' rfl
          exact ht j ((hlist j).2 (.inl rfl)) (by rw [ho]; exact hd')
        have keep : (a.put o.dst v).tmps.getD t undef = a.tmps.getD t undef := by
          cases hod : o.dst with
          | none => rfl
          | some d' => exact getD_put_other (hne d' hod)
        rw [keep]
        exact hI.old t fun i hi => ht i ((hlist i).2 (.inr hi))
      · intro i o' ho' hi e he hb
        rcases (hlist i).1 hi with rfl | hi'
        · rw [ho] at ho'
          injection ho' with ho'
          subst ho'
          exact (hlist _).2 (.inr (hedge e he hb))
        · exact (hlist _).2 (.inr (hI.closed i o' ho' hi' e he hb))
      · have hjl' : j < listed.toList.length := by simpa using hjl
        have hcs := List.count_set (a := true) (b := false) hjl'
        have hset : (listed.setIfInBounds j true).toList = listed.toList.set j true := by simp
        rw [hset, hcs]
        have hpos : 0 < listed.toList.count false := by
          rw [List.count_pos_iff]
          exact List.mem_iff_getElem.2 ⟨j, hjl', by simpa using hjf⟩
        have e : listed.toList[j] = false := by simpa using hjf
        rw [e, if_pos (show (false == false) = true from rfl), if_neg (show ¬ (true == false) = true by decide)]
        omega
    unfold wpOp
    simp only [ho]
    split
    · rename_i hw
      exact .inl (s1 hw _ _ next)
    · rename_i hw
      exact next undef w (refl w) (s2 (by simpa using hw))

theorem none_listed (n i : Nat) : (Array.replicate n false).getD i false = false := by
  rw [Array.getD_eq_getD_getElem?, Array.getElem?_replicate]
  split <;> rfl
/-- A region that draws its order. -/
theorem wp_region_facts {n : Nat} {l : List Oper} {id : Nat} {w : World} {Q : Exit → Act → World → Prop} (hm : P.follows .mixedOrders = true) (hs : sound n l.toArray = true) (hn : a0.tmps.size = n)
    (Fact : Nat → Value → World → Prop) (mono : ∀ i v w1 w2, Fact i v w1 → Below w1.heap.size w1 w2 → Fact i v w2)
    (hstep : ∀ j o, l.toArray[j]? = some o → Step P l.toArray a0 w.drew (fun a b => Below a.heap.size a b) Fact j o)
    (hend : ∀ a w', Below w.drew.heap.size w.drew w' → a.tmps.size = n → a.defers = a0.defers → (∀ i d, (l.toArray[i]?).bind (·.dst) = some d → Fact i (a.tmps.getD d undef) w') →
      (∀ t : Nat, (∀ i : Nat, (l.toArray[i]?).bind (·.dst) ≠ some t) → a.tmps.getD t undef = a0.tmps.getD t undef) → Q .normal a w') :
    (Code.region id l.toArray true).wp P Q a0 w := by
  refine wp_region_any hm ?_
  refine wpAny_facts (R := fun a b => Below a.heap.size a b) (Fact := Fact) (w0 := w.drew) hs hn (fun {a b c} h k => h.trans (k.mono h.size)) (fun a => Below.refl _ _) mono hstep (fun a w' hI => ?_) _ _ _ _
    ⟨by simp, rfl, rfl, Below.refl _ _, ?_, fun _ _ => rfl, ?_⟩ ?_
  · refine hend a w' hI.rel (by rw [hI.size, hn]) hI.defers (fun i d hd => hI.new i d ?_ hd) fun t ht => hI.old t fun i _ => ht i
    have : i < l.toArray.size := by
      rcases Nat.lt_or_ge i l.toArray.size with h' | h'
      · exact h'
      · rw [Array.getElem?_eq_none h'] at hd; cases hd
    simp at this
    simp [this]
  · intro i d hi
    rw [none_listed] at hi
    cases hi
  · intro i o _ hi
    rw [none_listed] at hi
    cases hi
  · have := List.count_le_length (a := false) (l := (Array.replicate l.toArray.size false).toList)
    rw [Array.length_toList, Array.size_replicate] at this
    exact this

/-- A fact on a value that stays true while memory grows. -/
structure Pred where
  p : Value → World → Prop
  mono : ∀ v w w', p v w → Below w.heap.size w w' → p v w'
/-- The value is this one. -/
def Pred.is (u : Value) : Pred := ⟨fun v _ => v = u, fun _ _ _ h _ => h⟩
/-- The value is a slice of n bytes that shows l. -/
def Pred.shows (n : Nat) (l : List UInt8) : Pred := ⟨fun v w => ∃ A c, v = .slice A n c ∧ Words.Sees w A n l, fun _ _ _ ⟨A, c, h, hs⟩ hb => ⟨A, c, h, hs.below hb⟩⟩
def Pred.any : Pred := ⟨fun _ _ => True, fun _ _ _ h _ => h⟩
def holds (L : List Pred) (i : Nat) (v : Value) (w : World) : Prop := (L.getD i Pred.any).p v w

/-- One obligation for each operation. -/
def All (P : Program) (ops : Array Oper) (a0 : Act) (w0 : World) (L : List Pred) : Nat → List Oper → Prop
  | _, [] => True
  | k, o :: r => Step P ops a0 w0 (fun a b => Below a.heap.size a b) (holds L) k o ∧ All P ops a0 w0 L (k + 1) r
theorem All.step {L : List Pred} : ∀ {l : List Oper} {k : Nat}, All P ops a0 w0 L k l → ∀ j o, l[j]? = some o → Step P ops a0 w0 (fun a b => Below a.heap.size a b) (holds L) (k + j) o
  | [], _, _, _, _, h => by simp at h
  | o :: r, k, h, 0, o', ho => by simp at ho; subst ho; exact h.1
  | o :: r, k, h, j + 1, o', ho => by
    have := All.step h.2 j o' (by simpa using ho)
    rw [show k + (j + 1) = k + 1 + j by omega]
    exact this

theorem wp_region_preds {n : Nat} {l : List Oper} {id : Nat} {w : World} {Q : Exit → Act → World → Prop} (hm : P.follows .mixedOrders = true) (hs : sound n l.toArray = true) (hn : a0.tmps.size = n)
    (L : List Pred) (hall : All P l.toArray a0 w.drew L 0 l)
    (hend : ∀ a w', Below w.drew.heap.size w.drew w' → a.tmps.size = n → a.defers = a0.defers → (∀ i d, (l.toArray[i]?).bind (·.dst) = some d → holds L i (a.tmps.getD d undef) w') →
      (∀ t : Nat, (∀ i : Nat, (l.toArray[i]?).bind (·.dst) ≠ some t) → a.tmps.getD t undef = a0.tmps.getD t undef) → Q .normal a w') :
    (Code.region id l.toArray true).wp P Q a0 w :=
  wp_region_facts hm hs hn (holds L) (fun i v w1 w2 h hb => (L.getD i Pred.any).mono v w1 w2 h hb)
    (fun j o ho => by have := hall.step j o (by simpa using ho); rwa [Nat.zero_add] at this) hend

theorem wanted_free {o : Oper} {y : Nat → Option Bool} (h : o.guard = none) : Region.wanted o y = true := by simp [Region.wanted, h]
theorem wanted_by {o : Oper} {a : Act} {g d : Nat} {b : Bool} (h : o.guard = some (g, b)) (hd : (ops[g]?).bind (·.dst) = some d) (hv : a.tmps.getD d undef = .bool b) : Region.wanted o (yielded ops a.tmps) = true := by
  have hlt : d < a.tmps.size := by
    rcases Nat.lt_or_ge d a.tmps.size with h' | h'
    · exact h'
    · rw [Array.getD_eq_getD_getElem?, Array.getElem?_eq_none h'] at hv
      cases hv
  have hy : yielded ops a.tmps g = some b := by
    unfold yielded
    rw [hd]
    simp only [Option.bind_some]
    rw [Array.getD_eq_getD_getElem?, Array.getElem?_eq_getElem hlt] at hv
    rw [Array.getElem?_eq_getElem hlt]
    simp only [Option.getD_some] at hv
    rw [hv]
  simp [Region.wanted, h, hy]
/-- An operation that yields one value and leaves the world alone. -/
theorem step_is {L : List Pred} {j : Nat} {o : Oper} (u : Value)
    (h : ∀ (a : Act) (w : World), Below w0.heap.size w0 w → (∀ t, early ops j t = true → a.tmps.getD t undef = a0.tmps.getD t undef) → (∀ i d, dep ops j i d = true → holds L i (a.tmps.getD d undef) w) →
      Region.wanted o (yielded ops a.tmps) = true ∧ (execOp a.eval o).run P w = .ok (.value u) w ∧ ∀ w, holds L j u w) : Step P ops a0 w0 (fun a b => Below a.heap.size a b) (holds L) j o := by
  intro a w hR hold hnew
  obtain ⟨hw, hr, hF⟩ := h a w hR hold hnew
  refine ⟨fun _ K Q hK => ?_, fun hf => by rw [hw] at hf; cases hf⟩
  unfold Oper.wp
  rw [hr]
  exact hK u w (Below.refl _ _) (hF w)
/-- An operation that yields some value and leaves the world alone. -/
theorem step_some {L : List Pred} {j : Nat} {o : Oper}
    (h : ∀ (a : Act) (w : World), Below w0.heap.size w0 w → (∀ t, early ops j t = true → a.tmps.getD t undef = a0.tmps.getD t undef) → (∀ i d, dep ops j i d = true → holds L i (a.tmps.getD d undef) w) →
      Region.wanted o (yielded ops a.tmps) = true ∧ ∃ u, (execOp a.eval o).run P w = .ok (.value u) w ∧ holds L j u w) : Step P ops a0 w0 (fun a b => Below a.heap.size a b) (holds L) j o := by
  intro a w hR hold hnew
  obtain ⟨hw, u, hr, hF⟩ := h a w hR hold hnew
  refine ⟨fun _ K Q hK => ?_, fun hf => by rw [hw] at hf; cases hf⟩
  unfold Oper.wp
  rw [hr]
  exact hK u w (Below.refl _ _) hF
/-- An operation that makes memory. -/
theorem step_new {L : List Pred} {j : Nat} {o : Oper}
    (h : ∀ (a : Act) (w : World), Below w0.heap.size w0 w → (∀ t, early ops j t = true → a.tmps.getD t undef = a0.tmps.getD t undef) → (∀ i d, dep ops j i d = true → holds L i (a.tmps.getD d undef) w) →
      Region.wanted o (yielded ops a.tmps) = true ∧ ∃ u w', (execOp a.eval o).run P w = .ok (.value u) w' ∧ Below w.heap.size w w' ∧ holds L j u w') : Step P ops a0 w0 (fun a b => Below a.heap.size a b) (holds L) j o := by
  intro a w hR hold hnew
  obtain ⟨hw, u, w', hr, hb, hF⟩ := h a w hR hold hnew
  refine ⟨fun _ K Q hK => ?_, fun hf => by rw [hw] at hf; cases hf⟩
  unfold Oper.wp
  rw [hr]
  exact hK u w' hb hF
/-- A call, by its contract. -/
theorem step_call {L : List Pred} {j : Nat} {o : Oper}
    (h : ∀ (a : Act) (w : World), Below w0.heap.size w0 w → (∀ t, early ops j t = true → a.tmps.getD t undef = a0.tmps.getD t undef) → (∀ i d, dep ops j i d = true → holds L i (a.tmps.getD d undef) w) →
      Region.wanted o (yielded ops a.tmps) = true ∧ ∃ f args, (execOp a.eval o).run P w = .ok (.enter f args) w ∧ Calls P f args w fun e w' => ∃ v, e = .returned v ∧ Below w.heap.size w w' ∧ holds L j v w') :
    Step P ops a0 w0 (fun a b => Below a.heap.size a b) (holds L) j o := by
  intro a w hR hold hnew
  obtain ⟨hw, f, args, hr, hc⟩ := h a w hR hold hnew
  refine ⟨fun _ K Q hK => ?_, fun hf => by rw [hw] at hf; cases hf⟩
  unfold Oper.wp
  rw [hr]
  refine hc.mono ?_
  rintro e w' ⟨v, rfl, hb, hF⟩
  exact hK v w' hb hF
end
end Go.Proofs.Ytpfmgjfkjjnadaa.Facts
