/- Texts of the law ReplicaNil, put together. -/
import Derived.Lib.SlBytesConst
import Derived.StillTail
import Derived.Laws.Tables
import Derived.Laws.Rows
import Derived.Lib.AppendZeros
import Derived.Lib.Hide
import Derived.Deep.QuietTactic
import Derived.BigQuiet
import Derived.Test.YtinjbdgjcadodaaGreatDoorRows
import Derived.Handy
import Derived.LaidMore
import Derived.Lib.LaidTab
import Derived.Lib.SmallJoins
import Derived.Defers
import Derived.Recover
import Derived.Test.YtinjbdgjcadodaaGreatDoorRNp01
set_option linter.unusedVariables false
set_option linter.unusedSimpArgs false
set_option maxRecDepth 100000
namespace Go.Proofs.YtinjbdgjcadodaaGreatDoor.Keeps
open Go Go.RowKit Go.Proofs.YtinjbdgjcadodaaGreatDoor.Facts Words
def Keep (m : Nat) (a b : World) : Prop := ∀ (k : Nat) (cur : Array Value) (e : TypeId) (fr : Nat × Nat), a.heap[k]? = some (.cells cur e fr) → ∃ fr', b.heap[k]? = some (.cells cur e fr') ∧ (fr' = fr ∨ cur.size ≤ m)
theorem Keep.refl (m : Nat) (a : World) : Keep m a a := fun k cur e fr h => ⟨fr, h, .inl rfl⟩
theorem Keep.trans {m : Nat} {a b c : World} (h : Keep m a b) (k : Keep m b c) : Keep m a c := fun i cur e fr hi => by
 obtain ⟨fr', h', h1⟩ := h i cur e fr hi
 obtain ⟨fr2, h2, h3⟩ := k i cur e fr' h'
 refine ⟨fr2, h2, ?_⟩
 rcases h1 with rfl | h1
 ·exact h3
 ·exact .inr h1
theorem Keep.of_below (m : Nat) {a b : World} (h : Below a.heap.size a b) : Keep m a b := fun k cur e fr hk => ⟨fr, (h.block k (Array.getElem?_eq_some_iff.1 hk).1).trans hk, .inl rfl⟩
theorem Keep.cell {m : Nat} {a b : World} (h : Keep m a b) {p : Addr} {v : Value} (hc : a.cell? p = some v) : b.cell? p = some v := by
 unfold World.cell? at hc ⊢
 split at hc
 ·rename_i c e fr hk
  obtain ⟨fr', h', _⟩ := h p.block c e fr hk
  rw [h']
  exact hc
 ·cases hc
theorem sees_keep {w w' : World} {A : Option Addr} {n : Nat} {l : List UInt8} (h : Sees w A n l) {mk : Nat} (hb : Keep mk w w') : Sees w' A n l := by
 refine ⟨h.1, fun hn => ?_⟩
 obtain ⟨b, o, hA, hc⟩ := h.2 hn
 exact ⟨b, o, hA, fun j u hu => hb.cell (hc j u hu)⟩
theorem each_keep {w w' : World} {vs : List Value} {L : List (List UInt8)} (h : Each w vs L) {mk : Nat} (hb : Keep mk w w') : Each w' vs L :=
 ⟨h.1, fun j l hl => by
  obtain ⟨A, c, h1, h2, h3⟩ := h.2 j l hl
  exact ⟨A, c, h1, h2, sees_keep h3 hb⟩⟩
theorem seesAll_keep {w w' : World} {A : Option Addr} {n : Nat} {L : List (List UInt8)} (h : SeesAll w A n L) {mk : Nat} (hb : Keep mk w w') : SeesAll w' A n L := by
 obtain ⟨vs, h1, h2, h3⟩ := h
 refine ⟨vs, each_keep h1 hb, h2, fun hn => ?_⟩
 obtain ⟨b, o, h4, h5⟩ := h3 hn
 exact ⟨b, o, h4, fun j v hv => hb.cell (h5 j v hv)⟩
def R (m B : Nat) (a b : World) : Prop := Below B a b ∧ Keep m a b
theorem R.refl (m B : Nat) (a : World) : R m B a a := ⟨Below.refl _ _, Keep.refl m a⟩
theorem R.trans {m B : Nat} {a b c : World} (h : R m B a b) (k : R m B b c) : R m B a c := ⟨h.1.trans k.1, h.2.trans k.2⟩
theorem R.of_below {m B : Nat} {a b : World} (hB : B ≤ a.heap.size) (h : Below a.heap.size a b) : R m B a b := ⟨h.mono hB, Keep.of_below m h⟩
structure Pred (m : Nat) where
 p : Value → World → Prop
 mono : ∀ v w w', p v w → Keep m w w' → p v w'
def Pred.is {m : Nat} (u : Value) : Pred m := ⟨fun v _ => v = u, fun _ _ _ h _ => h⟩
def Pred.any {m : Nat} : Pred m := ⟨fun _ _ => True, fun _ _ _ h _ => h⟩
def Pred.row {m : Nat} (n : Nat) (l : List UInt8) : Pred m := ⟨fun v w => ∃ A c, v = .slice A n c ∧ n ≤ c ∧ c ≤ 9223372036854775807 ∧ Sees w A n l, fun _ _ _ ⟨A, c, h, h1, h2, hs⟩ hb => ⟨A, c, h, h1, h2, sees_keep hs hb⟩⟩
def Pred.rows {m : Nat} (n : Nat) (L : List (List UInt8)) : Pred m := ⟨fun v w => ∃ A c, v = .slice A n c ∧ SeesAll w A n L, fun _ _ _ ⟨A, c, h, hs⟩ hb => ⟨A, c, h, seesAll_keep hs hb⟩⟩
def Pred.laid {m : Nat} (B : Nat) (C : Array Value) (e : TypeId) : Pred m := ⟨fun v w => ∃ g fr, v = .slice (some ⟨g, 0, none⟩) C.size C.size ∧ B ≤ g ∧ w.heap[g]? = some (.cells C e fr), fun v w w' ⟨g, fr, h, h1, h2⟩ hb => by
 obtain ⟨fr', h', _⟩ := hb g C e fr h2
 exact ⟨g, fr', h, h1, h'⟩⟩
def Pred.own {m : Nat} (B : Nat) (e : TypeId) (n : Nat) (l : List UInt8) (hm : m < n) : Pred m := ⟨fun v w => ∃ A c, v = .slice A n c ∧ w.ownsRow B e 1 (.slice A n c) n (cs l), fun v w w' ⟨A, c, h, ho⟩ hb => by
 refine ⟨A, c, h, ho.1, ?_⟩
 rcases ho.2 with ⟨hv, hn⟩ | ⟨g, cap, cur, hv, hg, hh, hnc, hcm, hsz, r⟩
 ·omega
 ·obtain ⟨fr', h', hf⟩ := hb g cur e (0, 0) hh
  rcases hf with rfl | hf
  ·exact .inr ⟨g, cap, cur, hv, hg, h', hnc, hcm, hsz, r⟩
  ·omega⟩
def holds {m : Nat} (L : List (Pred m)) (i : Nat) (v : Value) (w : World) : Prop := (L.getD i Pred.any).p v w
section
variable {P : Program} {ops : Array Oper} {a0 : Act} {w0 : World} {m B : Nat}
def All {m : Nat} (P : Program) (ops : Array Oper) (a0 : Act) (w0 : World) (B : Nat) (L : List (Pred m)) : Nat → List Oper → Prop
 | _, [] => True
 | k, o :: r => Facts.Step P ops a0 w0 (R m B) (holds L) k o ∧ All P ops a0 w0 B L (k + 1) r
theorem All.step {L : List (Pred m)} : ∀ {l : List Oper} {k : Nat}, All P ops a0 w0 B L k l → ∀ j o, l[j]? = some o → Facts.Step P ops a0 w0 (R m B) (holds L) (k + j) o
 | [], _, _, _, _, h => by simp at h
 | o :: r, k, h, 0, o', ho => by simp at ho; subst ho; exact h.1
 | o :: r, k, h, j + 1, o', ho => by
   have := All.step h.2 j o' (by simpa using ho)
   rw [show k + (j + 1) = k + 1 + j by omega]
   exact this
theorem wp_region_keeps {n : Nat} {l : List Oper} {id : Nat} {w : World} {Q : Exit → Act → World → Prop} (hm : P.follows .mixedOrders = true) (hs : sound n l.toArray = true) (hn : a0.tmps.size = n)
  (B : Nat) (L : List (Pred m)) (hall : All P l.toArray a0 w.drew B L 0 l)
  (hend : ∀ a w', R m B w.drew w' → a.tmps.size = n → a.defers = a0.defers → (∀ i d, (l.toArray[i]?).bind (·.dst) = some d → holds L i (a.tmps.getD d undef) w') →
   (∀ t : Nat, (∀ i : Nat, (l.toArray[i]?).bind (·.dst) ≠ some t) → a.tmps.getD t undef = a0.tmps.getD t undef) → Q .normal a w') :
  (Code.region id l.toArray true).wp P Q a0 w := by
 refine wp_region_any hm ?_
 refine wpAny_facts (R := R m B) (Fact := holds L) (w0 := w.drew) hs hn (fun {a b c} h k => h.trans k) (fun a => R.refl _ _ _) (fun i v w1 w2 h hb => (L.getD i Pred.any).mono v w1 w2 h hb.2)
  (fun j o ho => by have := hall.step j o (by simpa using ho); rwa [Nat.zero_add] at this) (fun a w' hI => ?_) _ _ _ _
  ⟨by simp, rfl, rfl, R.refl _ _ _, ?_, fun _ _ => rfl, ?_⟩ ?_
 ·refine hend a w' hI.rel (by rw [hI.size, hn]) hI.defers (fun i d hd => hI.new i d ?_ hd) fun t ht => hI.old t fun i _ => ht i
  have : i < l.toArray.size := by
   rcases Nat.lt_or_ge i l.toArray.size with h' | h'
   ·exact h'
   ·rw [Array.getElem?_eq_none h'] at hd; cases hd
  simp at this
  simp [this]
 ·intro i d hi
  rw [none_listed] at hi
  cases hi
 ·intro i o _ hi
  rw [none_listed] at hi
  cases hi
 ·have := List.count_le_length (a := false) (l := (Array.replicate l.toArray.size false).toList)
  rw [Array.length_toList, Array.size_replicate] at this
  exact this
theorem step_is {L : List (Pred m)} {j : Nat} {o : Oper} (u : Value)
  (h : ∀ (a : Act) (w : World), R m B w0 w → (∀ t, Facts.early ops j t = true → a.tmps.getD t undef = a0.tmps.getD t undef) → (∀ i d, Facts.dep ops j i d = true → holds L i (a.tmps.getD d undef) w) →
   Region.wanted o (yielded ops a.tmps) = true ∧ (execOp a.eval o).run P w = .ok (.value u) w ∧ ∀ w, holds L j u w) : Facts.Step P ops a0 w0 (R m B) (holds L) j o := by
 intro a w hR hold hnew
 obtain ⟨hw, hr, hF⟩ := h a w hR hold hnew
 refine ⟨fun _ K Q hK => ?_, fun hf => by rw [hw] at hf; cases hf⟩
 unfold Oper.wp
 rw [hr]
 exact hK u w (R.refl _ _ _) (hF w)
theorem step_new {L : List (Pred m)} {j : Nat} {o : Oper}
  (h : ∀ (a : Act) (w : World), R m B w0 w → (∀ t, Facts.early ops j t = true → a.tmps.getD t undef = a0.tmps.getD t undef) → (∀ i d, Facts.dep ops j i d = true → holds L i (a.tmps.getD d undef) w) →
   Region.wanted o (yielded ops a.tmps) = true ∧ ∃ u w', (execOp a.eval o).run P w = .ok (.value u) w' ∧ R m B w w' ∧ holds L j u w') : Facts.Step P ops a0 w0 (R m B) (holds L) j o := by
 intro a w hR hold hnew
 obtain ⟨hw, u, w', hr, hb, hF⟩ := h a w hR hold hnew
 refine ⟨fun _ K Q hK => ?_, fun hf => by rw [hw] at hf; cases hf⟩
 unfold Oper.wp
 rw [hr]
 exact hK u w' hb hF
theorem step_some {L : List (Pred m)} {j : Nat} {o : Oper}
  (h : ∀ (a : Act) (w : World), R m B w0 w → (∀ t, Facts.early ops j t = true → a.tmps.getD t undef = a0.tmps.getD t undef) → (∀ i d, Facts.dep ops j i d = true → holds L i (a.tmps.getD d undef) w) →
   Region.wanted o (yielded ops a.tmps) = true ∧ ∃ u, (execOp a.eval o).run P w = .ok (.value u) w ∧ holds L j u w) : Facts.Step P ops a0 w0 (R m B) (holds L) j o :=
 step_new fun a w hR hold hnew => by
  obtain ⟨hw, u, hr, hF⟩ := h a w hR hold hnew
  exact ⟨hw, u, w, hr, R.refl _ _ _, hF⟩
theorem step_call {L : List (Pred m)} {j : Nat} {o : Oper} (hB : B ≤ w0.heap.size)
  (h : ∀ (a : Act) (w : World), R m B w0 w → (∀ t, Facts.early ops j t = true → a.tmps.getD t undef = a0.tmps.getD t undef) → (∀ i d, Facts.dep ops j i d = true → holds L i (a.tmps.getD d undef) w) →
   Region.wanted o (yielded ops a.tmps) = true ∧ ∃ f args, (execOp a.eval o).run P w = .ok (.enter f args) w ∧ Calls P f args w fun e w' => ∃ v, e = .returned v ∧ Below w.heap.size w w' ∧ holds L j v w') :
  Facts.Step P ops a0 w0 (R m B) (holds L) j o := by
 intro a w hR hold hnew
 obtain ⟨hw, f, args, hr, hc⟩ := h a w hR hold hnew
 refine ⟨fun _ K Q hK => ?_, fun hf => by rw [hw] at hf; cases hf⟩
 unfold Oper.wp
 rw [hr]
 refine hc.mono ?_
 rintro e w' ⟨v, rfl, hb, hF⟩
 exact hK v w' (R.of_below (Nat.le_trans hB hR.1.size) hb) hF
theorem laid_new {m B : Nat} (w : World) (C : Array Value) (e : TypeId) (hB : B ≤ w.heap.size) : R m B w (w.alloc (.cells C e)) ∧ (Pred.laid (m := m) B C e).p (.slice (some ⟨w.heap.size, 0, none⟩) C.size C.size) (w.alloc (.cells C e)) :=
 ⟨R.of_below hB ((Below.refl _ _).alloc (Nat.le_refl _) _), w.heap.size, (0, 0), rfl, hB, heap_alloc_new w _⟩
theorem run_mark {w : World} {t e : TypeId} {B g : Nat} {C : Array Value} {fr : Nat × Nat} (n c : Nat) (ht : P.underlying t = some (.slice e)) (he : P.underlying e = some (.int .u8)) (hg : w.heap[g]? = some (.cells C e fr)) (hB : B ≤ g) (hm : C.size ≤ m) :
  ∃ w', (convert t t (.slice (some ⟨g, 0, none⟩) n c)).run P w = .ok (.slice (some ⟨g, 0, none⟩) n c) w' ∧ R m B w w' := by
 have hsh : w.shape? g = some (e, C.size) := by unfold World.shape?; rw [hg]
 refine ⟨w.freeze ⟨g, C.size, none⟩ 1, ?_, ?_⟩
 ·simp [convert, run_underlying ht, run_underlying he, markStringish, hsh]
 ·have hlt := (Array.getElem?_eq_some_iff.1 hg).1
  unfold World.freeze
  rw [if_neg (by decide)]
  refine ⟨⟨rfl, rfl, rfl, by simp, fun k hk => ?_⟩, fun k cur e' fr' hk => ?_⟩
  ·show (w.heap.modify g _)[k]? = w.heap[k]?
   rw [Array.getElem?_modify, if_neg (by omega)]
  ·by_cases h : g = k
   ·subst h
    have hcur : cur = C := by rw [hg] at hk; injection hk with hk; injection hk with h1; exact h1.symm
    obtain ⟨lo, hi⟩ := fr'
    refine ⟨if lo == hi then (C.size, C.size + 1) else (min lo C.size, max hi (C.size + 1)), ?_, .inr (by rw [hcur]; exact hm)⟩
    show (w.heap.modify g _)[g]? = _
    rw [Array.getElem?_modify, if_pos rfl, hk]
    rfl
   ·refine ⟨fr', ?_, .inl rfl⟩
    show (w.heap.modify g _)[k]? = _
    rw [Array.getElem?_modify, if_neg h]
    exact hk
end
end Go.Proofs.YtinjbdgjcadodaaGreatDoor.Keeps
namespace Go.Proofs.YtinjbdgjcadodaaGreatDoor.Facts
open Go Go.RowKit
def tailed (N : Nat) (ops : Array Oper) : Bool :=
 decide (N < ops.size) && Region.sinkB .any ops N && Region.chainB .any ops N && Region.seqB .any ops (ops.size - N) N (List.replicate N true ++ List.replicate (ops.size - N) false).toArray
section
variable {P : Program} {ops : Array Oper} {a0 : Act} {w0 : World} {R : World → World → Prop} {Fact : Nat → Value → World → Prop}
theorem wpAny_tail {n N : Nat} {l : List Oper} (hl : ∀ j, l[j]? = ops[N + j]?) (hll : l.length = ops.size - N) (hs : sound n ops = true) (ht : tailed N ops = true) (hn : a0.tmps.size = n) (trans : ∀ {a b c}, R a b → R b c → R a c) (refl : ∀ a, R a a)
  (mono : ∀ i v w w', Fact i v w → R w w' → Fact i v w')
  (hstep : ∀ j o, j < N → ops[j]? = some o → Step P ops a0 w0 R Fact j o)
  {Q : Exit → Act → World → Prop}
  (hend : ∀ listed a w, (∀ i, i < N → listed.getD i false = true) → (∀ t, N ≤ t → listed.getD t false = false) → Inv ops a0 w0 R Fact listed a w → wpList P ops Q l a w) :
  ∀ (fuel : Nat) (listed : Array Bool) (a : Act) (w : World), Inv ops a0 w0 R Fact listed a w → (∀ t, N ≤ t → listed.getD t false = false) → listed.toList.count false = fuel → wpAny P .any ops Q fuel listed a w := by
 simp only [tailed, Bool.and_eq_true, decide_eq_true_eq] at ht
 obtain ⟨⟨⟨hN, hsink⟩, hchain⟩, hseq⟩ := ht
 intro fuel
 induction fuel with
 | zero =>
   intro listed a w hI htl hc
   exfalso
   have h0 := htl N (Nat.le_refl _)
   have hlt : N < listed.size := by rw [hI.len]; exact hN
   rw [List.count_eq_zero] at hc
   have : listed[N] = false := by simpa [hlt] using h0
   exact hc (by rw [← this]; simp)
 | succ fuel ih =>
   intro listed a w hI htl hc
   by_cases hall : ∀ i, i < N → listed.getD i false = true
   ·have hlst : listed = (List.replicate N true ++ List.replicate (ops.size - N) false).toArray := by
     apply Array.ext
     ·simp [hI.len]; omega
     ·intro i h1 h2
      by_cases hi : i < N
      ·have := hall i hi
       simp [h1] at this
       rw [this]
       simp [List.getElem_append, hi]
      ·have := htl i (by omega)
       simp [h1] at this
       rw [this]
       simp [List.getElem_append, hi]
    have hfu : fuel + 1 = l.length := by
     rw [← hc, hlst]
     simp [List.count_append, List.count_replicate, hll]
    rw [hfu]
    refine wpAny_of_seq l N listed a w hl ?_ (hend listed a w hall htl hI)
    rw [hll, hlst]
    exact hseq
   ·have hex : ∃ i, i < N ∧ listed.getD i false = false := by
     apply Classical.byContradiction
     intro hno
     exact hall fun i hi => by
      cases hb : listed.getD i false with
      | true => rfl
      | false => exact absurd ⟨i, hi, hb⟩ hno
    obtain ⟨i0, hi0, hu0⟩ := hex
    have hi0s : i0 < listed.size := by rw [hI.len]; omega
    have hinv : HeadInv .any ops N listed := ⟨hI.len, fun j oj hj hl2 e he hb => hI.closed j oj hj hl2 e he hb, fun t h1 h2 => getD_in (by rw [hI.len]; exact h2) (htl t h1)⟩
    have hwait := tail_waits hsink hchain hN hinv _ i0 rfl hi0 (getD_in hi0s hu0)
    refine ⟨fun hr => ?_, fun j hj => ?_⟩
    ·have := all_listed hs hI.len hr i0 (by omega)
     rw [hu0] at this
     cases this
    have hjN : j < N := by
     rcases Nat.lt_or_ge j N with h | h
     ·exact h
     ·exact absurd hj (hwait j h)
    obtain ⟨h1, o, ho, hedge⟩ := mem_ready.1 hj
    have hjs : j < ops.size := (Array.getElem?_eq_some_iff.1 ho).1
    have hjl : j < listed.size := by rw [hI.len]; exact hjs
    have hjf : listed[j] = false := by simpa [hjl] using h1
    have hjn : listed.getD j false = false := by simp [hjl, hjf]
    have early_ok : ∀ t, early ops j t = true → a.tmps.getD t undef = a0.tmps.getD t undef := by
     intro t ht
     refine hI.old t fun i hi hd => ?_
     have his : i < ops.size := by
      rcases Nat.lt_or_ge i ops.size with h' | h'
      ·exact h'
      ·rw [Array.getElem?_eq_none h'] at hd; cases hd
     simp only [early, List.all_eq_true, List.mem_range] at ht
     have := ht i his
     rw [hd] at this
     simp only [bne_self_eq_false, Bool.false_or, Bool.or_eq_true, beq_iff_eq] at this
     rcases this with rfl | this
     ·rw [hjn] at hi; cases hi
     ·rw [Array.getElem?_eq_getElem his] at this
      simp only [Option.map_some, Option.getD_some] at this
      obtain ⟨e, he, hb⟩ := Array.any_eq_true'.1 this
      simp only [Bool.and_eq_true, beq_iff_eq] at hb
      have := hI.closed i _ (Array.getElem?_eq_getElem his) hi e he hb.1
      rw [hb.2, hjn] at this
      cases this
    have dep_ok : ∀ i d, dep ops j i d = true → Fact i (a.tmps.getD d undef) w := by
     intro i d hd
     simp only [dep, ho, Option.map_some, Option.getD_some, Bool.and_eq_true, beq_iff_eq] at hd
     obtain ⟨e, he, hb⟩ := Array.any_eq_true'.1 hd.1
     simp only [Bool.and_eq_true, beq_iff_eq] at hb
     exact hI.new i d (by rw [← hb.2]; exact hedge e he hb.1) hd.2
    obtain ⟨s1, s2⟩ := hstep j o hjN ho a w hI.rel early_ok dep_ok
    have next : ∀ v w', R w w' → Fact j v w' → wpAny P .any ops Q fuel (listed.setIfInBounds j true) (a.put o.dst v) w' := by
     intro v w' hR hF
     have hlist : ∀ i, (listed.setIfInBounds j true).getD i false = true ↔ i = j ∨ listed.getD i false = true := by
      intro i
      by_cases hij : i = j
      ·subst hij; simp [hjl]
      ·rw [getD_set_ne false (Ne.symm hij)]; simp [hij]
     refine ih _ _ _ ⟨by simp [hI.len], by rw [size_put]; exact hI.size, by rw [defers_put]; exact hI.defers, trans hI.rel hR, ?_, ?_, ?_⟩ ?_ ?_
     ·intro i d hi hd
      rcases (hlist i).1 hi with rfl | hi'
      ·rw [ho] at hd
       have hd' : o.dst = some d := hd
       rw [hd', getD_put_same (by rw [hI.size, hn]; exact sound_dst hs (by rw [ho]; exact hd))]
       exact hF
      ·have hne : ∀ d', o.dst = some d' → d ≠ d' := by
        rintro d' hd' rfl
        have : i = j := sound_ne hs hd (by rw [ho]; exact hd')
        subst this
        rw [hjn] at hi'; cases hi'
       have keep : (a.put o.dst v).tmps.getD d undef = a.tmps.getD d undef := by
        cases hod : o.dst with
        | none => rfl
        | some d' => exact getD_put_other (hne d' hod)
       rw [keep]
       exact mono i _ w w' (hI.new i d hi' hd) hR
     ·intro t ht
      have hne : ∀ d', o.dst = some d' → t ≠ d' := by
       rintro d' hd' rfl
       exact ht j ((hlist j).2 (.inl rfl)) (by rw [ho]; exact hd')
      have keep : (a.put o.dst v).tmps.getD t undef = a.tmps.getD t undef := by
       cases hod : o.dst with
       | none => rfl
       | some d' => exact getD_put_other (hne d' hod)
      rw [keep]
      exact hI.old t fun i hi => ht i ((hlist i).2 (.inr hi))
     ·intro i o' ho' hi e he hb
      rcases (hlist i).1 hi with rfl | hi'
      ·rw [ho] at ho'
       injection ho' with ho'
       subst ho'
       exact (hlist _).2 (.inr (hedge e he hb))
      ·exact (hlist _).2 (.inr (hI.closed i o' ho' hi' e he hb))
     ·intro t ht
      rw [getD_set_ne false (by omega)]
      exact htl t ht
     ·have hjl' : j < listed.toList.length := by simpa using hjl
      have hcs := List.count_set (a := true) (b := false) hjl'
      have hset : (listed.setIfInBounds j true).toList = listed.toList.set j true := by simp
      rw [hset, hcs]
      have e : listed.toList[j] = false := by simpa using hjf
      rw [e, if_pos (show (false == false) = true from rfl), if_neg (show ¬ (true == false) = true by decide)]
      omega
    unfold wpOp
    simp only [ho]
    split
    ·rename_i hw
     exact .inl (s1 hw _ _ next)
    ·rename_i hw
     exact next undef w (refl w) (s2 (by simpa using hw))
theorem wp_region_tail (N : Nat) {n : Nat} {l : List Oper} {id : Nat} {w : World} {Q : Exit → Act → World → Prop} (hm : P.follows .mixedOrders = true) (hs : sound n l.toArray = true) (ht : tailed N l.toArray = true) (hn : a0.tmps.size = n)
  (L : List Pred) (hall : All P l.toArray a0 w.drew L 0 (l.take N))
  (hend : ∀ a w', Below w.drew.heap.size w.drew w' → a.tmps.size = n → a.defers = a0.defers → (∀ i d, i < N → (l.toArray[i]?).bind (·.dst) = some d → holds L i (a.tmps.getD d undef) w') →
   (∀ t : Nat, (∀ i : Nat, i < N → (l.toArray[i]?).bind (·.dst) ≠ some t) → a.tmps.getD t undef = a0.tmps.getD t undef) → wpList P l.toArray Q (l.drop N) a w') :
  (Code.region id l.toArray true).wp P Q a0 w := by
 refine wp_region_any hm ?_
 refine wpAny_tail (N := N) (l := l.drop N) (R := fun a b => Below a.heap.size a b) (Fact := holds L) (w0 := w.drew) (fun j => by simp [List.getElem?_drop]) (by simp) hs ht hn (fun {a b c} h k => h.trans (k.mono h.size)) (fun a => Below.refl _ _) (fun i v w1 w2 h hb => (L.getD i Pred.any).mono v w1 w2 h hb)
  (fun j o hj ho => by
   have := hall.step j o (by rw [List.getElem?_take, if_pos hj]; simpa using ho)
   rwa [Nat.zero_add] at this) (fun listed a w' hlst htl hI => ?_) _ _ _ _
  ⟨by simp, rfl, rfl, Below.refl _ _, ?_, fun _ _ => rfl, ?_⟩ (fun t _ => none_listed _ t) ?_
 ·refine hend a w' hI.rel (by rw [hI.size, hn]) hI.defers (fun i d hi hd => hI.new i d (hlst i hi) hd) fun t ht2 => hI.old t fun i hi => ?_
  rcases Nat.lt_or_ge i N with h | h
  ·exact ht2 i h
  ·rw [htl i h] at hi; cases hi
 ·intro i d hi
  rw [none_listed] at hi
  cases hi
 ·intro i o _ hi
  rw [none_listed] at hi
  cases hi
 ·simp
end
end Go.Proofs.YtinjbdgjcadodaaGreatDoor.Facts
namespace Go.Proofs.YtinjbdgjcadodaaGreatDoor.Words
open Go Go.RowKit
theorem heap_setRow {w : World} {g : Nat} {old cs : Array Value} {t : TypeId} {fr : Nat × Nat} (hg : w.heap[g]? = some (.cells old t fr)) : (w.setRow g cs).heap[g]? = some (.cells cs t fr) := setRow_heap w g old cs t fr hg
theorem setRow_beside (w : World) (g : Nat) (cs : Array Value) : Beside [g] w (w.setRow g cs) := by
 refine ⟨rfl, rfl, rfl, ?_, fun k _ hn => ?_⟩
 ·simp [World.setRow]
 ·have : g ≠ k := fun e => hn (by simp [e])
  simp [World.setRow, Array.getElem?_modify, this]
section
variable {P : Program} {w : World} {ops : Array Oper} {rest : List Oper} {op : Oper} {a : Act} {Q : Exit → Act → World → Prop}
theorem wpList_putRow (hgd : op.guard = none) (ty : TypeId) (x y : Operand) (ho : op.op = .store ty x y) (b : Nat) (e : TypeId) (cur vs : Array Value)
  (hx : a.eval x = .pointer (some ⟨b, 0, none⟩)) (hy : a.eval y = .agg vs) (hb : w.heap[b]? = some (.cells cur e (0, 0))) (hi : (P.info? ty).map (·.size) = some vs.size) (hs : cur.size = vs.size) (h1 : vs.all (·.oneCell') = true)
  (h : ∀ w', w'.heap[b]? = some (.cells vs e (0, 0)) → Beside [b] w w' → wpList P ops Q rest (a.put op.dst undef) w') : wpList P ops Q (op :: rest) a w := by
 refine wpList_plain hgd fun K hK => ?_
 unfold Oper.wp execOp
 simp only [ho, hx, hy, Instr.storeAt, Instr.sureAddr, Sem.run_bind, Sem.run_pure, Result.andThen_ok, run_storeVar_row w b e ty cur vs hb hi hs h1]
 exact hK _ _ (h _ (heap_setRow hb) (setRow_beside w b vs))
theorem wpList_getRow (hgd : op.guard = none) (ty : TypeId) (x : Operand) (ho : op.op = .load ty x) (b : Nat) (e : TypeId) (cs : Array Value) (fr : Nat × Nat) (d : TypeDesc)
  (hx : a.eval x = .pointer (some ⟨b, 0, none⟩)) (hb : w.heap[b]? = some (.cells cs e fr)) (hu : P.underlying ty = some d) (hd : (match d with | .struct _ | .array _ _ => true | _ => false) = true) (hi : (P.info? ty).map (·.size) = some cs.size)
  (h : wpList P ops Q rest (a.put op.dst (.agg cs)) w) : wpList P ops Q (op :: rest) a w := by
 refine wpList_plain hgd fun K hK => ?_
 unfold Oper.wp execOp
 simp only [ho, hx, Instr.loadAt, Instr.sureAddr, Sem.run_bind, Sem.run_pure, Result.andThen_ok, run_loadVar_row w b e ty cs fr d hb hu hd hi]
 exact hK _ _ h
end
end Go.Proofs.YtinjbdgjcadodaaGreatDoor.Words
namespace Go.Proofs.YtinjbdgjcadodaaGreatDoor.Made
open Go Go.RowKit Words Enc
theorem grow_nil (m : Nat) (w : World) (hm : m ≤ 1000000000) :
  Calls Tryz.prog 146 #[.slice none 0 0, .int .i64 (m : Int)] w (New w.heap.size 0 [] w) := by
 obtain ⟨i, hi, hz, hsz, hby⟩ := info_parts info8
 by_cases h0 : m = 0
 ·subst h0
  go_enter Tryz.func146, Tryz.ntmps146
  go_wp2
  go_ret
  exact ⟨none, 0, rfl, Own.nil _ _ _, Below.refl _ _⟩
 ·have hm0 : (0 : Int) < (m : Int) := by omega
  have hm1 : decide ((m : Int) < 0) = false := by simp
  go_enter Tryz.func146, Tryz.ntmps146
  have hr := Lib.run_append_nil_zeros (P := Tryz.prog) w 28 3 28 5 i (.int .u8 0) .i64 .i64 Tryz.underlying28 Tryz.underlying3 hi hz m (by omega) (by omega) (by omega) (by rw [hby]; omega)
  have hge := grownCap_ge w m 0 5
  have hgm := grownCap_le_maxLen w m 0 5 (by unfold maxLen; omega)
  generalize grownCap w m 0 5 = G at hr hge hgm
  obtain ⟨Z, hZ⟩ : ∃ Z, Z = Builtin.zeroCells (Value.int .u8 0).cells m ++ Builtin.zeroCells (Value.int .u8 0).cells (G - m) := ⟨_, rfl⟩
  rw [← hZ] at hr
  have hZs : Z.size = G := by rw [hZ]; simp [size_zeroCells, Value.cells]; omega
  clear hZ
  have HR := Lib.hid hr
  clear hr
  have hgm2 : G ≤ 9223372036854775807 := by unfold maxLen at hgm; exact hgm
  go_wp2_with (first | (at_builtin; refine Lib.wpList_append_run w rfl _ _ _ _ rfl _ _ rfl rfl _ _ HR.out ?_))
  go_wp2
  go_ret
  exact ⟨_, G, rfl, ⟨rfl, .inr ⟨w.heap.size, G, Z, rfl, Nat.le_refl _, heap_alloc_new w.drew _, Nat.zero_le _, hgm, by omega, rfl⟩⟩, ((Below.refl _ _).drew).alloc (Nat.le_refl _) _⟩
def total : List (List UInt8) → Nat
 | [] => 0
 | l :: r => l.length + total r
theorem total_flatten : ∀ L : List (List UInt8), L.flatten.length = total L
 | [] => rfl
 | l :: r => by simp [total, total_flatten r]
theorem total_take : ∀ (L : List (List UInt8)) (k : Nat), k < L.length → total (L.take (k + 1)) = total (L.take k) + (L.getD k []).length
 | [], k, h => by simp at h
 | l :: r, 0, h => by simp [total]
 | l :: r, k + 1, h => by
   have := total_take r k (by simpa using h)
   simp only [List.take_succ_cons, total, this, List.getD_cons_succ]
   omega
theorem total_le (L : List (List UInt8)) : ∀ k, total (L.take k) ≤ total L := by
 induction L with
 | nil => intro k; simp [total]
 | cons l r ih => intro k; cases k with
   | zero => simp [total]
   | succ k => simp only [List.take_succ_cons, total]; have := ih k; omega
theorem flatten_take (L : List (List UInt8)) (k : Nat) (h : k < L.length) : (L.take (k + 1)).flatten = (L.take k).flatten ++ L.getD k [] := by
 rw [List.take_add_one, List.getElem?_eq_getElem h, List.flatten_append, List.getD_eq_getElem?_getD, List.getElem?_eq_getElem h]
 simp
theorem concat_any (A : Option Addr) (n c : Nat) (L : List (List UInt8)) (w : World) (hs : SeesAll w A n L) (hn : n ≤ 1000000000) (hm : total L ≤ 1000000000) :
  Calls Tryz.prog 90 #[.slice A n c] w (New w.heap.size (total L) L.flatten w) := by
 obtain ⟨i, hi, hz, hsz, hby⟩ := info_parts info8
 have hl := hs.len
 go_enter Tryz.func90, Tryz.ntmps90
 go_wp2_with fail
 go_loopw [3, 11] (fun s a W => ∃ k : Nat, k ≤ n ∧ a = .int .i64 (k : Int) ∧ s = .int .i64 (total (L.take k) : Int) ∧ w = W) (fun _ a _ => n - (intOf a).toNat)
 case atStart => exact ⟨0, by omega, rfl, rfl, rfl⟩
 case round =>
  obtain ⟨k, hk, rfl, rfl, rfl⟩ := hrel
  by_cases hlt : k < n
  ·obtain ⟨b, o, A', c', rfl, hcell, hlc, _⟩ := hs.get hlt
   have h1 := total_take L k (by omega)
   have h2 := total_le L (k + 1)
   have H1 := Lib.hid h1
   generalize hS : total (L.take k) = S at H1 h1
   generalize hX : (L.getD k []).length = X at hcell H1 h1 hlc
   have hb1 : S + X ≤ 1000000000 := by omega
   have hneg : decide ((S : Int) + (X : Int) < 0) = false := by simp; omega
   have hk2 : (k : Int) < (n : Int) := by omega
   clear h1 h2 hS hX
   go_wp2
   go_roundw
   case rel => exact ⟨k + 1, by omega, by go_num, by rw [H1.out]; go_num, trivial⟩
   case measure => simp [intOf]; omega
  ·have hk' : k = n := by omega
   subst hk'
   rw [show L.take k = L by rw [← hl]; exact List.take_length]
   generalize hT : total L = T at hm
   clear hlt
   go_wp2_with fail
   refine (grow_nil T w (by omega)).mono ?_
   rintro e w1 ⟨A1, c1, rfl, hown, hb⟩
   have hs1 := hs.below hb
   go_wp2_with fail
   go_loopw [6, 27] (fun s a W => ∃ (j : Nat) (A2 : Option Addr) (c2 : Nat), j ≤ k ∧ a = .int .i64 (j : Int) ∧ s = .slice A2 (total (L.take j)) c2 ∧ W.ownsRow w.heap.size 5 1 (.slice A2 (total (L.take j)) c2) (total (L.take j)) (cs (L.take j).flatten) ∧ Below w.heap.size w W) (fun _ a _ => k - (intOf a).toNat)
   case atStart => exact ⟨0, A1, c1, by omega, rfl, rfl, hown, hb⟩
   case round =>
    obtain ⟨j, A2, c2, hj, rfl, rfl, hown2, hb2⟩ := hrel
    have hs2 := hs.below hb2
    have hsz2 := hb2.size
    by_cases hlt2 : j < k
    ·obtain ⟨b, o, A', c', rfl, hcell, hlc, hsee⟩ := hs2.get hlt2
     have h1 := total_take L j (by omega)
     have h2 := total_le L (j + 1)
     have h3 := flatten_take L j (by omega)
     have H1 := Lib.hid h1
     have H3 := Lib.hid h3
     generalize hS : total (L.take j) = S at H1 h1 hown2
     generalize hX : L.getD j [] = X at hcell H1 H3 h1 hlc hsee
     generalize hF : (L.take j).flatten = F at H3 hown2
     have hb1 : S + X.length ≤ 1000000000 := by omega
     have hk2 : (j : Int) < (k : Int) := by omega
     clear h1 h2 h3 hS hX hF
     go_wp2_with (first | (at_builtin; refine wpList_app rfl _ _ 28 rfl w.heap.size 5 i (.int .u8 0) Tryz.underlying28 hi hz hsz hby rfl A2 S c2 F rfl hown2 A' X.length c' X rfl hsee ?d1 ?d2 ?_))
     case d1 => omega
     case d2 => exact hsz2
     intro A4 c4 w4 hown4 hb4
     go_wp2
     go_roundw
     case rel => exact ⟨j + 1, A4, c4, by omega, by go_num, by rw [H1.out], by rw [H1.out, H3.out]; exact hown4, hb2.trans hb4⟩
     case measure => simp [intOf]; omega
    ·have hj' : j = k := by omega
     subst hj'
     have ht : L.take j = L := by rw [← hl]; exact List.take_length
     rw [ht, hT] at hown2 ⊢
     clear hlt2
     go_wp2
     go_ret
     rw [hT]
     exact ⟨A2, c2, rfl, hown2, hb2⟩
def four (s : BitVec 32) : List UInt8 := [b8 (s.toNat / 16777216), b8 (s.toNat / 65536), b8 (s.toNat / 256), b8 s.toNat]
def wrap (l : List UInt8) : List UInt8 := enc l.length ++ l ++ four (Crc.sum (enc l.length ++ l))
theorem four_length (s : BitVec 32) : (four s).length = 4 := rfl
theorem wrap_length (l : List UInt8) : (wrap l).length = (enc l.length).length + l.length + 4 := by simp [wrap, four_length]; omega
theorem sees_four (w : World) (e : TypeId) (s : BitVec 32) (x0 x1 x2 x3 : Int) (h0 : x0 = ((b8 (s.toNat / 16777216)).toNat : Int)) (h1 : x1 = ((b8 (s.toNat / 65536)).toNat : Int)) (h2 : x2 = ((b8 (s.toNat / 256)).toNat : Int)) (h3 : x3 = ((b8 s.toNat).toNat : Int)) :
  Sees (w.alloc (.cells #[.int .u8 x0, .int .u8 x1, .int .u8 x2, .int .u8 x3] e)) (some ⟨w.heap.size, 0, none⟩) 4 (four s) := by
 subst h0; subst h1; subst h2; subst h3
 refine sees_new w e _ 4 (four s) rfl fun j u hu => ?_
 match j, hu with
 | 0, hu => simp [four] at hu; subst hu; rfl
 | 1, hu => simp [four] at hu; subst hu; rfl
 | 2, hu => simp [four] at hu; subst hu; rfl
 | 3, hu => simp [four] at hu; subst hu; rfl
def opened (l : List UInt8) (most : Int) (t : Nat × Nat × Nat) : List UInt8 × Nat × Nat :=
 if t.2.2 ≠ 0 then ([], 0, t.2.2)
 else if most < 0 ∨ most < (t.1 : Int) then ([], 0, 6)
 else if l.length - t.2.1 < t.1 then ([], 0, 5)
 else if l.length - (t.2.1 + t.1) < 4 then ([], 0, 5)
 else if wrap ((l.drop t.2.1).take t.1) ≠ l.take (t.2.1 + t.1 + 4) then ([], 0, 4)
 else ((l.drop t.2.1).take t.1, t.2.1 + t.1 + 4, 0)
def openL (l : List UInt8) (most : Int) : List UInt8 × Nat × Nat := opened l most (tk 0 0 l)
end Go.Proofs.YtinjbdgjcadodaaGreatDoor.Made
namespace Go.Proofs.YtinjbdgjcadodaaGreatDoor.Chk
open Go Go.RowKit Words Enc Go.Proofs.YtinjbdgjcadodaaGreatDoor.Made
end Go.Proofs.YtinjbdgjcadodaaGreatDoor.Chk
namespace Go.Proofs.YtinjbdgjcadodaaGreatDoor.Made
open Go Go.RowKit Words Enc
end Go.Proofs.YtinjbdgjcadodaaGreatDoor.Made
namespace Go.Proofs.YtinjbdgjcadodaaGreatDoor.Chk
open Go Go.RowKit Words
def lowInts : List Int := Crc.lowTab.map fun (n : Nat) => (n : Int)
def highInts : List Int := Crc.highTab.map fun (n : Nat) => (n : Int)
structure Tabs (w : World) : Prop where
 low : Lib.TabIs Tryz.prog w "anabranch/check.low" .u32 lowInts
 high : Lib.TabIs Tryz.prog w "anabranch/check.high" .u32 highInts
theorem named_low : Tryz.prog.globalNamed "anabranch/check.low" = some 1 := by kernel_rfl
theorem named_high : Tryz.prog.globalNamed "anabranch/check.high" = some 2 := by kernel_rfl
theorem Tabs.below {w w' : World} (h : Tabs w) (hb : Below w.heap.size w w') : Tabs w' :=
 ⟨Joins.tab_stays named_low h.low hb (Nat.le_refl _), Joins.tab_stays named_high h.high hb (Nat.le_refl _)⟩
theorem Tabs.lowAt {w : World} (h : Tabs w) (i : Nat) (hi : i < 16) : w.cell? ⟨1, i, none⟩ = some (.int .u32 (Crc.lowAt i : Int)) := by
 rw [h.low.cell named_low i (Nat.lt_of_lt_of_eq hi (by decide))]
 exact congrArg (fun z => some (Value.int .u32 z)) ((by decide : ∀ i : Fin 16, lowInts.getD i.val 0 = (Crc.lowAt i.val : Int)) ⟨i, hi⟩)
theorem Tabs.highAt {w : World} (h : Tabs w) (i : Nat) (hi : i < 16) : w.cell? ⟨2, i, none⟩ = some (.int .u32 (Crc.highAt i : Int)) := by
 rw [h.high.cell named_high i (Nat.lt_of_lt_of_eq hi (by decide))]
 exact congrArg (fun z => some (Value.int .u32 z)) ((by decide : ∀ i : Fin 16, highInts.getD i.val 0 = (Crc.highAt i.val : Int)) ⟨i, hi⟩)
def listed : List (String × DataW Unit) := [("anabranch/check.low", Lib.tabData .u32 lowInts), ("anabranch/check.high", Lib.tabData .u32 highInts)]
theorem listed_eq : listed = [("anabranch/check.low", Lib.tabData .u32 lowInts), ("anabranch/check.high", Lib.tabData .u32 highInts)] := rfl
theorem tail_of {P : Program} {w : World} {x : String × DataW Unit} {rest : List (String × DataW Unit)} (h : laidMet P (x :: rest) w) : laidMet P rest w := by
 obtain ⟨ps, ⟨g, t, cs, f, p, q, _, _, _, _, hr, rfl⟩, hn, hc⟩ := h
 exact ⟨q, hr, (List.nodup_append.1 hn).2.1, fun b off hm => hc b off (List.mem_append_right _ hm)⟩
theorem of_laid {W : World} (h : laidMetH Tryz.prog listed W) : Tabs W := by
 rw [MakeChecks.laidMetH_plain _ _ _ (by kernel_rfl)] at h
 rw [listed_eq] at h
 exact ⟨Lib.tabIs_of_head (g := 1) (t := 278) (e := 27) (n := 16) named_low (by kernel_rfl) Tryz.underlying278 Tryz.underlying27 (by kernel_rfl) (by kernel_rfl) h,
  Lib.tabIs_of_head (g := 2) (t := 278) (e := 27) (n := 16) named_high (by kernel_rfl) Tryz.underlying278 Tryz.underlying27 (by kernel_rfl) (by kernel_rfl) (tail_of h)⟩
end Go.Proofs.YtinjbdgjcadodaaGreatDoor.Chk
namespace Go.Proofs.YtinjbdgjcadodaaGreatDoor.Chk
open Go Go.RowKit Words Enc Go.Proofs.YtinjbdgjcadodaaGreatDoor.Made
def SizeSaid : Prop := ∀ (m : Int) (w : World), -1000000000 ≤ m → m ≤ 1000000000 → Calls Tryz.prog 255 #[.int .i64 m] w fun e w' => e = .returned (.int .i64 (((enc m.toNat).length + m.toNat + 4 : Nat) : Int)) ∧ Below w.heap.size w w'
end Go.Proofs.YtinjbdgjcadodaaGreatDoor.Chk
namespace Go.Proofs.YtinjbdgjcadodaaGreatDoor.Chk
open Go Go.RowKit Words
theorem u8_xor_low (u : UInt8) (r : Nat) : bits .xor .u8 (u.toNat : Int) ((r : Int) % 256) = ((u.toNat ^^^ (r % 256) : Nat) : Int) := by
 rw [show ((r : Int) % 256) = ((r % 256 : Nat) : Int) by omega]
 exact u8_xor_nat _ _ u.toNat_lt (by omega)
theorem u8_and_15 (x : Nat) (h : x < 256) : bits .and .u8 (x : Int) 15 = ((x % 16 : Nat) : Int) := by
 rw [show (15 : Int) = ((15 : Nat) : Int) by rfl, u8_and_nat x 15 h (by omega)]
 congr 1
 exact Nat.and_two_pow_sub_one_eq_mod x 4
theorem sum_any (A : Option Addr) (n c : Nat) (l : List UInt8) (w : World) (T : Tabs w) (hs : Sees w A n l) (hn : n ≤ 1000000000) :
  Calls Tryz.prog 139 #[.slice A n c] w fun e w' => e = .returned (.int .u32 ((Crc.sum l).toNat : Int)) ∧ ∃ d, w' = w.drewN d := by
 have hl := hs.1
 go_enter Tryz.func139, Tryz.ntmps139
 go_wp2_with fail
 go_loopw [3, 8] (fun s i W => ∃ k : Nat, k ≤ n ∧ i = .int .i64 (k : Int) ∧ s = .int .u32 ((Crc.run (l.take k)).reverse.toNat : Int) ∧ ∃ d, W = w.drewN d) (fun _ i _ => n - (intOf i).toNat)
 case atStart =>
  have h0 : ((4294967295 : Int)) = (((Crc.run (l.take 0)).reverse.toNat : Nat) : Int) := by rw [List.take_zero]; decide +kernel
  exact ⟨0, by omega, rfl, by rw [← h0], 0, rfl⟩
 case round =>
  obtain ⟨k, hk, rfl, rfl, d, rfl⟩ := hrel
  by_cases hlt : k < n
  ·obtain ⟨b, o, rfl, hcell⟩ := hs.2 (by omega)
   have hkl : k < l.length := by omega
   have hc1 : w.cell? ⟨b, o + k, none⟩ = _ := hcell k l[k] (List.getElem?_eq_getElem hkl)
   have ht : l.take (k + 1) = l.take k ++ [l[k]] := by rw [List.take_add_one, List.getElem?_eq_getElem hkl]; rfl
   have HT := Lib.hid ht
   clear ht hcell
   generalize l[k] = u at HT hc1
   generalize hr : (Crc.run (l.take k)).reverse = r
   have hstep : (Crc.run (l.take (k + 1))).reverse = (Crc.byte r.reverse u).reverse := by
    rw [HT.out, Crc.run_snoc, ← hr, BitVec.reverse_reverse_eq]
   rw [Crc.byte_tab] at hstep
   have e1 := u8_xor_low u r.toNat
   have hx : u.toNat ^^^ (r.toNat % 256) < 256 := Nat.xor_lt_two_pow (n := 8) u.toNat_lt (by omega)
   generalize u.toNat ^^^ (r.toNat % 256) = x at hstep e1 hx
   have e2 := u8_and_15 x hx
   have hi : x % 16 < 16 := by omega
   have hj : x / 16 < 16 := by omega
   have e3 : (x : Int) / 16 = ((x / 16 : Nat) : Int) := by omega
   generalize x % 16 = i at hstep e2 hi
   generalize x / 16 = j at hstep e3 hj
   have c1 : w.cell? ⟨1, i, none⟩ = _ := T.lowAt i hi
   have c2 : w.cell? ⟨2, j, none⟩ = _ := T.highAt j hj
   have h1 := Crc.lowAt_lt i hi
   have h2 := Crc.highAt_lt j hj
   generalize Crc.lowAt i = lo at hstep c1 h1
   generalize Crc.highAt j = hg at hstep c2 h2
   have e4 : bits .xor .u32 ((r.toNat : Int) / 256) (lo : Int) = (((r >>> 8) ^^^ BitVec.ofNat 32 lo).toNat : Int) := by
    have h3 : (r >>> 8).toNat = r.toNat / 256 := by rw [BitVec.toNat_ushiftRight, Nat.shiftRight_eq_div_pow]
    have h4 := r.isLt
    have h5 : ((r.toNat : Int) / (256 : Int)) = (((r >>> 8).toNat : Nat) : Int) := by rw [h3]; omega
    rw [h5, u32_xor_nat _ _ (by omega) (by omega), BitVec.toNat_xor, BitVec.toNat_ofNat, Nat.mod_eq_of_lt (a := lo) (by omega)]
   generalize (r >>> 8) ^^^ BitVec.ofNat 32 lo = t at hstep e4
   have e5 : bits .xor .u32 (t.toNat : Int) (hg : Int) = ((t ^^^ BitVec.ofNat 32 hg).toNat : Int) := by
    have h4 := t.isLt
    rw [u32_xor_nat _ _ (by omega) (by omega), BitVec.toNat_xor, BitVec.toNat_ofNat, Nat.mod_eq_of_lt (a := hg) (by omega)]
   generalize t ^^^ BitVec.ofNat 32 hg = q at e5 hstep
   have HS := Lib.hid hstep
   have hi' : (i : Int) < 16 := by omega
   have hj' : (j : Int) < 16 := by omega
   clear hstep HT hr
   go_wp2
   go_quiet (fail)
   go_wp2
   go_roundw
   case rel => exact ⟨k + 1, by omega, by go_num, by rw [HS.out], _, rfl⟩
   case measure => simp [intOf]; omega
  ·have hk' : k = n := by omega
   subst hk'
   have ht : l.take k = l := by rw [← hl]; exact List.take_length
   rw [ht]
   clear ht
   have hsum : (~~~ (Crc.run l).reverse) = Crc.sum l := by
    unfold Crc.sum
    apply BitVec.eq_of_getLsbD_eq
    intro i hi
    rw [BitVec.getLsbD_not, BitVec.getLsbD_reverse, BitVec.getLsbD_reverse, BitVec.getMsbD_not]
   have hnot := Crc.not_u32 (Crc.run l).reverse
   rw [hsum] at hnot
   generalize (Crc.run l).reverse = r at hnot ⊢
   go_wp2
   go_ret
   exact ⟨rfl, _, rfl⟩
end Go.Proofs.YtinjbdgjcadodaaGreatDoor.Chk
namespace Go.Proofs.YtinjbdgjcadodaaGreatDoor.Tape
open Go Go.RowKit Words Enc
def TapeAt (w : World) (t : Nat) (l : List UInt8) : Prop :=
 ∃ A n c, w.heap[t]? = some (.cells #[.slice A n c] 225 (0, 0)) ∧ Sees w A n l ∧ n ≤ c ∧ c ≤ 9223372036854775807
end Go.Proofs.YtinjbdgjcadodaaGreatDoor.Tape
namespace Go.Proofs.YtinjbdgjcadodaaGreatDoor.Made
open Go Go.RowKit Words Enc
end Go.Proofs.YtinjbdgjcadodaaGreatDoor.Made
namespace Go.Proofs.YtinjbdgjcadodaaGreatDoor.RefSum
open Go Go.RowKit Words
end Go.Proofs.YtinjbdgjcadodaaGreatDoor.RefSum
namespace Go.Proofs.YtinjbdgjcadodaaGreatDoor.Made
open Go Go.RowKit Words Enc
end Go.Proofs.YtinjbdgjcadodaaGreatDoor.Made
