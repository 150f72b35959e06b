/- DERIVED: THE SHELF's CONTRACTS AT THIS DUMP, IN PLAIN WORDS (tools/lay-plain.mjs out of 'TryzShelf.lean', which tools/lay-shelf.mjs wrote): THE SAME DECLARATIONS UNDER THE SAME NAMES: 'import', 'namespace', 'open', 'def', 'theorem' AND NOTHING ELSE: no command of the shelf's: FOR A HAND-IN. Each laying: the table of numbers ('.._ren') and one theorem, a field a fact of the dump's own or the kernel's comparison; each contract: ONE APPLICATION. As Facts, for regions in which a new block may be marked as a constant's: what stays is the cells of every block, and all of the old ones. -/
import Derived.Shelf.Small.Bits
import Derived.Shelf.Strconv.Itoa0
import Derived.Ground.SlbCloneProg
import Derived.Shelf.Bytes.SlClone
import Derived.Test.YtmogoopkjkdkgaaGreatProg
import Derived.Lib.SlBytesConst
import Derived.StillTail
import Derived.Laws.Tables
import Derived.Laws.Rows
import Derived.Lib.AppendZeros
import Derived.Lib.Hide
import Derived.Deep.QuietTactic
import Derived.BigQuiet
import Derived.Test.YtmogoopkjkdkgaaGreatRows
import Derived.Handy
import Derived.LaidMore
import Derived.Lib.LaidTab
import Derived.Lib.SmallJoins
import Derived.Defers
import Derived.Recover
import Derived.Test.YtmogoopkjkdkgaaGreatVTp01
namespace Go.Proofs
open Go.Shelf
def Tryz.lays129_ren : Go.Shelf.Ren := ⟨fun | 129 => 96 | n => n, fun | 53 => 28 | 3 => 3 | 4 => 4 | 46 => 135 | 5 => 5 | 9 => 9 | n => n, fun | n => n⟩
theorem Tryz.lays129 : Go.Proofs.Lays.n129 Tryz.prog Tryz.lays129_ren := {
  mixed := by kernel_rfl
  f129 := Tryz.func96.trans (congrArg some (by kernel_rfl))
  t3 := Tryz.underlying3
  a3 := Tryz.isAgg3
  z3 := Tryz.sizeOf3
  v3 := Tryz.zeroValue3
  t4 := Tryz.underlying4
  a4 := Tryz.isAgg4
  z4 := Tryz.sizeOf4
  v4 := Tryz.zeroValue4
  t5 := Tryz.underlying5
  a5 := Tryz.isAgg5
  z5 := Tryz.sizeOf5
  v5 := Tryz.zeroValue5
  t9 := Tryz.underlying9
  a9 := Tryz.isAgg9
  z9 := Tryz.sizeOf9
  v9 := Tryz.zeroValue9
  t46 := Tryz.underlying135
  a46 := Tryz.isAgg135
  z46 := Tryz.sizeOf135
  v46 := Tryz.zeroValue135
  t53 := Tryz.underlying28
  a53 := Tryz.isAgg28
  z53 := Tryz.sizeOf28
  v53 := Tryz.zeroValue28 }
/-- bits.Len64: "Len64 returns the minimum number of bits required to represent x; the result is 0 for x == 0.": IT RETURNS 'Lib.bitLen x'; the world is as it was. ('h0', 'h1': x is a uint64.) (LAID: no walk: one application.) -/
theorem Tryz.bits_Len64 (x : Int) (w : World) (h0 : 0 ≤ x) (h1 : x ≤ 18446744073709551615) :
    Calls Tryz.prog 96 #[.int .u64 x] w fun e w' => e = .returned (.int .i64 (Lib.bitLen x.toNat)) ∧ w' = w := Any.bits_Len64 Tryz.lays129 x w h0 h1
def Tryz.laysSlK4_ren : Go.Shelf.Ren := ⟨fun | 4 => 63 | n => n, fun | 22 => 29 | 4 => 4 | 5 => 5 | n => n, fun | n => n⟩
theorem Tryz.laysSlK4 : Go.Proofs.SlLaysK.n4 Tryz.prog Tryz.laysSlK4_ren := {
  mixed := by kernel_rfl
  f4 := Tryz.func63.trans (congrArg some (by kernel_rfl))
  t4 := Tryz.underlying4
  a4 := Tryz.isAgg4
  z4 := Tryz.sizeOf4
  v4 := Tryz.zeroValue4
  t22 := Tryz.underlying29
  a22 := Tryz.isAgg29
  z22 := Tryz.sizeOf29
  v22 := Tryz.zeroValue29
  t5 := Tryz.underlying5
  i5 := by kernel_rfl }
open Go.RowKit Go.Lib in
/-- bytes.Clone: "Clone returns a copy of b[:len(b)]. The result may have additional unused capacity.": OF A SLICE THAT IS NOT nil IT RETURNS A SLICE THAT IS NOT nil, OF THE SAME BYTES, IN MEMORY OF THE CALL's OWN: in the how-to's words (6f): 'w'.ownsRow B e 1 v' n cells' · 'Below B w w'', B the heap's size at the call. b AT WHATEVER ADDRESS, its cells as 'open_ints' hands them ('a.add i'; the numbers 'xs'). No byte: no cell is asked for. (LAID: no walk: one application.) -/
theorem Tryz.bytes_Clone_at (a : Addr) (n c : Nat) (xs : List Int) (w : World) (hx : xs.length = n) (hbig : n ≤ 140737488355328) (hc : ∀ i, i < n → w.cell? (a.add i) = some (.int .u8 (xs.getD i 0))) :
    Calls Tryz.prog 63 #[.slice (some a) n c] w fun e w' => ∃ v', e = .returned v' ∧ w'.ownsRow w.heap.size 5 1 v' n (xs.map (Value.int .u8)) ∧ v' ≠ .slice none 0 0 ∧ Below w.heap.size w w' := Any.bytes_Clone_at Tryz.laysSlK4 a n c xs w hx hbig hc
open Go.RowKit Go.Lib in
/-- "Clone(nil) returns nil.": the world is as it was. (LAID: no walk: one application.) -/
theorem Tryz.bytes_Clone_nil (n c : Nat) (w : World) :
    Calls Tryz.prog 63 #[.slice none n c] w fun e w' => e = .returned (.slice none 0 0) ∧ w' = w := Any.bytes_Clone_nil Tryz.laysSlK4 n c w
end Go.Proofs
namespace Go.Proofs.YtmogoopkjkdkgaaGreat.Keeps
open Go Go.RowKit Go.Proofs.YtmogoopkjkdkgaaGreat.Facts Go.Proofs.YtmogoopkjkdkgaaGreat.Words
set_option linter.unusedVariables false

/-- Each block's cells are as they were; none but rows of m cells at most are marked. -/
def Keep (m : Nat) (a b : World) : Prop := ∀ (k : Nat) (cur : Array Value) (e : TypeId) (fr : Nat × Nat), a.heap[k]? = some (.cells cur e fr) → ∃ fr', b.heap[k]? = some (.cells cur e fr') ∧ (fr' = fr ∨ cur.size ≤ m)
theorem Keep.refl (m : Nat) (a : World) : Keep m a a := fun k cur e fr h => ⟨fr, h, .inl rfl⟩
theorem Keep.trans {m : Nat} {a b c : World} (h : Keep m a b) (k : Keep m b c) : Keep m a c := fun i cur e fr hi => by
  obtain ⟨fr', h', h1⟩ := h i cur e fr hi
  obtain ⟨fr2, h2, h3⟩ := k i cur e fr' h'
  refine ⟨fr2, h2, ?_⟩
  rcases h1 with rfl | h1
  · exact h3
  · exact .inr h1
theorem Keep.of_below (m : Nat) {a b : World} (h : Below a.heap.size a b) : Keep m a b := fun k cur e fr hk => ⟨fr, (h.block k (Array.getElem?_eq_some_iff.1 hk).1).trans hk, .inl rfl⟩
theorem Keep.cell {m : Nat} {a b : World} (h : Keep m a b) {p : Addr} {v : Value} (hc : a.cell? p = some v) : b.cell? p = some v := by
  unfold World.cell? at hc ⊢
  split at hc
  · rename_i c e fr hk
    obtain ⟨fr', h', _⟩ := h p.block c e fr hk
    rw [h']
    exact hc
  · cases hc
theorem sees_keep {w w' : World} {A : Option Addr} {n : Nat} {l : List UInt8} (h : Sees w A n l) {mk : Nat} (hb : Keep mk w w') : Sees w' A n l := by
  refine ⟨h.1, fun hn => ?_⟩
  obtain ⟨b, o, hA, hc⟩ := h.2 hn
  exact ⟨b, o, hA, fun j u hu => hb.cell (hc j u hu)⟩
theorem each_keep {w w' : World} {vs : List Value} {L : List (List UInt8)} (h : Each w vs L) {mk : Nat} (hb : Keep mk w w') : Each w' vs L :=
  ⟨h.1, fun j l hl => by
    obtain ⟨A, c, h1, h2, h3⟩ := h.2 j l hl
    exact ⟨A, c, h1, h2, sees_keep h3 hb⟩⟩
theorem seesAll_keep {w w' : World} {A : Option Addr} {n : Nat} {L : List (List UInt8)} (h : SeesAll w A n L) {mk : Nat} (hb : Keep mk w w') : SeesAll w' A n L := by
  obtain ⟨vs, h1, h2, h3⟩ := h
  refine ⟨vs, each_keep h1 hb, h2, fun hn => ?_⟩
  obtain ⟨b, o, h4, h5⟩ := h3 hn
  exact ⟨b, o, h4, fun j v hv => hb.cell (h5 j v hv)⟩

/-- What holds from the region's beginning on: what was below B is as it was, and each block keeps its cells. -/
def R (m B : Nat) (a b : World) : Prop := Below B a b ∧ Keep m a b
theorem R.refl (m B : Nat) (a : World) : R m B a a := ⟨Below.refl _ _, Keep.refl m a⟩
theorem R.trans {m B : Nat} {a b c : World} (h : R m B a b) (k : R m B b c) : R m B a c := ⟨h.1.trans k.1, h.2.trans k.2⟩
theorem R.of_below {m B : Nat} {a b : World} (hB : B ≤ a.heap.size) (h : Below a.heap.size a b) : R m B a b := ⟨h.mono hB, Keep.of_below m h⟩

/-- A fact on a value that stays true while each block keeps its cells. -/
structure Pred (m : Nat) where
  p : Value → World → Prop
  mono : ∀ v w w', p v w → Keep m w w' → p v w'
def Pred.is {m : Nat} (u : Value) : Pred m := ⟨fun v _ => v = u, fun _ _ _ h _ => h⟩
def Pred.any {m : Nat} : Pred m := ⟨fun _ _ => True, fun _ _ _ h _ => h⟩
/-- n bytes that show l, and their room. -/
def Pred.row {m : Nat} (n : Nat) (l : List UInt8) : Pred m := ⟨fun v w => ∃ A c, v = .slice A n c ∧ n ≤ c ∧ c ≤ 9223372036854775807 ∧ Sees w A n l, fun _ _ _ ⟨A, c, h, h1, h2, hs⟩ hb => ⟨A, c, h, h1, h2, sees_keep hs hb⟩⟩
def Pred.rows {m : Nat} (n : Nat) (L : List (List UInt8)) : Pred m := ⟨fun v w => ∃ A c, v = .slice A n c ∧ SeesAll w A n L, fun _ _ _ ⟨A, c, h, hs⟩ hb => ⟨A, c, h, seesAll_keep hs hb⟩⟩
/-- n bytes that the region owns above B: more than may be marked. -/
def Pred.own {m : Nat} (B : Nat) (e : TypeId) (n : Nat) (l : List UInt8) (hm : m < n) : Pred m := ⟨fun v w => ∃ A c, v = .slice A n c ∧ w.ownsRow B e 1 (.slice A n c) n (cs l), fun v w w' ⟨A, c, h, ho⟩ hb => by
  refine ⟨A, c, h, ho.1, ?_⟩
  rcases ho.2 with ⟨hv, hn⟩ | ⟨g, cap, cur, hv, hg, hh, hnc, hcm, hsz, r⟩
  · omega
  · obtain ⟨fr', h', hf⟩ := hb g cur e (0, 0) hh
    rcases hf with rfl | hf
    · exact .inr ⟨g, cap, cur, hv, hg, h', hnc, hcm, hsz, r⟩
    · omega⟩
def holds {m : Nat} (L : List (Pred m)) (i : Nat) (v : Value) (w : World) : Prop := (L.getD i Pred.any).p v w

section
variable {P : Program} {ops : Array Oper} {a0 : Act} {w0 : World} {m B : Nat}

def All {m : Nat} (P : Program) (ops : Array Oper) (a0 : Act) (w0 : World) (B : Nat) (L : List (Pred m)) : Nat → List Oper → Prop
  | _, [] => True
  | k, o :: r => Facts.Step P ops a0 w0 (R m B) (holds L) k o ∧ All P ops a0 w0 B L (k + 1) r
theorem All.step {L : List (Pred m)} : ∀ {l : List Oper} {k : Nat}, All P ops a0 w0 B L k l → ∀ j o, l[j]? = some o → Facts.Step P ops a0 w0 (R m B) (holds L) (k + j) o
  | [], _, _, _, _, h => by simp at h
  | o :: r, k, h, 0, o', ho => by simp at ho; subst ho; exact h.1
  | o :: r, k, h, j + 1, o', ho => by
    have := All.step h.2 j o' (by simpa using ho)
    rw [show k + (j + 1) = k + 1 + j by omega]
    exact this

/-- An operation that yields one value and leaves the world alone. -/
theorem step_is {L : List (Pred m)} {j : Nat} {o : Oper} (u : Value)
    (h : ∀ (a : Act) (w : World), R m B w0 w → (∀ t, Facts.early ops j t = true → a.tmps.getD t undef = a0.tmps.getD t undef) → (∀ i d, Facts.dep ops j i d = true → holds L i (a.tmps.getD d undef) w) →
      Region.wanted o (yielded ops a.tmps) = true ∧ (execOp a.eval o).run P w = .ok (.value u) w ∧ ∀ w, holds L j u w) : Facts.Step P ops a0 w0 (R m B) (holds L) j o := by
  intro a w hR hold hnew
  obtain ⟨hw, hr, hF⟩ := h a w hR hold hnew
  refine ⟨fun _ K Q hK => ?_, fun hf => by rw [hw] at hf; cases hf⟩
  unfold Oper.wp
  rw [hr]
  exact hK u w (R.refl _ _ _) (hF w)
/-- An operation that yields some value; what it makes, or marks, is the region's own. -/
theorem step_new {L : List (Pred m)} {j : Nat} {o : Oper}
    (h : ∀ (a : Act) (w : World), R m B w0 w → (∀ t, Facts.early ops j t = true → a.tmps.getD t undef = a0.tmps.getD t undef) → (∀ i d, Facts.dep ops j i d = true → holds L i (a.tmps.getD d undef) w) →
      Region.wanted o (yielded ops a.tmps) = true ∧ ∃ u w', (execOp a.eval o).run P w = .ok (.value u) w' ∧ R m B w w' ∧ holds L j u w') : Facts.Step P ops a0 w0 (R m B) (holds L) j o := by
  intro a w hR hold hnew
  obtain ⟨hw, u, w', hr, hb, hF⟩ := h a w hR hold hnew
  refine ⟨fun _ K Q hK => ?_, fun hf => by rw [hw] at hf; cases hf⟩
  unfold Oper.wp
  rw [hr]
  exact hK u w' hb hF
theorem step_some {L : List (Pred m)} {j : Nat} {o : Oper}
    (h : ∀ (a : Act) (w : World), R m B w0 w → (∀ t, Facts.early ops j t = true → a.tmps.getD t undef = a0.tmps.getD t undef) → (∀ i d, Facts.dep ops j i d = true → holds L i (a.tmps.getD d undef) w) →
      Region.wanted o (yielded ops a.tmps) = true ∧ ∃ u, (execOp a.eval o).run P w = .ok (.value u) w ∧ holds L j u w) : Facts.Step P ops a0 w0 (R m B) (holds L) j o :=
  step_new fun a w hR hold hnew => by
    obtain ⟨hw, u, hr, hF⟩ := h a w hR hold hnew
    exact ⟨hw, u, w, hr, R.refl _ _ _, hF⟩
/-- A call, by its contract. -/
theorem step_call {L : List (Pred m)} {j : Nat} {o : Oper} (hB : B ≤ w0.heap.size)
    (h : ∀ (a : Act) (w : World), R m B w0 w → (∀ t, Facts.early ops j t = true → a.tmps.getD t undef = a0.tmps.getD t undef) → (∀ i d, Facts.dep ops j i d = true → holds L i (a.tmps.getD d undef) w) →
      Region.wanted o (yielded ops a.tmps) = true ∧ ∃ f args, (execOp a.eval o).run P w = .ok (.enter f args) w ∧ Calls P f args w fun e w' => ∃ v, e = .returned v ∧ Below w.heap.size w w' ∧ holds L j v w') :
    Facts.Step P ops a0 w0 (R m B) (holds L) j o := by
  intro a w hR hold hnew
  obtain ⟨hw, f, args, hr, hc⟩ := h a w hR hold hnew
  refine ⟨fun _ K Q hK => ?_, fun hf => by rw [hw] at hf; cases hf⟩
  unfold Oper.wp
  rw [hr]
  refine hc.mono ?_
  rintro e w' ⟨v, rfl, hb, hF⟩
  exact hK v w' (R.of_below (Nat.le_trans hB hR.1.size) hb) hF

end
end Go.Proofs.YtmogoopkjkdkgaaGreat.Keeps

/- A statement that leaves the order of its first operations open, and does the others one behind the other: one obligation for each of the first ones, a walk for the rest. No program, no condition: lemmas on regions. -/
namespace Go.Proofs.YtmogoopkjkdkgaaGreat.Facts
open Go Go.RowKit
set_option linter.unusedVariables false
set_option linter.unusedSimpArgs false

/-- The first N operations come up before all others, and the others in the text's order. -/
def tailed (N : Nat) (ops : Array Oper) : Bool :=
  decide (N < ops.size) && Region.sinkB .any ops N && Region.chainB .any ops N && Region.seqB .any ops (ops.size - N) N (List.replicate N true ++ List.replicate (ops.size - N) false).toArray

section
variable {P : Program} {ops : Array Oper} {a0 : Act} {w0 : World} {R : World → World → Prop} {Fact : Nat → Value → World → Prop}

theorem wpAny_tail {n N : Nat} {l : List Oper} (hl : ∀ j, l[j]? = ops[N + j]?) (hll : l.length = ops.size - N) (hs : sound n ops = true) (ht : tailed N ops = true) (hn : a0.tmps.size = n) (trans : ∀ {a b c}, R a b → R b c → R a c) (refl : ∀ a, R a a)
    (mono : ∀ i v w w', Fact i v w → R w w' → Fact i v w')
    (hstep : ∀ j o, j < N → ops[j]? = some o → Step P ops a0 w0 R Fact j o)
    {Q : Exit → Act → World → Prop}
    (hend : ∀ listed a w, (∀ i, i < N → listed.getD i false = true) → (∀ t, N ≤ t → listed.getD t false = false) → Inv ops a0 w0 R Fact listed a w → wpList P ops Q l a w) :
    ∀ (fuel : Nat) (listed : Array Bool) (a : Act) (w : World), Inv ops a0 w0 R Fact listed a w → (∀ t, N ≤ t → listed.getD t false = false) → listed.toList.count false = fuel → wpAny P .any ops Q fuel listed a w := by
  simp only [tailed, Bool.and_eq_true, decide_eq_true_eq] at ht
  obtain ⟨⟨⟨hN, hsink⟩, hchain⟩, hseq⟩ := ht
  intro fuel
  induction fuel with
  | zero =>
    intro listed a w hI htl hc
    exfalso
    have h0 := htl N (Nat.le_refl _)
    have hlt : N < listed.size := by rw [hI.len]; exact hN
    rw [List.count_eq_zero] at hc
    have : listed[N] = false := by simpa [hlt] using h0
    exact hc (by rw [← this]; simp)
  | succ fuel ih =>
    intro listed a w hI htl hc
    by_cases hall : ∀ i, i < N → listed.getD i false = true
    · have hlst : listed = (List.replicate N true ++ List.replicate (ops.size - N) false).toArray := by
        apply Array.ext
        · simp [hI.len]; omega
        · intro i h1 h2
          by_cases hi : i < N
          · have := hall i hi
            simp [h1] at this
            rw [this]
            simp [List.getElem_append, hi]
          · have := htl i (by omega)
            simp [h1] at this
            rw [this]
            simp [List.getElem_append, hi]
      have hfu : fuel + 1 = l.length := by
        rw [← hc, hlst]
        simp [List.count_append, List.count_replicate, hll]
      rw [hfu]
      refine wpAny_of_seq l N listed a w hl ?_ (hend listed a w hall htl hI)
      rw [hll, hlst]
      exact hseq
    · have hex : ∃ i, i < N ∧ listed.getD i false = false := by
        apply Classical.byContradiction
        intro hno
        exact hall fun i hi => by
          cases hb : listed.getD i false with
          | true => rfl
          | false => exact absurd ⟨i, hi, hb⟩ hno
      obtain ⟨i0, hi0, hu0⟩ := hex
      have hi0s : i0 < listed.size := by rw [hI.len]; omega
      have hinv : HeadInv .any ops N listed := ⟨hI.len, fun j oj hj hl2 e he hb => hI.closed j oj hj hl2 e he hb, fun t h1 h2 => getD_in (by rw [hI.len]; exact h2) (htl t h1)⟩
      have hwait := tail_waits hsink hchain hN hinv _ i0 rfl hi0 (getD_in hi0s hu0)
      refine ⟨fun hr => ?_, fun j hj => ?_⟩
      · have := all_listed hs hI.len hr i0 (by omega)
        rw [hu0] at this
        cases this
      have hjN : j < N := by
        rcases Nat.lt_or_ge j N with h | h
        · exact h
        · exact absurd hj (hwait j h)
      obtain ⟨h1, o, ho, hedge⟩ := mem_ready.1 hj
      have hjs : j < ops.size := (Array.getElem?_eq_some_iff.1 ho).1
      have hjl : j < listed.size := by rw [hI.len]; exact hjs
      have hjf : listed[j] = false := by simpa [hjl] using h1
      have hjn : listed.getD j false = false := by simp [hjl, hjf]
      have early_ok : ∀ t, early ops j t = true → a.tmps.getD t undef = a0.tmps.getD t undef := by
        intro t ht
        refine hI.old t fun i hi hd => ?_
        have his : i < ops.size := by
          rcases Nat.lt_or_ge i ops.size with h' | h'
          · exact h'
          · rw [Array.getElem?_eq_none h'] at hd; cases hd
        simp only [early, List.all_eq_true, List.mem_range] at ht
        have := ht i his
        rw [hd] at this
        simp only [bne_self_eq_false, Bool.false_or, Bool.or_eq_true, beq_iff_eq] at this
        rcases this with rfl | this
        · rw [hjn] at hi; cases hi
        · rw [Array.getElem?_eq_getElem his] at this
          simp only [Option.map_some, Option.getD_some] at this
          obtain ⟨e, he, hb⟩ := Array.any_eq_true'.1 this
          simp only [Bool.and_eq_true, beq_iff_eq] at hb
          have := hI.closed i _ (Array.getElem?_eq_getElem his) hi e he hb.1
          rw [hb.2, hjn] at this
          cases this
      have dep_ok : ∀ i d, dep ops j i d = true → Fact i (a.tmps.getD d undef) w := by
        intro i d hd
        simp only [dep, ho, Option.map_some, Option.getD_some, Bool.and_eq_true, beq_iff_eq] at hd
        obtain ⟨e, he, hb⟩ := Array.any_eq_true'.1 hd.1
        simp only [Bool.and_eq_true, beq_iff_eq] at hb
        exact hI.new i d (by rw [← hb.2]; exact hedge e he hb.1) hd.2
      obtain ⟨s1, s2⟩ := hstep j o hjN ho a w hI.rel early_ok dep_ok
      have next : ∀ v w', R w w' → Fact j v w' → wpAny P .any ops Q fuel (listed.setIfInBounds j true) (a.put o.dst v) w' := by
        intro v w' hR hF
        have hlist : ∀ i, (listed.setIfInBounds j true).getD i false = true ↔ i = j ∨ listed.getD i false = true := by
          intro i
          by_cases hij : i = j
          · subst hij; simp [hjl]
          · rw [getD_set_ne false (Ne.symm hij)]; simp [hij]
        refine ih _ _ _ ⟨by simp [hI.len], by rw [size_put]; exact hI.size, by rw [defers_put]; exact hI.defers, trans hI.rel hR, ?_, ?_, ?_⟩ ?_ ?_
        · intro i d hi hd
          rcases (hlist i).1 hi with rfl | hi'
          · rw [ho] at hd
            have hd' : o.dst = some d := hd
            rw [hd', getD_put_same (by rw [hI.size, hn]; exact sound_dst hs (by rw [ho]; exact hd))]
            exact hF
          · have hne : ∀ d', o.dst = some d' → d ≠ d' := by
              rintro d' hd' rfl
              have : i = j := sound_ne hs hd (by rw [ho]; exact hd')
              subst this
              rw [hjn] at hi'; cases hi'
            have keep : (a.put o.dst v).tmps.getD d undef = a.tmps.getD d undef := by
              cases hod : o.dst with
              | none => rfl
              | some d' => exact getD_put_other (hne d' hod)
            rw [keep]
            exact mono i _ w w' (hI.new i d hi' hd) hR
        · intro t ht
          have hne : ∀ d', o.dst = some d' → t ≠ d' := by
            rintro d' hd' rfl
            exact ht j ((hlist j).2 (.inl rfl)) (by rw [ho]; exact hd')
          have keep : (a.put o.dst v).tmps.getD t undef = a.tmps.getD t undef := by
            cases hod : o.dst with
            | none => rfl
            | some d' => exact getD_put_other (hne d' hod)
          rw [keep]
          exact hI.old t fun i hi => ht i ((hlist i).2 (.inr hi))
        · intro i o' ho' hi e he hb
          rcases (hlist i).1 hi with rfl | hi'
          · rw [ho] at ho'
            injection ho' with ho'
            subst ho'
            exact (hlist _).2 (.inr (hedge e he hb))
          · exact (hlist _).2 (.inr (hI.closed i o' ho' hi' e he hb))
        · intro t ht
          rw [getD_set_ne false (by omega)]
          exact htl t ht
        · have hjl' : j < listed.toList.length := by simpa using hjl
          have hcs := List.count_set (a := true) (b := false) hjl'
          have hset : (listed.setIfInBounds j true).toList = listed.toList.set j true := by simp
          rw [hset, hcs]
          have e : listed.toList[j] = false := by simpa using hjf
          rw [e, if_pos (show (false == false) = true from rfl), if_neg (show ¬ (true == false) = true by decide)]
          omega
      unfold wpOp
      simp only [ho]
      split
      · rename_i hw
        exact .inl (s1 hw _ _ next)
      · rename_i hw
        exact next undef w (refl w) (s2 (by simpa using hw))

theorem wp_region_tail (N : Nat) {n : Nat} {l : List Oper} {id : Nat} {w : World} {Q : Exit → Act → World → Prop} (hm : P.follows .mixedOrders = true) (hs : sound n l.toArray = true) (ht : tailed N l.toArray = true) (hn : a0.tmps.size = n)
    (L : List Pred) (hall : All P l.toArray a0 w.drew L 0 (l.take N))
    (hend : ∀ a w', Below w.drew.heap.size w.drew w' → a.tmps.size = n → a.defers = a0.defers → (∀ i d, i < N → (l.toArray[i]?).bind (·.dst) = some d → holds L i (a.tmps.getD d undef) w') →
      (∀ t : Nat, (∀ i : Nat, i < N → (l.toArray[i]?).bind (·.dst) ≠ some t) → a.tmps.getD t undef = a0.tmps.getD t undef) → wpList P l.toArray Q (l.drop N) a w') :
    (Code.region id l.toArray true).wp P Q a0 w := by
  refine wp_region_any hm ?_
  refine wpAny_tail (N := N) (l := l.drop N) (R := fun a b => Below a.heap.size a b) (Fact := holds L) (w0 := w.drew) (fun j => by simp [List.getElem?_drop]) (by simp) hs ht hn (fun {a b c} h k => h.trans (k.mono h.size)) (fun a => Below.refl _ _) (fun i v w1 w2 h hb => (L.getD i Pred.any).mono v w1 w2 h hb)
    (fun j o hj ho => by
      have := hall.step j o (by rw [List.getElem?_take, if_pos hj]; simpa using ho)
      rwa [Nat.zero_add] at this) (fun listed a w' hlst htl hI => ?_) _ _ _ _
    ⟨by simp, rfl, rfl, Below.refl _ _, ?_, fun _ _ => rfl, ?_⟩ (fun t _ => none_listed _ t) ?_
  · refine hend a w' hI.rel (by rw [hI.size, hn]) hI.defers (fun i d hi hd => hI.new i d (hlst i hi) hd) fun t ht2 => hI.old t fun i hi => ?_
    rcases Nat.lt_or_ge i N with h | h
    · exact ht2 i h
    · rw [htl i h] at hi; cases hi
  · intro i d hi
    rw [none_listed] at hi
    cases hi
  · intro i o _ hi
    rw [none_listed] at hi
    cases hi
  · simp
end
end Go.Proofs.YtmogoopkjkdkgaaGreat.Facts

/- Structs in memory: a whole row is read, or written. No program. -/
namespace Go.Proofs.YtmogoopkjkdkgaaGreat.Words
open Go Go.RowKit
set_option linter.unusedVariables false

theorem heap_setRow {w : World} {g : Nat} {old cs : Array Value} {t : TypeId} {fr : Nat × Nat} (hg : w.heap[g]? = some (.cells old t fr)) : (w.setRow g cs).heap[g]? = some (.cells cs t fr) := setRow_heap w g old cs t fr hg
theorem setRow_beside (w : World) (g : Nat) (cs : Array Value) : Beside [g] w (w.setRow g cs) := by
  refine ⟨rfl, rfl, rfl, ?_, fun k _ hn => ?_⟩
  · simp [World.setRow]
  · have : g ≠ k := fun e => hn (by simp [e])
    simp [World.setRow, Array.getElem?_modify, this]
section
variable {P : Program} {w : World} {ops : Array Oper} {rest : List Oper} {op : Oper} {a : Act} {Q : Exit → Act → World → Prop}
/-- A whole row is written. -/
theorem wpList_putRow (hgd : op.guard = none) (ty : TypeId) (x y : Operand) (ho : op.op = .store ty x y) (b : Nat) (e : TypeId) (cur vs : Array Value)
    (hx : a.eval x = .pointer (some ⟨b, 0, none⟩)) (hy : a.eval y = .agg vs) (hb : w.heap[b]? = some (.cells cur e (0, 0))) (hi : (P.info? ty).map (·.size) = some vs.size) (hs : cur.size = vs.size) (h1 : vs.all (·.oneCell') = true)
    (h : ∀ w', w'.heap[b]? = some (.cells vs e (0, 0)) → Beside [b] w w' → wpList P ops Q rest (a.put op.dst undef) w') : wpList P ops Q (op :: rest) a w := by
  refine wpList_plain hgd fun K hK => ?_
  unfold Oper.wp execOp
  simp only [ho, hx, hy, Instr.storeAt, Instr.sureAddr, Sem.run_bind, Sem.run_pure, Result.andThen_ok, run_storeVar_row w b e ty cur vs hb hi hs h1]
  exact hK _ _ (h _ (heap_setRow hb) (setRow_beside w b vs))
/-- A whole row is read. -/
theorem wpList_getRow (hgd : op.guard = none) (ty : TypeId) (x : Operand) (ho : op.op = .load ty x) (b : Nat) (e : TypeId) (cs : Array Value) (fr : Nat × Nat) (d : TypeDesc)
    (hx : a.eval x = .pointer (some ⟨b, 0, none⟩)) (hb : w.heap[b]? = some (.cells cs e fr)) (hu : P.underlying ty = some d) (hd : (match d with | .struct _ | .array _ _ => true | _ => false) = true) (hi : (P.info? ty).map (·.size) = some cs.size)
    (h : wpList P ops Q rest (a.put op.dst (.agg cs)) w) : wpList P ops Q (op :: rest) a w := by
  refine wpList_plain hgd fun K hK => ?_
  unfold Oper.wp execOp
  simp only [ho, hx, Instr.loadAt, Instr.sureAddr, Sem.run_bind, Sem.run_pure, Result.andThen_ok, run_loadVar_row w b e ty cs fr d hb hu hd hi]
  exact hK _ _ h
end
end Go.Proofs.YtmogoopkjkdkgaaGreat.Words

/- slices.Grow of nil, slices.Concat and slices.Equal of bytes: their contracts. -/
namespace Go.Proofs.YtmogoopkjkdkgaaGreat.Made
open Go Go.RowKit Go.Proofs.YtmogoopkjkdkgaaGreat.Words Go.Proofs.YtmogoopkjkdkgaaGreat.Enc
set_option linter.unusedVariables false

end Go.Proofs.YtmogoopkjkdkgaaGreat.Made

/- A record, as a list of bytes. The record ahead of bytes: plain lists. A record of which one byte is another one, or some at the end are missing: plain lists. The records ahead of bytes: plain lists. -/
namespace Go.Proofs.YtmogoopkjkdkgaaGreat.Made
open Go Go.RowKit Go.Proofs.YtmogoopkjkdkgaaGreat.Words Go.Proofs.YtmogoopkjkdkgaaGreat.Enc
set_option linter.unusedVariables false

/-- A sum's four bytes, the highest first. -/
def four (s : BitVec 32) : List UInt8 := [b8 (s.toNat / 16777216), b8 (s.toNat / 65536), b8 (s.toNat / 256), b8 s.toNat]
/-- A record. -/
def wrap (l : List UInt8) : List UInt8 := enc l.length ++ l ++ four (Crc.sum (enc l.length ++ l))
end Go.Proofs.YtmogoopkjkdkgaaGreat.Made
namespace Go.Proofs.YtmogoopkjkdkgaaGreat.Made
open Go Go.RowKit Go.Proofs.YtmogoopkjkdkgaaGreat.Words Go.Proofs.YtmogoopkjkdkgaaGreat.Enc
set_option linter.unusedVariables false

end Go.Proofs.YtmogoopkjkdkgaaGreat.Made
namespace Go.Proofs.YtmogoopkjkdkgaaGreat.Chk
open Go Go.RowKit Go.Proofs.YtmogoopkjkdkgaaGreat.Words Go.Proofs.YtmogoopkjkdkgaaGreat.Enc Go.Proofs.YtmogoopkjkdkgaaGreat.Made
set_option linter.unusedVariables false

end Go.Proofs.YtmogoopkjkdkgaaGreat.Chk
namespace Go.Proofs.YtmogoopkjkdkgaaGreat.Made
open Go Go.RowKit Go.Proofs.YtmogoopkjkdkgaaGreat.Words Go.Proofs.YtmogoopkjkdkgaaGreat.Enc
set_option linter.unusedVariables false

end Go.Proofs.YtmogoopkjkdkgaaGreat.Made

/- The two tables of package check, as the walks read them; the row's condition on them. -/
namespace Go.Proofs.YtmogoopkjkdkgaaGreat.Chk
open Go Go.RowKit Go.Proofs.YtmogoopkjkdkgaaGreat.Words
set_option linter.unusedVariables false

def lowInts : List Int := Crc.lowTab.map fun (n : Nat) => (n : Int)
def highInts : List Int := Crc.highTab.map fun (n : Nat) => (n : Int)
/-- What the rows list. -/
def listed : List (String × DataW Unit) := [("anabranch/check.low", Lib.tabData .u32 lowInts), ("anabranch/check.high", Lib.tabData .u32 highInts)]
end Go.Proofs.YtmogoopkjkdkgaaGreat.Chk

/- What is asked of package check, function by function. -/
namespace Go.Proofs.YtmogoopkjkdkgaaGreat.Chk
open Go Go.RowKit Go.Proofs.YtmogoopkjkdkgaaGreat.Words Go.Proofs.YtmogoopkjkdkgaaGreat.Enc Go.Proofs.YtmogoopkjkdkgaaGreat.Made
set_option linter.unusedVariables false

/-- n bytes, l, come back; what was there is as it was. -/
def Gives (n : Nat) (l : List UInt8) (w : World) (e : Ending) (w' : World) : Prop :=
  ∃ A c, e = .returned (.slice A n c) ∧ n ≤ c ∧ c ≤ 9223372036854775807 ∧ Sees w' A n l ∧ Below w.heap.size w w'
end Go.Proofs.YtmogoopkjkdkgaaGreat.Chk

/- check.Sum: its contract, where the tables lie in the world. -/
namespace Go.Proofs.YtmogoopkjkdkgaaGreat.Chk
open Go Go.RowKit Go.Proofs.YtmogoopkjkdkgaaGreat.Words
set_option linter.unusedVariables false

end Go.Proofs.YtmogoopkjkdkgaaGreat.Chk

/- digits.Tape: NewTape, Left, move, next, Byte, Num, Done where they don't give up; Caught where nothing has been given up. -/
namespace Go.Proofs.YtmogoopkjkdkgaaGreat.Tape
open Go Go.RowKit Go.Proofs.YtmogoopkjkdkgaaGreat.Words Go.Proofs.YtmogoopkjkdkgaaGreat.Enc
set_option linter.unusedVariables false

end Go.Proofs.YtmogoopkjkdkgaaGreat.Tape

/- anabranchref01.Lay: its contract. -/
namespace Go.Proofs.YtmogoopkjkdkgaaGreat.Made
open Go Go.RowKit Go.Proofs.YtmogoopkjkdkgaaGreat.Words Go.Proofs.YtmogoopkjkdkgaaGreat.Enc
set_option linter.unusedVariables false
/-- anabranchref01.Lay. -/
theorem refLay_any (A : Option Addr) (n c : Nat) (l : List UInt8) (x : Int) (w : World) (hs : Sees w A n l) (hn : n ≤ 1000000000) (hx0 : 0 ≤ x) (hx : x < 18446744073709551616) :
    Calls Tryz.prog 55 #[.slice A n c, .int .u64 x] w (New w.heap.size (n + (enc x.toNat).length) (l ++ enc x.toNat) w) := by
  obtain ⟨i, hi, hz, hsz, hby⟩ := info_parts info8
  go_enter Tryz.func55, Tryz.ntmps55
  go_wp2_with (first | (at_builtin; refine wpList_app rfl _ _ 29 rfl w.heap.size 5 i (.int .u8 0) Tryz.underlying29 hi hz hsz hby rfl none 0 0 [] rfl (Own.nil _ _ _) A n c l rfl hs ?d1 ?d2 ?_))
  case d1 => omega
  case d2 => exact Nat.le_refl _
  intro A1 c1 w1 hown hb1
  have hbase := hb1.size
  have hll := hs.1
  go_wp2_with fail
  go_loopw [5, 1] (fun p v wr => ∃ (A' : Option Addr) (k c' : Nat) (q : List UInt8) (y : Int), p = .slice A' k c' ∧ v = .int .u64 y ∧ 0 ≤ y ∧ y < 18446744073709551616 ∧
      wr.ownsRow w.heap.size 5 1 (.slice A' k c') k (cs q) ∧ Hid (q ++ enc y.toNat = l ++ enc x.toNat) ∧ Below w.heap.size w wr) (fun _ v _ => (intOf v).toNat)
  case atStart => exact ⟨A1, n, c1, l, x, by simp, rfl, hx0, hx, by simpa using hown, rfl, hb1⟩
  case round =>
    obtain ⟨A', k, c', q, y, rfl, rfl, hy0, hy1, hown', hq, hb⟩ := hrel
    have hk : k ≤ 1000000010 := by
      have h1 := congrArg List.length hq.out
      have h2 := hown'.1
      have h4 := enc_ten (n := x.toNat) (by omega)
      rw [cs_length] at h2
      simp only [List.length_append] at h1
      omega
    have hwb := hb.size
    by_cases hlt : 127 < y
    · go_wp2_with (first | (at_builtin; refine wpList_app rfl _ _ 29 rfl w.heap.size 5 i (.int .u8 0) Tryz.underlying29 hi hz hsz hby rfl A' k c' q rfl (hown'.alloc _) _ 1 1 [b8 (128 + y.toNat % 128)] rfl (Sees.fresh wr _ _ _ ?e1) ?e2 ?e3 ?_))
      case e1 => rw [b8_toNat]; omega
      case e2 => omega
      case e3 => exact Nat.le_trans hwb (by simp)
      intro A2 c2 w2 hown2 hb2
      go_wp2
      go_roundw
      case rel => exact ⟨A2, k + 1, c2, q ++ [b8 (128 + y.toNat % 128)], y / 128, rfl, rfl, by omega, by omega, hown2, by
        have h := hq.out
        rw [enc_great (by omega)] at h
        rw [show (y / 128).toNat = y.toNat / 128 by omega, ← h]
        simp [Hid], (hb.alloc hwb _).trans hb2⟩
      case measure => simp [intOf]; omega
    · go_wp2_with (first | (at_builtin; refine wpList_app rfl _ _ 29 rfl w.heap.size 5 i (.int .u8 0) Tryz.underlying29 hi hz hsz hby rfl A' k c' q rfl (hown'.alloc _) _ 1 1 [b8 y.toNat] rfl (Sees.fresh wr _ _ _ ?f1) ?f2 ?f3 ?_))
      case f1 => have := byte_low y hy0 (by omega); omega
      case f2 => omega
      case f3 => exact Nat.le_trans hwb (by simp)
      intro A2 c2 w2 hown2 hb2
      go_wp2
      go_ret
      have h := hq.out
      rw [enc_small (by omega)] at h
      have hl : n + (enc x.toNat).length = k + 1 := by
        have h1 := congrArg List.length h
        have h2 := hown'.1
        rw [cs_length] at h2
        simp only [List.length_append, List.length_cons, List.length_nil] at h1
        omega
      rw [hl, ← h]
      exact ⟨A2, c2, rfl, hown2, (hb.alloc hwb _).trans hb2⟩
theorem refText_any (A : Option Addr) (n c : Nat) (l : List UInt8) (S : Option Addr) (m k : Nat) (q : List UInt8) (w : World) (hs : Sees w A n l) (hq : Sees w S m q) (hn : n ≤ 1000000000) (hm : m ≤ 1000000000) :
    Calls Tryz.prog 58 #[.slice A n c, .slice S m k] w (New w.heap.size (n + (enc m).length + m) (l ++ enc m ++ q) w) := by
  obtain ⟨i, hi, hz, hsz, hby⟩ := info_parts info8
  have he := enc_ten (n := m) (by omega)
  go_enter Tryz.func58, Tryz.ntmps58
  go_wp2_with fail
  refine (refLay_any A n c l _ w hs hn (by omega) (by omega)).mono ?_
  rintro e w1 ⟨A1, c1, rfl, hown, hb⟩
  rw [Int.toNat_natCast] at hown ⊢
  have HQ := hq.below hb
  have hsz1 := hb.size
  go_wp2_with (first | (at_builtin; refine wpList_app rfl _ _ 29 rfl w.heap.size 5 i (.int .u8 0) Tryz.underlying29 hi hz hsz hby rfl A1 (n + (enc m).length) c1 (l ++ enc m) rfl hown S m k q rfl HQ ?d1 ?d2 ?_))
  case d1 => omega
  case d2 => exact hsz1
  intro A2 c2 w2 hown2 hb2
  go_wp2
  go_ret
  rw [List.append_assoc]
  exact ⟨A2, c2, rfl, hown2, hb.trans hb2⟩

end Go.Proofs.YtmogoopkjkdkgaaGreat.Made

/- anabranchref01.Sum: its contract. -/
namespace Go.Proofs.YtmogoopkjkdkgaaGreat.RefSum
open Go Go.RowKit Go.Proofs.YtmogoopkjkdkgaaGreat.Words
set_option linter.unusedVariables false

end Go.Proofs.YtmogoopkjkdkgaaGreat.RefSum

/- anabranchref01.Text and Wrap: their contracts. -/
namespace Go.Proofs.YtmogoopkjkdkgaaGreat.Made
open Go Go.RowKit Go.Proofs.YtmogoopkjkdkgaaGreat.Words Go.Proofs.YtmogoopkjkdkgaaGreat.Enc
set_option linter.unusedVariables false

end Go.Proofs.YtmogoopkjkdkgaaGreat.Made

/- anabranchref01.Fixed: its contract. -/
namespace Go.Proofs.YtmogoopkjkdkgaaGreat.Made
open Go Go.RowKit Go.Proofs.YtmogoopkjkdkgaaGreat.Words Go.Proofs.YtmogoopkjkdkgaaGreat.Enc
set_option linter.unusedVariables false
set_option maxRecDepth 100000 in
/-- anabranchref01.Fixed. -/
theorem refFixed_any (A : Option Addr) (n c : Nat) (l : List UInt8) (x : Int) (w : World) (hs : Sees w A n l) (hn : n ≤ 1000000000) (hx0 : 0 ≤ x) (hx : x < 18446744073709551616) :
    Calls Tryz.prog 56 #[.slice A n c, .int .u64 x] w (New w.heap.size (n + 8) (l ++ fix x.toNat) w) := by
  obtain ⟨i, hi, hz, hsz, hby⟩ := info_parts info8
  go_enter Tryz.func56, Tryz.ntmps56
  go_wp2_with (first | (at_builtin; refine wpList_app rfl _ _ 29 rfl w.heap.size 5 i (.int .u8 0) Tryz.underlying29 hi hz hsz hby rfl none 0 0 [] rfl (Own.nil _ _ _) A n c l rfl hs ?d1 ?d2 ?_))
  case d1 => omega
  case d2 => exact Nat.le_refl _
  intro A1 c1 w1 hown hb1
  have hbase := hb1.size
  go_wp2_with fail
  go_loopw [5, 6] (fun p v wr => ∃ (A' : Option Addr) (c' k : Nat), p = .slice A' (n + k) c' ∧ v = .int .i64 (k : Int) ∧ k ≤ 8 ∧
      wr.ownsRow w.heap.size 5 1 (.slice A' (n + k) c') (n + k) (cs (l ++ (fix x.toNat).take k)) ∧ Below w.heap.size w wr) (fun _ v _ => 8 - (intOf v).toNat)
  case atStart => exact ⟨A1, c1, 0, by simp, rfl, by omega, by simpa using hown, hb1⟩
  case round =>
    obtain ⟨A', c', k, rfl, rfl, hk, hown', hb⟩ := hrel
    have hwb := hb.size
    by_cases hlt : k < 8
    · go_wp2_with (first | (at_builtin; refine wpList_app rfl _ _ 29 rfl w.heap.size 5 i (.int .u8 0) Tryz.underlying29 hi hz hsz hby rfl A' (n + k) c' _ rfl (hown'.alloc _) _ 1 1 [b8 (x.toNat / 256 ^ (7 - k) % 256)] rfl (Sees.fresh wr _ _ _ ?e1) ?e2 ?e3 ?_))
      case e1 => rw [← fix_byte x k hx0, show 8 * (7 - k) = 56 - 8 * k by omega]
      case e2 => omega
      case e3 => exact Nat.le_trans hwb (by simp)
      intro A2 c2 w2 hown2 hb2
      go_wp2
      go_roundw
      case rel => exact ⟨A2, c2, k + 1, rfl, by go_num, by omega, by rw [fix_take _ _ hlt]; exact hown2, (hb.alloc hwb _).trans hb2⟩
      case measure => simp [intOf]; omega
    · have hk8 : k = 8 := by omega
      subst hk8
      go_wp2
      go_ret
      exact ⟨A', c', rfl, by rw [List.take_of_length_le (by simp [fix_length])] at hown'; exact hown', hb⟩
end Go.Proofs.YtmogoopkjkdkgaaGreat.Made
