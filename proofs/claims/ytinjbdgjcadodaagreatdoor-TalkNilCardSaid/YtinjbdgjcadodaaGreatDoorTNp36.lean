/- The law of layer 17: what it has behind its Write. Regions that draw their order, with an invariant of the world that knows which operations have come up: for operations that change older memory. No program: lemmas on regions. -/
import Derived.Test.YtinjbdgjcadodaaGreatDoorTNp05
import Derived.Test.YtinjbdgjcadodaaGreatDoorTNp35
namespace Go.Proofs.YtinjbdgjcadodaaGreatDoor.St
open Go Go.RowKit Go.Proofs.YtinjbdgjcadodaaGreatDoor.Words Go.Proofs.YtinjbdgjcadodaaGreatDoor.Enc Go.Proofs.YtinjbdgjcadodaaGreatDoor.Made Go.Proofs.YtinjbdgjcadodaaGreatDoor.Dsk Go.Proofs.YtinjbdgjcadodaaGreatDoor.Seg Go.Proofs.YtinjbdgjcadodaaGreatDoor.Evt
open Go.Proofs.YtinjbdgjcadodaaGreatDoor.Fd (XS xsX xsO xsC Feed FeedAt FNext Part SegS blk bx hdA Rise evsP)
open Go.Proofs.YtinjbdgjcadodaaGreatDoor.Mtx (noHav MatAt mat_new)
set_option linter.unusedVariables false
set_option linter.unusedSimpArgs false

def exDrop : Ev := ⟨0, 0, 0, 4, ⟨#[107]⟩, [], 0, 0⟩
theorem exDrop_e : rightE (asOwn exDrop 0 1 1) = 0 := by decide +kernel
theorem exDrop_fit : exDrop.Fit := ⟨by decide, by decide, by decide, by decide, by decide, by decide, by decide, by decide⟩
theorem exDrop_right : Right (asOwn exDrop 0 1 1) := (right_iff _).1 exDrop_e
theorem exDrop_plain : plainE (asOwn exDrop 0 1 1) = asOwn exDrop 0 1 1 := rfl
/-- A feed with one event is good. -/
theorem good_1 {x : Nat} {e : Ev} (hw : e.writer = (x : Int)) (hq : e.seq = 1) (hr : Right e) (hn : e.num < 18446744073709551616) (hp : plainE e = e) (ht : e.text.length ≤ 29) : Fd.Good x 0 1 [Part.full x (part1 x e)] := by
  refine ⟨⟨⟨rfl, by simp [Part.full, part1], ?_, Nat.le_refl _⟩, trivial⟩, by omega, by simp [evsP, Part.full, part1], by omega, by simp [evsP, Part.full, part1]⟩
  show Runs (x : Int) 1 [plainE e]
  rw [hp]
  exact ⟨⟨hw, hq, hr, hn, hp, ht⟩, trivial⟩
/-- How many events of each writer there are behind the law's Write. -/
def one17 (i : Nat) : Nat := if i = 0 then 1 else 0
/-- What the law has behind its Write. -/
structure Wrt (w0 w : World) (p d g mb tb ser : Nat) (s : Sto) : Prop where
  below : Below w0.heap.size w0 w
  base : w0.heap.size ≤ mb
  sto : StoAt w g s
  node : s.node = ((0 : Nat) : Int)
  ck : s.ck = 1
  nexts : ∀ W, Beside [mb, tb] w W → Nexts s one17 W
  mat : ser = 10 → MatAt mb (fun _ => noHav) w
  mlt : mb < w.heap.size
  tk : TalkAt w tb ser
  row : w.heap[p]? = some (.cells (sideRow d g mb tb) 44 (0, 0))
  ord : g < mb ∧ mb < tb ∧ tb < p
theorem Wrt.next {w0 w W : World} {p d g mb tb ser : Nat} {s : Sto} (h : Wrt w0 w p d g mb tb ser s) (hb : Below w.heap.size w W) : Wrt w0 W p d g mb tb ser s :=
  ⟨h.below.trans (hb.mono h.below.size), h.base, h.sto.below hb, h.node, h.ck, fun V hV => h.nexts V ((Beside.of_below hb _).trans hV fun k hk => .inl hk), fun e => (h.mat e).below hb, Nat.lt_of_lt_of_le h.mlt hb.size, h.tk.below hb, (hb.block p (Array.getElem?_eq_some_iff.1 h.row).1).trans h.row, h.ord⟩
theorem Wrt.begun {w0 w W : World} {p d g mb tb : Nat} {s : Sto} (h : Wrt w0 w p d g mb tb 10 s) (hb : Beside [mb, tb] w W) (ht : TalkAt W tb 11) : Wrt w0 W p d g mb tb 11 s :=
  ⟨Below.beside h.below hb h.below.size (by have := h.base; have := h.ord; simp; omega), h.base, h.sto.beside hb (by have := h.ord; simp; omega), h.node, h.ck, fun V hV => h.nexts V (hb.trans hV fun k hk => .inl hk), fun e => by omega, Nat.lt_of_lt_of_le h.mlt hb.size, ht, (hb.block p (Array.getElem?_eq_some_iff.1 h.row).1 (by have := h.ord; simp; omega)).trans h.row, h.ord⟩
set_option maxRecDepth 100000 in
set_option maxHeartbeats 1000000 in
/-- The law's Write. -/
theorem Side.writes {w0 wa w : World} {p d g mb tb : Nat} {s : Sto} {S : List Nat} {f : Nat} (h : Side w0 wa w p d g mb tb 10 s S f) (T : Chk.Tabs w0) (ST : STabs w0) :
    Calls Tryz.prog 7 #[ptrV g, exDrop.val none 0 0] w fun e w' => ∃ A n c s', e = .returned (.tuple #[(asOwn exDrop 0 1 1).val A n c, .int .i64 0]) ∧ Wrt w0 w' p d g mb tb 10 s' := by
  have hmbe := h.mbe
  have hmtl := h.mtl
  have htpl := h.tpl
  have hpl := (Array.getElem?_eq_some_iff.1 h.row).1
  have F2 := h.fr.next h.frame
  have hgl : g < wa.heap.size := h.fr.sto.lt
  have hSl : ∀ k ∈ S, k < wa.heap.size := h.fr.disk.lt
  have hfl : f < wa.heap.size := h.fr.bare.1.lt
  refine (Fresh.fineX [mb, tb] (fun k hk => by simp at hk; omega) F2 T ST (by omega) (by omega) (by omega) exDrop none 0 0 (Sees.nil _ _) exDrop_fit (by decide) (by decide) exDrop_e (fun h => by simp [exDrop] at h)).mono ?_
  rintro e w' ⟨⟨A', n', c', rfl, h2, h3, ⟨acts', O', h4, h5, h6⟩, h7⟩, h8⟩
  have hM : ∀ k ∈ [mb, tb], wa.heap.size ≤ k ∧ k < w.heap.size := fun k hk => by simp at hk; omega
  have hoff : ∀ k, wa.heap.size ≤ k → k ∉ g :: (S ++ [f]) := fun k hk hm => by
    rcases List.mem_cons.1 hm with rfl | hm
    · omega
    · rcases List.mem_append.1 hm with hm | hm
      · have := hSl k hm; omega
      · simp at hm; omega
  refine ⟨A', n', c', noteS s (asOwn exDrop 0 1 1), rfl, h8.below, by have := h.fr.below.size; omega, h3, h.fr.node, rfl, fun W hW i hi => ?_, fun _ => ?_, Nat.lt_of_lt_of_le (by omega) h7.size, h.tk.beside h7 (hoff tb (by omega)), (h7.block p hpl (hoff p (by omega))).trans h.row, ⟨by omega, hmtl, htpl⟩⟩
  · refine ⟨by unfold one17; split <;> omega, ?_⟩
    obtain ⟨f', i1, i2, i3, i4⟩ := F2.all i hi
    refine ⟨f', i1, fun V hV => ?_⟩
    by_cases hi0 : i = 0
    · subst hi0
      have hff : f' = f := by
        have h5 := F2.own
        rw [i1] at h5
        injection h5 with h5
        injection h5 with h5
        injection h5 with h5
        injection h5 with h5
      subst hff
      have hF := @feed_beside (ixS (g :: (w.heap.size + 1) :: [mb, tb]) 0 262144 h0_64 (by omega)) _ _ _ _ _ _ _ _ _ _ _ _ h5 _ hW (fun k hk => by
        show k ∈ g :: (w.heap.size + 1) :: [mb, tb]
        exact List.mem_cons_of_mem _ (List.mem_cons_of_mem _ hk)) (fun k hk hm => by
        have hk2 := hM k hk
        rcases h6 k hm with h9 | h9
        · exact hoff k hk2.1 (List.mem_cons_of_mem _ h9)
        · omega)
      have hF := @Fd.Feed.below (ixS (g :: (w.heap.size + 1) :: [mb, tb]) 0 262144 h0_64 (by omega)) _ _ _ _ _ _ _ _ _ _ _ _ hF hV
      have hG := good_1 (x := 0) (e := asOwn exDrop 0 1 1) rfl rfl exDrop_right (by decide) exDrop_plain (by decide)
      have := @Fd.nextF_any (ixS (g :: (w.heap.size + 1) :: [mb, tb]) 0 262144 h0_64 (by omega)) _ _ _ _ _ _ _ _ _ _ _ _ hF hG
      exact this
    · have hne : f' ∉ g :: (S ++ [f]) := fun hm => by
        rcases List.mem_cons.1 hm with rfl | hm
        · exact i3 (by simp)
        · rcases List.mem_append.1 hm with hm | hm
          · exact i3 (List.mem_cons_of_mem _ hm)
          · simp at hm
            subst hm
            have h9 := F2.bare.1
            unfold Bare at h9 i2
            rw [i2] at h9
            injection h9 with h9
            injection h9 with h9
            have := congrArg (fun r => r[1]?) h9
            simp [Fd.cells] at this
            omega
      have hB' := (h7.block f' i2.lt hne).trans i2
      have hW' := (hW.block f' (Nat.lt_of_lt_of_le i2.lt h7.size) (fun hm => by
        have := hM f' hm
        obtain ⟨f2, j1, j2, _⟩ := h.fr.all i hi
        rw [j1] at i1
        injection i1 with i1
        injection i1 with i1
        injection i1 with i1
        injection i1 with i1
        subst i1
        have := j2.lt
        omega)).trans hB'
      have hV' := (hV.block f' (Array.getElem?_eq_some_iff.1 hW').1).trans hW'
      have := Fd.next_bare d f' (i : Int) 100 0 0 none 0 0 V hV' (by omega)
      simp only [one17, hi0, if_false]
      exact this
  · exact mat_off h.mat h7 (hoff mb (by omega)) fun i _ a ha => by cases ha
/-- Begin, with anybody. -/
def begE (to : Int) : Int := if 0 < to ∧ to < 64 then 0 else 1
theorem Wrt.begins {w0 w : World} {p d g mb tb : Nat} {s : Sto} (h : Wrt w0 w p d g mb tb 10 s) (to : Int) :
    Calls Tryz.prog 8 #[ptrV tb, ptrV g, ptrV mb, .int .i64 to] w fun e w' => ∃ X : Array Value, e = .returned (.tuple #[.agg X, .int .i64 (begE to)]) ∧ (X.size = 14 ∧ X.all (·.oneCell') = true) ∧ (∃ ser, Wrt w0 w' p d g mb tb ser s) ∧ Beside [mb, tb] w w' := by
  unfold begE
  by_cases h0 : 0 ≤ to ∧ to < 64
  · by_cases h1 : to = 0
    · rw [if_neg (by omega)]
      refine (begin_self tb g mb 0 s to w h.sto h.node (by simpa using h1) (by omega)).mono ?_
      rintro e w' ⟨rfl, hb⟩
      exact ⟨lzero, rfl, ⟨rfl, by simp [lzero, Value.oneCell']⟩, ⟨10, h.next hb⟩, Beside.of_below hb _⟩
    · rw [if_pos (by omega)]
      obtain ⟨t, rfl⟩ := Int.eq_ofNat_of_zero_le h0.1
      have ho := h.ord
      refine (begin_ok tb g mb 0 t 10 s one17 w h.sto h.node (by omega) (by rw [h.ck]; omega) h.nexts (h.mat rfl) h.tk (by omega) (by omega) (by omega) (by omega) (by omega) (by omega)).mono ?_
      rintro e w' ⟨A, n, c, A2, n2, c2, rfl, h2, h3⟩
      exact ⟨_, rfl, ⟨rfl, by simp [lrow, Value.oneCell']⟩, ⟨11, h.begun h3 h2⟩, h3⟩
  · rw [if_neg (by omega)]
    refine (begin_none tb g mb 0 s to w h.sto h.node h0).mono ?_
    rintro e w' ⟨rfl, hb⟩
    exact ⟨lzero, rfl, ⟨rfl, by simp [lzero, Value.oneCell']⟩, ⟨10, h.next hb⟩, Beside.of_below hb _⟩
end Go.Proofs.YtinjbdgjcadodaaGreatDoor.St
namespace Go.Proofs.YtinjbdgjcadodaaGreatDoor.Facts
open Go Go.RowKit Go.Proofs.YtinjbdgjcadodaaGreatDoor.Words
set_option linter.unusedVariables false
set_option linter.unusedSimpArgs false

/-- Operation j waits for operation i. -/
def waits (ops : Array Oper) (j i : Nat) : Bool := ((ops[j]?).map fun o => o.after.any fun e => Region.binds .any e && e.on == i).getD false
section
variable {P : Program} {ops : Array Oper} {a0 : Act} {I : (Nat → Bool) → Act → World → Prop} {R : World → World → Prop} {Fact : Nat → Value → World → Prop}

/-- What is to be shown of operation j. -/
def StepI (P : Program) (ops : Array Oper) (a0 : Act) (I : (Nat → Bool) → Act → World → Prop) (R : World → World → Prop) (Fact : Nat → Value → World → Prop) (j : Nat) (o : Oper) : Prop :=
  ∀ (s : Nat → Bool) (a : Act) (w : World), a.tmps.size = a0.tmps.size → s j = false → (∀ i, waits ops j i = true → s i = true) → I s a w → (∀ t, early ops j t = true → a.tmps.getD t undef = a0.tmps.getD t undef) → (∀ i d, dep ops j i d = true → Fact i (a.tmps.getD d undef) w) →
    (Region.wanted o (yielded ops a.tmps) = true → ∀ (K : Act → World → Prop) (Q : Exit → Act → World → Prop), (∀ v w', I (fun i => s i || i == j) (a.put o.dst v) w' → R w w' → Fact j v w' → K (a.put o.dst v) w') → o.wp P a w K Q) ∧
    (Region.wanted o (yielded ops a.tmps) = false → Fact j undef w ∧ I (fun i => s i || i == j) (a.put o.dst undef) w)

structure InvI (ops : Array Oper) (a0 : Act) (I : (Nat → Bool) → Act → World → Prop) (Fact : Nat → Value → World → Prop) (listed : Array Bool) (a : Act) (w : World) : Prop where
  len : listed.size = ops.size
  size : a.tmps.size = a0.tmps.size
  defers : a.defers = a0.defers
  inv : I (fun i => listed.getD i false) a w
  new : ∀ i d, listed.getD i false = true → (ops[i]?).bind (·.dst) = some d → Fact i (a.tmps.getD d undef) w
  old : ∀ t, (∀ i, listed.getD i false = true → (ops[i]?).bind (·.dst) ≠ some t) → a.tmps.getD t undef = a0.tmps.getD t undef
  closed : ∀ i o, ops[i]? = some o → listed.getD i false = true → ∀ e ∈ o.after, Region.binds .any e = true → listed.getD e.on false = true

theorem wpAny_factsI {n : Nat} (hs : sound n ops = true) (hn : a0.tmps.size = n) (refl : ∀ a, R a a)
    (mono : ∀ i v w w', Fact i v w → R w w' → Fact i v w')
    (hstep : ∀ j o, ops[j]? = some o → StepI P ops a0 I R Fact j o)
    {Q : Exit → Act → World → Prop}
    (hend : ∀ a w, InvI ops a0 I Fact (Array.replicate ops.size true) a w → Q .normal a w) :
    ∀ (fuel : Nat) (listed : Array Bool) (a : Act) (w : World), InvI ops a0 I Fact listed a w → listed.toList.count false ≤ fuel → wpAny P .any ops Q fuel listed a w := by
  have fin : ∀ (listed : Array Bool) (a : Act) (w : World), InvI ops a0 I Fact listed a w → (∀ i, i < ops.size → listed.getD i false = true) → Q .normal a w := by
    intro listed a w hI hall
    have : listed = Array.replicate ops.size true := by
      apply Array.ext
      · simp [hI.len]
      · intro i h1 h2
        have := hall i (by rw [← hI.len]; exact h1)
        simpa [h1] using this
    subst this
    exact hend a w hI
  intro fuel
  induction fuel with
  | zero =>
    intro listed a w hI hc
    have hall : ∀ i, i < ops.size → listed.getD i false = true := by
      intro i hi
      have h0 : listed.toList.count false = 0 := by omega
      rw [List.count_eq_zero] at h0
      have hi' : i < listed.size := by rw [hI.len]; exact hi
      cases hb : listed[i] with
      | true => simp [hi', hb]
      | false => exact absurd (by rw [← hb]; simp) h0
    refine ⟨?_, fin listed a w hI hall⟩
    rw [List.eq_nil_iff_forall_not_mem]
    intro j hj
    obtain ⟨h1, o, ho, _⟩ := mem_ready.1 hj
    have hjs : j < ops.size := (Array.getElem?_eq_some_iff.1 ho).1
    have hjl : j < listed.size := by rw [hI.len]; exact hjs
    have := hall j hjs
    simp [hjl] at this h1
    rw [this] at h1
    cases h1
  | succ fuel ih =>
    intro listed a w hI hc
    refine ⟨fun hr => fin listed a w hI (all_listed hs hI.len hr), fun j hj => ?_⟩
    obtain ⟨h1, o, ho, hedge⟩ := mem_ready.1 hj
    have hjs : j < ops.size := (Array.getElem?_eq_some_iff.1 ho).1
    have hjl : j < listed.size := by rw [hI.len]; exact hjs
    have hjf : listed[j] = false := by simpa [hjl] using h1
    have hjn : listed.getD j false = false := by simp [hjl, hjf]
    have early_ok : ∀ t, early ops j t = true → a.tmps.getD t undef = a0.tmps.getD t undef := by
      intro t ht
      refine hI.old t fun i hi hd => ?_
      have his : i < ops.size := by
        rcases Nat.lt_or_ge i ops.size with h' | h'
        · exact h'
        · rw [Array.getElem?_eq_none h'] at hd; cases hd
      simp only [early, List.all_eq_true, List.mem_range] at ht
      have := ht i his
      rw [hd] at this
      simp only [bne_self_eq_false, Bool.false_or, Bool.or_eq_true, beq_iff_eq] at this
      rcases this with rfl | this
      · rw [hjn] at hi; cases hi
      · rw [Array.getElem?_eq_getElem his] at this
        simp only [Option.map_some, Option.getD_some] at this
        obtain ⟨e, he, hb⟩ := Array.any_eq_true'.1 this
        simp only [Bool.and_eq_true, beq_iff_eq] at hb
        have := hI.closed i _ (Array.getElem?_eq_getElem his) hi e he hb.1
        rw [hb.2, hjn] at this
        cases this
    have wait_ok : ∀ i, waits ops j i = true → listed.getD i false = true := by
      intro i hw
      simp only [waits, ho, Option.map_some, Option.getD_some] at hw
      obtain ⟨e, he, hb⟩ := Array.any_eq_true'.1 hw
      simp only [Bool.and_eq_true, beq_iff_eq] at hb
      rw [← hb.2]
      exact hedge e he hb.1
    have dep_ok : ∀ i d, dep ops j i d = true → Fact i (a.tmps.getD d undef) w := by
      intro i d hd
      simp only [dep, ho, Option.map_some, Option.getD_some, Bool.and_eq_true, beq_iff_eq] at hd
      obtain ⟨e, he, hb⟩ := Array.any_eq_true'.1 hd.1
      simp only [Bool.and_eq_true, beq_iff_eq] at hb
      exact hI.new i d (by rw [← hb.2]; exact hedge e he hb.1) hd.2
    obtain ⟨s1, s2⟩ := hstep j o ho (fun i => listed.getD i false) a w hI.size hjn (fun i hw => wait_ok i hw) hI.inv early_ok dep_ok
    have next : ∀ v w', I (fun i => (fun i => listed.getD i false) i || i == j) (a.put o.dst v) w' → R w w' → Fact j v w' → wpAny P .any ops Q fuel (listed.setIfInBounds j true) (a.put o.dst v) w' := by
      intro v w' hII hR hF
      have hlist : ∀ i, (listed.setIfInBounds j true).getD i false = true ↔ i = j ∨ listed.getD i false = true := by
        intro i
        by_cases hij : i = j
        · subst hij; simp [hjl]
        · rw [getD_set_ne false (Ne.symm hij)]; simp [hij]
      have hsame : (fun i => (listed.setIfInBounds j true).getD i false) = fun i => (fun i => listed.getD i false) i || i == j := by
        funext i
        have := hlist i
        by_cases hij : i = j
        · subst hij; rw [this.2 (.inl rfl)]; simp
        · rw [getD_set_ne false (Ne.symm hij)]; simp [hij]
      refine ih _ _ _ ⟨by simp [hI.len], by rw [size_put]; exact hI.size, by rw [defers_put]; exact hI.defers, (by rw [hsame]; exact hII), ?_, ?_, ?_⟩ ?_
      · intro i d hi hd
        rcases (hlist i).1 hi with rfl | hi'
        · rw [ho] at hd
          have hd' : o.dst = some d := hd
          rw [hd', getD_put_same (by rw [hI.size, hn]; exact sound_dst hs (by rw [ho]; exact hd))]
          exact hF
        · have hne : ∀ d', o.dst = some d' → d ≠ d' := by
            rintro d' hd' rfl
            have : i = j := sound_ne hs hd (by rw [ho]; exact hd')
            subst this
            rw [hjn] at hi'; cases hi'
          have keep : (a.put o.dst v).tmps.getD d undef = a.tmps.getD d undef := by
            cases hod : o.dst with
            | none => rfl
            | some d' => exact getD_put_other (hne d' hod)
          rw [keep]
          exact mono i _ w w' (hI.new i d hi' hd) hR
      · intro t ht
        have hne : ∀ d', o.dst = some d' → t ≠ d' := by
          rintro d' hd' rfl
          exact ht j ((hlist j).2 (.inl rfl)) (by rw [ho]; exact hd')
        have keep : (a.put o.dst v).tmps.getD t undef = a.tmps.getD t undef := by
          cases hod : o.dst with
          | none => rfl
          | some d' => exact getD_put_other (hne d' hod)
        rw [keep]
        exact hI.old t fun i hi => ht i ((hlist i).2 (.inr hi))
      · intro i o' ho' hi e he hb
        rcases (hlist i).1 hi with rfl | hi'
        · rw [ho] at ho'
          injection ho' with ho'
          subst ho'
          exact (hlist _).2 (.inr (hedge e he hb))
        · exact (hlist _).2 (.inr (hI.closed i o' ho' hi' e he hb))
      · have hjl' : j < listed.toList.length := by simpa using hjl
        have hcs := List.count_set (a := true) (b := false) hjl'
        have hset : (listed.setIfInBounds j true).toList = listed.toList.set j true := by simp
        rw [hset, hcs]
        have hpos : 0 < listed.toList.count false := by
          rw [List.count_pos_iff]
          exact List.mem_iff_getElem.2 ⟨j, hjl', by simpa using hjf⟩
        have e : listed.toList[j] = false := by simpa using hjf
        rw [e, if_pos (show (false == false) = true from rfl), if_neg (show ¬ (true == false) = true by decide)]
        omega
    unfold wpOp
    simp only [ho]
    split
    · rename_i hw
      exact .inl (s1 hw _ _ next)
    · rename_i hw
      exact next undef w (s2 (by simpa using hw)).2 (refl w) (s2 (by simpa using hw)).1

/-- A fact on a value that stays true under R. -/
structure PredR (R : World → World → Prop) where
  p : Value → World → Prop
  mono : ∀ v w w', p v w → R w w' → p v w'
def PredR.is {R : World → World → Prop} (u : Value) : PredR R := ⟨fun v _ => v = u, fun _ _ _ h _ => h⟩
def PredR.any {R : World → World → Prop} : PredR R := ⟨fun _ _ => True, fun _ _ _ h _ => h⟩
def PredR.that {R : World → World → Prop} (q : Value → Prop) : PredR R := ⟨fun v _ => q v, fun _ _ _ h _ => h⟩
def holdsR {R : World → World → Prop} (L : List (PredR R)) (i : Nat) (v : Value) (w : World) : Prop := (L.getD i PredR.any).p v w
def AllI (P : Program) (ops : Array Oper) (a0 : Act) (I : (Nat → Bool) → Act → World → Prop) (R : World → World → Prop) (L : List (PredR R)) : Nat → List Oper → Prop
  | _, [] => True
  | k, o :: r => StepI P ops a0 I R (holdsR L) k o ∧ AllI P ops a0 I R L (k + 1) r
theorem AllI.step {R : World → World → Prop} {L : List (PredR R)} : ∀ {l : List Oper} {k : Nat}, AllI P ops a0 I R L k l → ∀ j o, l[j]? = some o → StepI P ops a0 I R (holdsR L) (k + j) o
  | [], _, _, _, _, h => by simp at h
  | o :: r, k, h, 0, o', ho => by simp at ho; subst ho; exact h.1
  | o :: r, k, h, j + 1, o', ho => by
    have := AllI.step h.2 j o' (by simpa using ho)
    rw [show k + (j + 1) = k + 1 + j by omega]
    exact this
/-- A region that draws its order. -/
theorem wp_region_inv (I : (Nat → Bool) → Act → World → Prop) (R : World → World → Prop) {n : Nat} {l : List Oper} {id : Nat} {w : World} {Q : Exit → Act → World → Prop} (hm : P.follows .mixedOrders = true) (hs : sound n l.toArray = true) (hn : a0.tmps.size = n) (refl : ∀ a, R a a)
    (L : List (PredR R)) (h0 : I (fun _ => false) a0 w.drew) (hall : AllI P l.toArray a0 I R L 0 l)
    (hend : ∀ a w', I (fun i => decide (i < l.length)) a w' → a.tmps.size = n → a.defers = a0.defers → (∀ i d, (l.toArray[i]?).bind (·.dst) = some d → holdsR L i (a.tmps.getD d undef) w') →
      (∀ t : Nat, (∀ i : Nat, (l.toArray[i]?).bind (·.dst) ≠ some t) → a.tmps.getD t undef = a0.tmps.getD t undef) → Q .normal a w') :
    (Code.region id l.toArray true).wp P Q a0 w := by
  refine wp_region_any hm ?_
  refine wpAny_factsI (I := I) (R := R) (Fact := holdsR L) hs hn refl (fun i v w1 w2 h hb => (L.getD i PredR.any).mono v w1 w2 h hb)
    (fun j o ho => by have := hall.step j o (by simpa using ho); rwa [Nat.zero_add] at this) (fun a w' hI => ?_) _ _ _ _
    ⟨by simp, rfl, rfl, ?_, ?_, fun _ _ => rfl, ?_⟩ ?_
  · have hL : (fun i => (Array.replicate l.toArray.size true).getD i false) = fun i => decide (i < l.length) := by
      funext i
      rw [Array.getD_eq_getD_getElem?, Array.getElem?_replicate]
      by_cases h : i < l.length <;> simp [h]
    refine hend a w' (by have := hI.inv; rwa [hL] at this) (by rw [hI.size, hn]) hI.defers (fun i d hd => hI.new i d ?_ hd) fun t ht => hI.old t fun i _ => ht i
    have : i < l.toArray.size := by
      rcases Nat.lt_or_ge i l.toArray.size with h' | h'
      · exact h'
      · rw [Array.getElem?_eq_none h'] at hd; cases hd
    simp at this
    simp [this]
  · have : (fun i => (Array.replicate l.toArray.size false).getD i false) = fun _ => false := by funext i; exact none_listed _ i
    rw [this]
    exact h0
  · intro i d hi
    rw [none_listed] at hi
    cases hi
  · intro i o _ hi
    rw [none_listed] at hi
    cases hi
  · have := List.count_le_length (a := false) (l := (Array.replicate l.toArray.size false).toList)
    rw [Array.length_toList, Array.size_replicate] at this
    exact this
/-- An operation that yields one value and leaves the world alone. -/
theorem stepI_is {L : List (PredR R)} {j : Nat} {o : Oper} (u : Value) (refl : ∀ a, R a a)
    (h : ∀ (s : Nat → Bool) (a : Act) (w : World), a.tmps.size = a0.tmps.size → s j = false → (∀ i, waits ops j i = true → s i = true) → I s a w → (∀ t, early ops j t = true → a.tmps.getD t undef = a0.tmps.getD t undef) → (∀ i d, dep ops j i d = true → holdsR L i (a.tmps.getD d undef) w) →
      Region.wanted o (yielded ops a.tmps) = true ∧ (execOp a.eval o).run P w = .ok (.value u) w ∧ I (fun i => s i || i == j) (a.put o.dst u) w ∧ ∀ w, holdsR L j u w) : StepI P ops a0 I R (holdsR L) j o := by
  intro s a w hsz hsj hwt hI hold hnew
  obtain ⟨hw, hr, hI2, hF⟩ := h s a w hsz hsj hwt hI hold hnew
  refine ⟨fun _ K Q hK => ?_, fun hf => by rw [hw] at hf; cases hf⟩
  unfold Oper.wp
  rw [hr]
  exact hK u w hI2 (refl _) (hF w)
/-- An operation that may make memory, or change it. -/
theorem stepI_new {L : List (PredR R)} {j : Nat} {o : Oper}
    (h : ∀ (s : Nat → Bool) (a : Act) (w : World), a.tmps.size = a0.tmps.size → s j = false → (∀ i, waits ops j i = true → s i = true) → I s a w → (∀ t, early ops j t = true → a.tmps.getD t undef = a0.tmps.getD t undef) → (∀ i d, dep ops j i d = true → holdsR L i (a.tmps.getD d undef) w) →
      Region.wanted o (yielded ops a.tmps) = true ∧ ∃ u w', (execOp a.eval o).run P w = .ok (.value u) w' ∧ I (fun i => s i || i == j) (a.put o.dst u) w' ∧ R w w' ∧ holdsR L j u w') : StepI P ops a0 I R (holdsR L) j o := by
  intro s a w hsz hsj hwt hI hold hnew
  obtain ⟨hw, u, w', hr, hI2, hb, hF⟩ := h s a w hsz hsj hwt hI hold hnew
  refine ⟨fun _ K Q hK => ?_, fun hf => by rw [hw] at hf; cases hf⟩
  unfold Oper.wp
  rw [hr]
  exact hK u w' hI2 hb hF
/-- An operation that yields nothing. -/
theorem stepI_store {L : List (PredR R)} {j : Nat} {o : Oper}
    (h : ∀ (s : Nat → Bool) (a : Act) (w : World), a.tmps.size = a0.tmps.size → s j = false → (∀ i, waits ops j i = true → s i = true) → I s a w → (∀ t, early ops j t = true → a.tmps.getD t undef = a0.tmps.getD t undef) → (∀ i d, dep ops j i d = true → holdsR L i (a.tmps.getD d undef) w) →
      Region.wanted o (yielded ops a.tmps) = true ∧ ∃ w', (execOp a.eval o).run P w = .ok .skip w' ∧ I (fun i => s i || i == j) (a.put o.dst undef) w' ∧ R w w' ∧ holdsR L j undef w') : StepI P ops a0 I R (holdsR L) j o := by
  intro s a w hsz hsj hwt hI hold hnew
  obtain ⟨hw, w', hr, hI2, hb, hF⟩ := h s a w hsz hsj hwt hI hold hnew
  refine ⟨fun _ K Q hK => ?_, fun hf => by rw [hw] at hf; cases hf⟩
  unfold Oper.wp
  rw [hr]
  exact hK undef w' hI2 hb hF
/-- A call, by its contract. -/
theorem stepI_call {L : List (PredR R)} {j : Nat} {o : Oper}
    (h : ∀ (s : Nat → Bool) (a : Act) (w : World), a.tmps.size = a0.tmps.size → s j = false → (∀ i, waits ops j i = true → s i = true) → I s a w → (∀ t, early ops j t = true → a.tmps.getD t undef = a0.tmps.getD t undef) → (∀ i d, dep ops j i d = true → holdsR L i (a.tmps.getD d undef) w) →
      Region.wanted o (yielded ops a.tmps) = true ∧ ∃ f args, (execOp a.eval o).run P w = .ok (.enter f args) w ∧ Calls P f args w fun e w' => ∃ v, e = .returned v ∧ I (fun i => s i || i == j) (a.put o.dst v) w' ∧ R w w' ∧ holdsR L j v w') :
    StepI P ops a0 I R (holdsR L) j o := by
  intro s a w hsz hsj hwt hI hold hnew
  obtain ⟨hw, f, args, hr, hc⟩ := h s a w hsz hsj hwt hI hold hnew
  refine ⟨fun _ K Q hK => ?_, fun hf => by rw [hw] at hf; cases hf⟩
  unfold Oper.wp
  rw [hr]
  refine hc.mono ?_
  rintro e w' ⟨v, rfl, hI2, hb, hF⟩
  exact hK v w' hI2 hb hF
end
/-- A row that is read whole. -/
theorem exec_getRow {P : Program} {W : World} {op : Oper} {a : Act} (ty : TypeId) (x : Operand) (ho : op.op = .load ty x) (b : Nat) (e : TypeId) (cs : Array Value) (fr : Nat × Nat) (d : TypeDesc) (hx : a.eval x = .pointer (some ⟨b, 0, none⟩)) (hb : W.heap[b]? = some (.cells cs e fr)) (hu : P.underlying ty = some d) (hd : (match d with | .struct _ | .array _ _ => true | _ => false) = true) (hi : (P.info? ty).map (·.size) = some cs.size) :
    (execOp a.eval op).run P W = .ok (.value (.agg cs)) W := by
  unfold execOp
  simp only [ho, hx, Instr.loadAt, Instr.sureAddr, Sem.run_bind, Sem.run_pure, Result.andThen_ok, run_loadVar_row W b e ty cs fr d hb hu hd hi]
/-- A row that is written whole. -/
theorem exec_putRow {P : Program} {W : World} {op : Oper} {a : Act} (ty : TypeId) (x y : Operand) (ho : op.op = .store ty x y) (b : Nat) (e : TypeId) (cur vs : Array Value) (hx : a.eval x = .pointer (some ⟨b, 0, none⟩)) (hy : a.eval y = .agg vs) (hb : W.heap[b]? = some (.cells cur e (0, 0))) (hi : (P.info? ty).map (·.size) = some vs.size) (hs : cur.size = vs.size) (h1 : vs.all (·.oneCell') = true) :
    (execOp a.eval op).run P W = .ok .skip (W.setRow b vs) := by
  unfold execOp
  simp only [ho, hx, hy, Instr.storeAt, Instr.sureAddr, Sem.run_bind, Sem.run_pure, Result.andThen_ok, run_storeVar_row W b e ty cur vs hb hi hs h1]
/-- Boxes of n cells of type T that are newer than B stay such boxes. -/
def BoxR (T : TypeId) (n B : Nat) (a b : World) : Prop := ∀ k X, B ≤ k → a.heap[k]? = some (.cells X T (0, 0)) → X.size = n → X.all (·.oneCell') = true → ∃ Y, b.heap[k]? = some (.cells Y T (0, 0)) ∧ Y.size = n ∧ Y.all (·.oneCell') = true
theorem BoxR.refl (T : TypeId) (n B : Nat) (a : World) : BoxR T n B a a := fun k X _ h h1 h2 => ⟨X, h, h1, h2⟩
theorem BoxR.beside {T : TypeId} {n B : Nat} {a b : World} {D : List Nat} (h : Beside D a b) (hD : ∀ k ∈ D, k < B) : BoxR T n B a b :=
  fun k X hk hx h1 h2 => ⟨X, (h.block k (Array.getElem?_eq_some_iff.1 hx).1 (fun hm => by have := hD k hm; omega)).trans hx, h1, h2⟩
theorem BoxR.below {T : TypeId} {n B : Nat} {a b : World} (h : Below a.heap.size a b) : BoxR T n B a b := BoxR.beside (Beside.of_below h []) fun k hk => by cases hk
theorem BoxR.stored {T T' : TypeId} {n B : Nat} {W : World} {x : Nat} {X vs : Array Value} (hx : W.heap[x]? = some (.cells X T' (0, 0))) (hs : vs.size = n) (h1 : vs.all (·.oneCell') = true) : BoxR T n B W (W.setRow x vs) := fun k Y hk hY hn hone => by
  by_cases e : k = x
  · subst e
    rw [hx] at hY
    injection hY with hY
    injection hY with hY hT hf
    subst hY
    subst hT
    exact ⟨vs, heap_setRow hx, hs, h1⟩
  · exact ⟨Y, ((setRow_beside W x vs).block k (Array.getElem?_eq_some_iff.1 hY).1 (by simp; exact e)).trans hY, hn, hone⟩
end Go.Proofs.YtinjbdgjcadodaaGreatDoor.Facts
