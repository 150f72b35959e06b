/- disk.New, On, act, fits, open: their contracts. -/
import Derived.Test.YtokfajlmephdeaaDoorDiskNamed
import Derived.Deep.QuietTactic
import Derived.BigQuiet
import Derived.Outline
namespace Go.Proofs.YtokfajlmephdeaaDoor.Dsk
open Go Go.RowKit Go.Proofs.YtokfajlmephdeaaDoor.Words
set_option linter.unusedVariables false

/-- A call on the disk at d: what it answers, what it makes of the disk; it has turned nothing but what the disk has, and what is new. -/
def Does (d mb : Nat) (fs : List Fil) (w : World) (fs' : List Fil) (h' : Hd) (w' : World) : Prop :=
  DiskAt w' d mb fs' h' ∧ Beside (own d mb fs) w w' ∧ ∀ k ∈ own d mb fs', k ∈ own d mb fs ∨ w.heap.size ≤ k
theorem Does.next {d mb : Nat} {fs fs1 fs2 : List Fil} {h1 h2 : Hd} {w w1 w2 : World} (a : Does d mb fs w fs1 h1 w1) (b : Does d mb fs1 w1 fs2 h2 w2) : Does d mb fs w fs2 h2 w2 :=
  ⟨b.1, a.2.1.trans b.2.1 a.2.2, fun k hk => by
    rcases b.2.2 k hk with h | h
    · exact a.2.2 k h
    · have := a.2.1.size; exact .inr (by omega)⟩
theorem Does.below {d mb : Nat} {fs fs1 : List Fil} {h1 : Hd} {w w0 w1 : World} (h : Below w0.heap.size w0 w) (a : Does d mb fs w fs1 h1 w1) : Does d mb fs w0 fs1 h1 w1 :=
  ⟨a.1, (Beside.of_below h (own d mb fs)).trans a.2.1 fun x hx => .inl hx, fun k hk => by
    rcases a.2.2 k hk with h1 | h1
    · exact .inl h1
    · have := h.size; exact .inr (by omega)⟩
theorem Does.head {d mb : Nat} {fs : List Fil} {h h' : Hd} {w w' : World} (hd : DiskAt w d mb fs h) (hb : Beside [d] w w') (hh : HeadAt w' d mb (total fs) h') : Does d mb fs w fs h' w' :=
  ⟨hd.turnHead hb hh, hb.wider fun x hx => by simp at hx; subst hx; exact .inl (by simp [own]), fun k hk => .inl hk⟩
theorem Does.same {d mb : Nat} {fs : List Fil} {h : Hd} {w : World} (hd : DiskAt w d mb fs h) : Does d mb fs w fs h w := ⟨hd, Beside.refl _ _, fun k hk => .inl hk⟩

/-- Numbers that a disk may bear. -/
def Hd.fits (h : Hd) : Prop := (-9223372036854775808 ≤ h.room ∧ h.room ≤ 9223372036854775807) ∧ h.acts ≤ 1000000000000 ∧ (-9223372036854775808 ≤ h.left ∧ h.left ≤ 9223372036854775807) ∧ (-9223372036854775808 ≤ h.torn ∧ h.torn ≤ 9223372036854775807)

set_option maxRecDepth 100000 in
theorem new_any (room : Int) (w : World) :
    Calls Tryd.prog 10 #[.int .i64 room] w fun e w' => e = .returned (.pointer (some ⟨w.heap.size + 1, 0, none⟩)) ∧ DiskAt w' (w.heap.size + 1) w.heap.size [] ⟨room, 0, -1, 0, false⟩ ∧ Below w.heap.size w w' := by
  have hmk := run_makeMap (P := Tryd.prog) 55 w
  go_enter Tryd.func10, Tryd.ntmps10
  go_wp2
  go_ret
  refine ⟨by simp, ⟨?_, ?_, fun f hf => (by cases hf), ?_, by simp, fun f hf => (by cases hf)⟩, ((Below.refl _ _).alloc (Nat.le_refl _) _).alloc (by simp) _⟩
  · unfold HeadAt total
    have := heap_alloc_new (w.alloc (.map #[] 0)) (.cells #[.map (some w.heap.size), .int .i64 room, .int .i64 0, .int .i64 0, .int .i64 (-1), .int .i64 0, .bool false] 57)
    simpa using this
  · exact (mapAt_made w).kept (Below.heap_alloc _ _ _ (by simp))
  · simp [own]

theorem on_any (d mb : Nat) (fs : List Fil) (h : Hd) (w : World) (hd : DiskAt w d mb fs h) :
    Calls Tryd.prog 30 #[.pointer (some ⟨d, 0, none⟩)] w fun e w' => e = .returned (.bool !h.off) ∧ w = w' := by
  obtain ⟨_, _, _, _, _, _, c6⟩ := hd.head.cells
  go_enter Tryd.func30, Tryd.ntmps30
  go_wp2
  go_ret
  exact ⟨rfl, rfl⟩

/-- What an operation makes of the struct, and whether it may be done. -/
def Hd.act (h : Hd) : Hd := if h.off then h else { h with acts := h.acts + 1, left := if 0 < h.left then h.left - 1 else h.left, off := decide (h.left = 0) }
def Hd.may (h : Hd) : Bool := !h.off && !decide (h.left = 0)

set_option maxRecDepth 100000 in
theorem act_any (d mb : Nat) (fs : List Fil) (h : Hd) (w : World) (hd : DiskAt w d mb fs h) (hf : h.fits) :
    Calls Tryd.prog 35 #[.pointer (some ⟨d, 0, none⟩)] w fun e w' => e = .returned (.bool h.may) ∧ Does d mb fs w fs h.act w' := by
  obtain ⟨_, _, _, c3, c4, _, c6⟩ := hd.head.cells
  have f3 := hd.head.frozen 3
  have f4 := hd.head.frozen 4
  have f6 := hd.head.frozen 6
  obtain ⟨_, hacts, hleft, _⟩ := hf
  have hhead := hd.head
  unfold HeadAt at hhead
  cases hoff : h.off with
  | true =>
    rw [hoff] at c6
    go_enter Tryd.func35, Tryd.ntmps35
    go_wp2_with fail
    refine (on_any d mb fs h w hd).mono ?_
    rintro e w1 ⟨rfl, rfl⟩
    rw [hoff]
    go_wp2
    go_ret
    refine ⟨by simp [Hd.may, hoff], ?_⟩
    have : h.act = h := by simp [Hd.act, hoff]
    rw [this]
    exact Does.same hd
  | false =>
    rw [hoff] at c6
    have HH := Lib.hid hhead
    clear hhead
    have hw : IntKind.i64.wrap ((h.acts : Int) + 1) = (h.acts : Int) + 1 := IntWalk.i64_in _ (by omega)
    rcases Int.lt_trichotomy h.left 0 with hl | hl | hl
    · have t1 : (h.left == 0) = false := by rw [beq_eq_false_iff_ne]; omega
      have t2 : decide (0 < h.left) = false := by simp; omega
      have n1 : ¬ h.left = 0 := by omega
      have n2 : ¬ 0 < h.left := by omega
      have N := Lib.hid (And.intro n1 n2)
      clear n1 n2
      go_enter Tryd.func35, Tryd.ntmps35
      go_wp2_with fail
      refine (on_any d mb fs h w hd).mono ?_
      rintro e w1 ⟨rfl, rfl⟩
      rw [hoff]
      go_wp2
      go_ret
      obtain ⟨n1, n2⟩ := N.out
      refine ⟨by simp [Hd.may, hoff, n1], Does.head hd (((Beside.refl _ _).setCell (by simp) _).setCell (by simp) _) ?_⟩
      unfold HeadAt
      rw [heapSame (heapSame HH.out)]
      simp [Hd.act, hoff, n1]
      intro hx
      omega
    · have N := Lib.hid hl
      rw [hl] at c4
      clear hl
      go_enter Tryd.func35, Tryd.ntmps35
      go_wp2_with fail
      refine (on_any d mb fs h w hd).mono ?_
      rintro e w1 ⟨rfl, rfl⟩
      rw [hoff]
      go_wp2
      go_ret
      have n1 := N.out
      refine ⟨by simp [Hd.may, hoff, n1], Does.head hd (((Beside.refl _ _).setCell (by simp) _).setCell (by simp) _) ?_⟩
      unfold HeadAt
      rw [heapSame (heapSame HH.out)]
      simp [Hd.act, hoff, n1]
    · have t1 : (h.left == 0) = false := by rw [beq_eq_false_iff_ne]; omega
      have n1 : ¬ h.left = 0 := by omega
      have N := Lib.hid n1
      have hw2 : IntKind.i64.wrap (h.left - 1) = h.left - 1 := IntWalk.i64_in _ (by omega)
      clear n1
      go_enter Tryd.func35, Tryd.ntmps35
      go_wp2_with fail
      refine (on_any d mb fs h w hd).mono ?_
      rintro e w1 ⟨rfl, rfl⟩
      rw [hoff]
      go_wp2
      go_ret
      have n1 := N.out
      refine ⟨by simp [Hd.may, hoff, n1], Does.head hd ((((Beside.refl _ _).setCell (by simp) _).setCell (by simp) _).setCell (by simp) _) ?_⟩
      unfold HeadAt
      rw [heapSame (heapSame (heapSame HH.out))]
      simp [Hd.act, hoff, n1, hl]

/-- What 'open' answers: the file, the error. -/
def openP (may : Bool) (o : Option Fil) : Option Addr := if may then at_ o else none
def openE (may : Bool) (o : Option Fil) : Int := if may then (if o.isSome then 0 else 2) else 7
/-- A file that is there: an operation begins on it. -/
theorem open_any (d mb : Nat) (fs : List Fil) (h : Hd) (s : List UInt8) (w : World) (hd : DiskAt w d mb fs h) (hf : h.fits) (hs : s.length ≤ 100000) :
    Calls Tryd.prog 58 #[.pointer (some ⟨d, 0, none⟩), .string ⟨s.toArray⟩] w fun e w' =>
      e = .returned (.tuple #[.pointer (openP h.may (look s fs)), .int .i64 (openE h.may (look s fs))]) ∧ Does d mb fs w fs h.act w' := by
  cases hm : h.may with
  | false =>
    go_enter Tryd.func58, Tryd.ntmps58
    go_wp2_with fail
    refine (act_any d mb fs h w hd hf).mono ?_
    rintro e w1 ⟨rfl, hdo⟩
    rw [hm]
    go_wp2
    go_ret2
    exact ⟨rfl, hdo⟩
  | true =>
    go_enter Tryd.func58, Tryd.ntmps58
    go_wp2_with fail
    refine (act_any d mb fs h w hd hf).mono ?_
    rintro e w1 ⟨rfl, hdo⟩
    rw [hm]
    obtain ⟨c0, _⟩ := hdo.1.head.cells
    have hlk := hdo.1.map.run_look hs
    cases hl : look s fs with
    | none =>
      rw [hl, show at_ none = none from rfl] at hlk
      go_wp2
      go_ret2
      exact ⟨by rw [hl]; rfl, hdo⟩
    | some f =>
      rw [hl, show at_ (some f) = some ⟨f.g, 0, none⟩ from rfl] at hlk
      go_wp2
      go_ret2
      exact ⟨by rw [hl]; rfl, hdo⟩

theorem fits_any (d mb : Nat) (fs : List Fil) (h : Hd) (A : Option Addr) (n c : Nat) (w : World) (hd : DiskAt w d mb fs h) (hf : h.fits) (ht : total fs ≤ 1000000000000) (hn : n ≤ 1000000000000) :
    Calls Tryd.prog 37 #[.pointer (some ⟨d, 0, none⟩), .slice A n c] w fun e w' => e = .returned (.bool (decide ((total fs : Int) + n ≤ h.room))) ∧ ∃ k, w' = w.drewN k := by
  obtain ⟨_, c1, c2, _⟩ := hd.head.cells
  have hw : IntKind.i64.wrap ((total fs : Int) + (n : Int)) = (total fs : Int) + (n : Int) := IntWalk.i64_in _ (by omega)
  clear hf ht hn
  go_enter Tryd.func37, Tryd.ntmps37
  go_wp2
  go_quiet (fail)
  go_wp2
  go_ret
  exact ⟨rfl, _, rfl⟩
end Go.Proofs.YtokfajlmephdeaaDoor.Dsk
