/- digits.Tape, wherever it gives up: what it reads of any bytes, as plain data; its calls, both ways; Caught behind a tape that has given up. -/
import Derived.Test.YtpfmgjfkjjnadaaTape
import Derived.Test.YtpfmgjfkjjnadaaTakeText
import Derived.WalkLawsBesides
namespace Go.Proofs.Ytpfmgjfkjjnadaa.Tape
open Go Go.RowKit Go.Proofs.Ytpfmgjfkjjnadaa.Words Go.Proofs.Ytpfmgjfkjjnadaa.Enc
set_option linter.unusedVariables false

/-- What a reader gets: an error's number, or a value and the rest. -/
inductive Got (α : Type) where
  | bad (E : Nat)
  | ok (v : α) (rest : List UInt8)
def Got.bind {α β : Type} : Got α → (α → List UInt8 → Got β) → Got β
  | .bad E, _ => .bad E
  | .ok v r, f => f v r
/-- A tape that has still to read l of the bytes L at PA: wherever these are seen, l is seen where it is. -/
def TapeOn (PA : Option Addr) (PN : Nat) (L : List UInt8) (w : World) (t : Nat) (l : List UInt8) : Prop :=
  ∃ A n c, w.heap[t]? = some (.cells #[.slice A n c] 59 (0, 0)) ∧ (∀ W, Sees W PA PN L → Sees W A n l) ∧ n ≤ c ∧ c ≤ 9223372036854775807
theorem TapeOn.at_ {PA : Option Addr} {PN : Nat} {L : List UInt8} {w : World} {t : Nat} {l : List UInt8} (h : TapeOn PA PN L w t l) (hs : Sees w PA PN L) : TapeAt w t l := by
  obtain ⟨A, n, c, h1, h2, h3⟩ := h
  exact ⟨A, n, c, h1, h2 w hs, h3⟩
theorem TapeOn.keep {PA : Option Addr} {PN : Nat} {L : List UInt8} {w w' : World} {t : Nat} {l : List UInt8} (h : TapeOn PA PN L w t l) (hk : w'.heap[t]? = w.heap[t]?) : TapeOn PA PN L w' t l := by
  obtain ⟨A, n, c, h1, h2, h3⟩ := h
  exact ⟨A, n, c, hk.trans h1, h2, h3⟩
theorem TapeOn.lt {PA : Option Addr} {PN : Nat} {L : List UInt8} {w : World} {t : Nat} {l : List UInt8} (h : TapeOn PA PN L w t l) : t < w.heap.size := by
  obtain ⟨A, n, c, h1, h2, h3⟩ := h
  exact (Array.getElem?_eq_some_iff.1 h1).1
theorem tape_on {PA : Option Addr} {PN : Nat} {L : List UInt8} {w : World} {t : Nat} {A B : Option Addr} {n c m k : Nat} {l : List UInt8} (h : w.heap[t]? = some (.cells #[.slice A n c] 59 (0, 0))) (hs : ∀ W, Sees W PA PN L → Sees W B m l) (hk : m ≤ k) (hk2 : k ≤ 9223372036854775807) :
    TapeOn PA PN L (w.setCell ⟨t, 0, none⟩ (.slice B m k)) t l :=
  ⟨B, m, k, (heapSame h).trans rfl, hs, hk, hk2⟩
set_option maxRecDepth 100000 in
theorem newTape_on (A : Option Addr) (n c : Nat) (l : List UInt8) (w : World) (hs : Sees w A n l) (hc : n ≤ c) (hn : n ≤ 1000000000) :
    Calls Try.prog 29 #[.slice A n c] w fun e w' => e = .returned (.pointer (some ⟨w.heap.size, 0, none⟩)) ∧ TapeOn A n l w' w.heap.size l ∧ Below w.heap.size w w' := by
  go_enter Try.func29, Try.ntmps29
  go_wp2_with fail
  refine (Take.clip_any A n c w hc hn).mono ?_
  rintro e w1 ⟨rfl, rfl⟩
  go_wp2
  go_ret
  have hb : Below w1.heap.size w1 (w1.alloc (.cells #[.slice A n n] 59)) := (Below.refl _ _).alloc (Nat.le_refl _) _
  exact ⟨rfl, ⟨A, n, n, heap_alloc_new w1 _, fun W h => h, Nat.le_refl _, by omega⟩, hb⟩

/-- The tape's panic. -/
def fault (E : Nat) : Ending := .panicked [{ v := .iface 57 (.agg #[.int .i64 (E : Int)]), recovered := false }]

theorem move_bad (t : Option Addr) (S : Value) (E : Nat) (hE : E ≠ 0) (w : World) :
    Calls Try.prog 43 #[.pointer t, S, .int .i64 (E : Int)] w fun e w' => e = fault E ∧ w = w' := by
  have h1 : ((E : Int) != 0) = true := by rw [bne_iff_ne]; omega
  have h2 : ((E : Int) == 0) = false := by rw [beq_eq_false_iff_ne]; omega
  unfold fault
  go_enter Try.func43, Try.ntmps43
  go_wp2
  exact ⟨rfl, rfl, rfl⟩

/-- A number of at most most. -/
def numG (most : Nat) (l : List UInt8) : Got Nat :=
  if (tk 0 0 l).2.2 ≠ 0 then .bad (tk 0 0 l).2.2 else if most < (tk 0 0 l).1 then .bad 6 else .ok (tk 0 0 l).1 (l.drop (tk 0 0 l).2.1)
/-- A text of at most most bytes. -/
def textG (most : Nat) (l : List UInt8) : Got (List UInt8) :=
  if (Take.texted l most (tk 0 0 l)).2.2 ≠ 0 then .bad (Take.texted l most (tk 0 0 l)).2.2 else .ok (Take.texted l most (tk 0 0 l)).1 (l.drop (Take.texted l most (tk 0 0 l)).2.1)
def byteG : List UInt8 → Got UInt8
  | [] => .bad 5
  | b :: r => .ok b r
def unfix (q : List UInt8) : Nat := q.foldl (fun n b => n * 256 + b.toNat) 0
def fixedG (l : List UInt8) : Got Nat := if l.length < 8 then .bad 5 else .ok (unfix (l.take 8)) (l.drop 8)

theorem numG_ok {most N : Nat} {l rest : List UInt8} (h : numG most l = .ok N rest) : (tk 0 0 l).2.2 = 0 ∧ (tk 0 0 l).1 = N ∧ ¬ most < (tk 0 0 l).1 ∧ rest = l.drop (tk 0 0 l).2.1 := by
  unfold numG at h
  split at h
  · cases h
  · rename_i h0
    split at h
    · cases h
    · rename_i h1
      injection h with h2 h3
      exact ⟨by omega, h2, h1, h3.symm⟩
theorem numG_bad {most E : Nat} {l : List UInt8} (h : numG most l = .bad E) : ((tk 0 0 l).2.2 ≠ 0 ∧ (tk 0 0 l).2.2 = E) ∨ ((tk 0 0 l).2.2 = 0 ∧ most < (tk 0 0 l).1 ∧ E = 6) := by
  unfold numG at h
  split at h
  · rename_i h0
    injection h with h1
    exact .inl ⟨h0, h1⟩
  · rename_i h0
    split at h
    · rename_i h1
      injection h with h2
      exact .inr ⟨by omega, h1, h2.symm⟩
    · cases h

set_option maxRecDepth 100000 in
/-- A number that is there. -/
theorem num_ok {PA : Option Addr} {PN : Nat} {L : List UInt8} (t most N : Nat) (l rest : List UInt8) (w : World) (h : TapeOn PA PN L w t l) (hP : Sees w PA PN L) (hl : l.length ≤ 1000000000) (hg : numG most l = .ok N rest) :
    Calls Try.prog 36 #[.pointer (some ⟨t, 0, none⟩), .int .u64 (most : Int)] w fun e w' => e = .returned (.int .u64 (N : Int)) ∧ TapeOn PA PN L w' t rest ∧ Beside [t] w w' := by
  obtain ⟨A, n, c, hb, hF, hc, hcm⟩ := h
  have hs := hF w hP
  have hn := hs.1
  have HB := Lib.hid hb
  obtain ⟨g0, g1, g2, rfl⟩ := numG_ok hg
  have hE : ((((tk 0 0 l).2.2 : Nat) : Int) == 0) = true := by rw [g0]; rfl
  have hgt : decide (most < N) = false := by simp; omega
  clear hg g2
  go_enter Try.func36, Try.ntmps36
  go_wp2_with fail
  refine (left_any t A n c w hb).mono ?_
  rintro e w1 ⟨rfl, rfl⟩
  go_wp2_with fail
  refine (Take.take_any A n c _ w hs hc (by omega)).mono ?_
  rintro e w1 ⟨A', c', rfl, hs', k, rfl, hp, hc', hcm'⟩
  rw [g0, g1]
  have HS := Lib.hid (fun W h => hp W (hF W h))
  have HCC := Lib.hid hc'
  have HCM := Lib.hid hcm'
  have GG := Lib.hid (And.intro g0 g1)
  clear hs' hp hc' hs hn hE g0 g1 hF hP
  go_wp2_with fail
  refine (move_any t A n c A' _ c' (w.drewN k) HB.out).mono ?_
  rintro e w2 ⟨rfl, rfl⟩
  go_wp2
  go_ret
  have hm := tape_on (w := w.drewN k) HB.out HS.out HCC.out HCM.out
  exact ⟨rfl, hm, ((Beside.refl [t] w).drewN k).setCell (by simp) _⟩
set_option maxRecDepth 100000 in
/-- No number: the tape gives up. -/
theorem num_bad (t most E : Nat) (l : List UInt8) (w : World) (h : TapeAt w t l) (hl : l.length ≤ 1000000000) (hg : numG most l = .bad E) :
    Calls Try.prog 36 #[.pointer (some ⟨t, 0, none⟩), .int .u64 (most : Int)] w fun e w' => e = fault E ∧ Beside [t] w w' := by
  obtain ⟨A, n, c, hb, hs, hc, hcm⟩ := h
  have hn := hs.1
  rcases numG_bad hg with ⟨g0, g1⟩ | ⟨g0, g1, rfl⟩
  · have hE : ((E : Int) == 0) = false := by rw [beq_eq_false_iff_ne]; omega
    have hE0 : E ≠ 0 := by omega
    have HE0 := Lib.hid hE0
    clear hg g0 hE0
    go_enter Try.func36, Try.ntmps36
    go_wp2_with fail
    refine (left_any t A n c w hb).mono ?_
    rintro e w1 ⟨rfl, rfl⟩
    go_wp2_with fail
    refine (Take.take_any A n c _ w hs hc (by omega)).mono ?_
    rintro e w1 ⟨A', c', rfl, hs', k, rfl, hp, hc', hcm'⟩
    rw [g1]
    clear hs' hp hc' hcm' hs hn hb g1
    go_wp2_with fail
    refine (move_bad _ _ E HE0.out _).mono ?_
    rintro e w2 ⟨rfl, rfl⟩
    unfold fault
    go_wp2
    exact ⟨rfl, rfl, (Beside.refl [t] w).drewN k⟩
  · have hE : ((((tk 0 0 l).2.2 : Nat) : Int) == 0) = true := by rw [g0]; rfl
    obtain ⟨N, hN⟩ : ∃ N, (tk 0 0 l).1 = N := ⟨_, rfl⟩
    rw [hN] at g1
    have hgt : decide (most < N) = true := by simp; omega
    clear hg hE g1
    go_enter Try.func36, Try.ntmps36
    go_wp2_with fail
    refine (left_any t A n c w hb).mono ?_
    rintro e w1 ⟨rfl, rfl⟩
    go_wp2_with fail
    refine (Take.take_any A n c _ w hs hc (by omega)).mono ?_
    rintro e w1 ⟨A', c', rfl, hs', k, rfl, hp, hc', hcm'⟩
    rw [g0, hN]
    clear hs' hp hc' hcm' hs hn hb g0 hN
    go_wp2_with fail
    refine (move_bad _ _ 6 (by decide) _).mono ?_
    rintro e w2 ⟨rfl, rfl⟩
    unfold fault
    go_wp2
    exact ⟨rfl, rfl, (Beside.refl [t] w).drewN k⟩

theorem textG_ok {most : Nat} {T l rest : List UInt8} (h : textG most l = .ok T rest) : (Take.texted l most (tk 0 0 l)).2.2 = 0 ∧ (Take.texted l most (tk 0 0 l)).1 = T ∧ rest = l.drop (Take.texted l most (tk 0 0 l)).2.1 := by
  unfold textG at h
  split at h
  · cases h
  · rename_i h0
    injection h with h2 h3
    exact ⟨by omega, h2, h3.symm⟩
theorem textG_bad {most E : Nat} {l : List UInt8} (h : textG most l = .bad E) : (Take.texted l most (tk 0 0 l)).2.2 ≠ 0 ∧ (Take.texted l most (tk 0 0 l)).2.2 = E := by
  unfold textG at h
  split at h
  · rename_i h0
    injection h with h1
    exact ⟨h0, h1⟩
  · cases h

theorem unfix_snoc (q : List UInt8) (b : UInt8) : unfix (q ++ [b]) = unfix q * 256 + b.toNat := by
  unfold unfix
  rw [List.foldl_append]
  rfl
theorem unfix_lt (q : List UInt8) : ∀ k, q.length = k → unfix q < 256 ^ k := by
  intro k
  induction k generalizing q with
  | zero => intro h; have := List.eq_nil_of_length_eq_zero h; subst this; simp [unfix]
  | succ k ih =>
    intro h
    rcases List.eq_nil_or_concat q with rfl | ⟨r, b, rfl⟩
    · simp at h
    · rw [List.concat_eq_append] at *
      rw [unfix_snoc]
      have := ih r (by simpa using h)
      have hb := b.toNat_lt
      rw [Nat.pow_succ]
      omega
theorem or_byte (m b : Nat) (hm : m < 72057594037927936) (hb : b < 256) : bits .or .u64 ((m * 256 : Nat) : Int) (b : Int) = ((m * 256 + b : Nat) : Int) := by
  have := u64_or_nat (m * 256) b (by omega) (by omega)
  rw [this]
  congr 1
  have e := Nat.two_pow_add_eq_or_of_lt (i := 8) (b := b) (by omega) m
  rw [show 2 ^ 8 * m = m * 256 by omega] at e
  exact e.symm

set_option maxRecDepth 100000 in
/-- Something is left. -/
theorem done_bad (t : Nat) (l : List UInt8) (w : World) (h : TapeAt w t l) (hl : 0 < l.length) :
    Calls Try.prog 31 #[.pointer (some ⟨t, 0, none⟩)] w fun e w' => e = fault 4 ∧ w = w' := by
  obtain ⟨A, n, c, hb, hs, hc, hcm⟩ := h
  have hn := hs.1
  have hn' : (0 : Int) < (n : Int) := by omega
  unfold fault
  go_enter Try.func31, Try.ntmps31
  go_wp2_with fail
  refine (left_any t A n c w hb).mono ?_
  rintro e w1 ⟨rfl, rfl⟩
  go_wp2
  exact ⟨rfl, rfl, rfl⟩

/-- The error has been stored. -/
def Stored (p E : Nat) (T : TypeId) (w W : World) : Prop := W.heap[p]? = some (.cells #[.int .i64 (E : Int)] T (0, 0)) ∧ Beside [p] w W
theorem caught_tmps (x V : Value) : #[x] ++ (Array.replicate 16 undef).setIfInBounds 4 V = #[x, undef, undef, undef, undef, V, undef, undef, undef, undef, undef, undef, undef, undef, undef, undef, undef] := rfl
/-- Caught, behind a tape that has given up: the error is stored, and the panic is over. -/
theorem caught_bad (p E : Nat) (older : List PanicEntry) (w : World) (old : Int) (T : TypeId) (h : w.heap[p]? = some (.cells #[.int .i64 old] T (0, 0))) :
    CallsD Try.prog 28 #[.pointer (some ⟨p, 0, none⟩)] (.panicking ({ v := .iface 57 (.agg #[.int .i64 (E : Int)]), recovered := false } :: older)) w fun e u' w' => e = .returned (.tuple #[]) ∧
      u' = .panicking ({ v := .iface 57 (.agg #[.int .i64 (E : Int)]), recovered := true } :: older) ∧ Stored p E T w w' := by
  refine callsD_of_wpS Try.func28 rfl fun c₀ cs hu => ?_
  apply wpS_seq
  apply wpS_region
  simp [wpOpsS, go_sem, recoverD, hu, Try.ntmps28, Exit.thenS]
  have hp := (Array.getElem?_eq_some_iff.1 h).1
  have hc := cell_of_row w p 0 _ _ _ h
  have hc0 : w.cell? ⟨p, 0, none⟩ = some (.int .i64 old) := by rw [hc]; rfl
  have hf0 : w.frozen? ⟨p, 0, none⟩ = false := frozen_row0 h
  refine wpS_of_wp (wp_mono (Q := fun e a W => (e = .normal ∨ e = .ret) ∧ a.defers = [] ∧ Stored p E T w W) ?_ ?_)
  · rw [caught_tmps]
    have hnil : ∀ W : World, (binOp .eql 20 (Value.iface 57 (.agg #[.int .i64 (E : Int)])) .nilIface).run Try.prog W = .ok (.bool false) W := fun W => by kernel_rfl
    have hta : ∀ W : World, (Instr.typeAssert (Value.iface 57 (.agg #[.int .i64 (E : Int)])) 20 57 true).run Try.prog W = .ok (.tuple #[.agg #[.int .i64 (E : Int)], .bool true]) W := fun W => by kernel_rfl
    have HH := Lib.hid h
    clear h hc
    go_wp2
    refine ⟨?_, ((Beside.refl [p] w).setCell (by simp) _).alloc _⟩
    rw [Below.heap_alloc _ _ _ (by simpa using hp)]
    exact (heapSame HH.out).trans rfl
  · rintro e a W ⟨he, hd, h1⟩
    cases c₀
    rcases he with rfl | rfl <;> simp_all [bodyPostS, results, Try.results28]
end Go.Proofs.Ytpfmgjfkjjnadaa.Tape
