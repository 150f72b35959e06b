/- digits.Tape: NewTape, Left, move, next, Byte, Num, Done where they don't give up; Caught where nothing has been given up. -/
import Derived.Test.YtpfmgjfkjjnadaaTake
import Derived.Test.YtpfmgjfkjjnadaaBeside
import Derived.Defers
import Derived.Recover
import Derived.Lib.Hide
namespace Go.Proofs.Ytpfmgjfkjjnadaa.Tape
open Go Go.RowKit Go.Proofs.Ytpfmgjfkjjnadaa.Words Go.Proofs.Ytpfmgjfkjjnadaa.Enc
set_option linter.unusedVariables false

/-- A tape at block t: what it has still to read is l. -/
def TapeAt (w : World) (t : Nat) (l : List UInt8) : Prop :=
  ∃ A n c, w.heap[t]? = some (.cells #[.slice A n c] 59 (0, 0)) ∧ Sees w A n l ∧ n ≤ c ∧ c ≤ 9223372036854775807

theorem sees_off {w : World} {t : Nat} {B : Option Addr} {m k : Nat} {T : TypeId} {f : Nat × Nat} (hb : w.heap[t]? = some (.cells #[.slice B m k] T f)) {A : Option Addr} {n : Nat} {l : List UInt8} (h : Sees w A n l) : Out [t] A n := by
  intro hn a ha hm
  obtain ⟨b, o, e, hc⟩ := h.2 hn
  rw [e] at ha
  injection ha with ha
  subst ha
  have hl : 0 < l.length := by rw [h.1]; exact hn
  have h1 := hc 0 l[0] (List.getElem?_eq_getElem hl)
  simp at hm
  subst hm
  rw [cell_of_row w b (o + 0) _ _ _ hb] at h1
  match o, h1 with
  | 0, h1 => simp at h1
  | o + 1, h1 => simp at h1

theorem TapeAt.below {w w' : World} {t : Nat} {l : List UInt8} (h : TapeAt w t l) (hb : Below w.heap.size w w') : TapeAt w' t l := by
  obtain ⟨A, n, c, h1, h2, h3⟩ := h
  exact ⟨A, n, c, (hb.block t (Array.getElem?_eq_some_iff.1 h1).1).trans h1, h2.below hb, h3⟩

theorem left_any (t : Nat) (A : Option Addr) (n c : Nat) (w : World) (h : w.heap[t]? = some (.cells #[.slice A n c] 59 (0, 0))) :
    Calls Try.prog 37 #[.pointer (some ⟨t, 0, none⟩)] w fun e w' => e = .returned (.slice A n c) ∧ w = w' := by
  have c0 : w.cell? ⟨t, 0, none⟩ = some (.slice A n c) := by rw [cell_of_row w t _ _ _ _ h]; rfl
  go_enter Try.func37, Try.ntmps37
  go_wp2
  go_ret
  exact ⟨rfl, rfl⟩

theorem move_any (t : Nat) (A : Option Addr) (n c : Nat) (B : Option Addr) (m k : Nat) (w : World) (h : w.heap[t]? = some (.cells #[.slice A n c] 59 (0, 0))) :
    Calls Try.prog 43 #[.pointer (some ⟨t, 0, none⟩), .slice B m k, .int .i64 0] w fun e w' => e = .returned (.tuple #[]) ∧ w' = w.setCell ⟨t, 0, none⟩ (.slice B m k) := by
  have c0 : w.cell? ⟨t, 0, none⟩ = some (.slice A n c) := by rw [cell_of_row w t _ _ _ _ h]; rfl
  have f0 : w.frozen? ⟨t, 0, none⟩ = false := frozen_row0 h
  go_enter Try.func43, Try.ntmps43
  go_wp2
  go_returns
  exact ⟨rfl, rfl⟩

/-- The tape has gone on. -/
theorem tape_moved {w : World} {t : Nat} {A B : Option Addr} {n c m k : Nat} {l : List UInt8} (h : w.heap[t]? = some (.cells #[.slice A n c] 59 (0, 0))) (hs : Sees w B m l) (hk : m ≤ k) (hk2 : k ≤ 9223372036854775807) :
    TapeAt (w.setCell ⟨t, 0, none⟩ (.slice B m k)) t l ∧ Beside [t] w (w.setCell ⟨t, 0, none⟩ (.slice B m k)) := by
  have hb : Beside [t] w (w.setCell ⟨t, 0, none⟩ (.slice B m k)) := (Beside.refl _ _).setCell (by simp) _
  exact ⟨⟨B, m, k, by rw [heapSame h]; rfl, hs.beside hb (sees_off h hs), hk, hk2⟩, hb⟩

set_option maxRecDepth 100000 in
theorem newTape_any (A : Option Addr) (n c : Nat) (l : List UInt8) (w : World) (hs : Sees w A n l) (hc : n ≤ c) (hn : n ≤ 1000000000) :
    Calls Try.prog 29 #[.slice A n c] w fun e w' => ∃ t, e = .returned (.pointer (some ⟨t, 0, none⟩)) ∧ w.heap.size ≤ t ∧ TapeAt w' t l ∧ Below w.heap.size w w' := by
  go_enter Try.func29, Try.ntmps29
  go_wp2_with fail
  refine (Take.clip_any A n c w hc hn).mono ?_
  rintro e w1 ⟨rfl, rfl⟩
  go_wp2
  go_ret
  have hb : Below w1.heap.size w1 (w1.alloc (.cells #[.slice A n n] 59)) := (Below.refl _ _).alloc (Nat.le_refl _) _
  exact ⟨w1.heap.size, rfl, Nat.le_refl _, ⟨A, n, n, heap_alloc_new w1 _, hs.below hb, Nat.le_refl _, by omega⟩, hb⟩

set_option maxRecDepth 100000 in
/-- A number, of whatever size. -/
theorem num_any (t : Nat) (N : Nat) (l : List UInt8) (w : World) (h : TapeAt w t (enc N ++ l)) (hN : N < 18446744073709551616) (hl : l.length ≤ 900000000) :
    Calls Try.prog 36 #[.pointer (some ⟨t, 0, none⟩), .int .u64 18446744073709551615] w fun e w' => e = .returned (.int .u64 (N : Int)) ∧ TapeAt w' t l ∧ Beside [t] w w' := by
  obtain ⟨A, n, c, hb, hs, hc, hcm⟩ := h
  have he := enc_ten hN
  have hn := hs.1
  rw [List.length_append] at hn
  have htk := tk_lay N hN l
  have hgt : decide ((18446744073709551615 : Int) < (N : Int)) = false := by simp; omega
  have HB := Lib.hid hb
  go_enter Try.func36, Try.ntmps36
  go_wp2_with fail
  refine (left_any t A n c w hb).mono ?_
  rintro e w1 ⟨rfl, rfl⟩
  go_wp2_with fail
  refine (Take.take_any A n c _ w hs hc (by omega)).mono ?_
  rintro e w1 ⟨A', c', rfl, hs', k, rfl, hp, hc', hcm'⟩
  rw [htk] at hs' hp hc' ⊢
  simp only [List.drop_left] at hs' hp hc' ⊢
  have HS := Lib.hid hs'
  have HCC := Lib.hid hc'
  have HCM := Lib.hid hcm'
  clear hs' hp hc' hs htk he hn
  go_wp2_with fail
  refine (move_any t A n c A' _ c' (w.drewN k) HB.out).mono ?_
  rintro e w2 ⟨rfl, rfl⟩
  go_wp2
  go_ret
  have hm := tape_moved (w := w.drewN k) HB.out HS.out HCC.out HCM.out
  exact ⟨rfl, hm.1, ((Beside.refl [t] w).drewN k).trans hm.2 fun x hx => .inl hx⟩

theorem done_any (t : Nat) (w : World) (h : TapeAt w t []) :
    Calls Try.prog 31 #[.pointer (some ⟨t, 0, none⟩)] w fun e w' => e = .returned (.tuple #[]) ∧ w = w' := by
  obtain ⟨A, n, c, hb, hs, hc, hcm⟩ := h
  obtain rfl : n = 0 := by have := hs.1; simpa using this.symm
  go_enter Try.func31, Try.ntmps31
  go_wp2_with fail
  refine (left_any t A 0 c w hb).mono ?_
  rintro e w1 ⟨rfl, rfl⟩
  go_wp2
  go_returns
  exact ⟨rfl, rfl⟩

/-- Caught, where nothing has been given up. -/
theorem caught_idle (p : Option Addr) (w : World) :
    CallsD Try.prog 28 #[.pointer p] .returning w fun e u' w' => e = .returned (.tuple #[]) ∧ u' = .returning ∧ w' = w := by
  refine callsD_of_wpS Try.func28 rfl fun c₀ cs hu => ?_
  apply wpS_seq
  apply wpS_region
  simp [wpOpsS, go_sem, recoverD, hu, Try.ntmps28, Exit.thenS]
  refine wpS_of_wp (wp_mono (Q := fun e a W => (e = .normal ∨ e = .ret) ∧ a.defers = [] ∧ W = w) ?_ ?_)
  · rw [show (#[Value.pointer p] ++ (Array.replicate 16 undef).setIfInBounds 4 Value.nilIface) = #[.pointer p, undef, undef, undef, undef, .nilIface, undef, undef, undef, undef, undef, undef, undef, undef, undef, undef, undef] from rfl]
    have hnil : ∀ W : World, (binOp .eql 20 .nilIface .nilIface).run Try.prog W = .ok (.bool true) W := fun W => by kernel_rfl
    go_wp2
  · rintro e a W ⟨he, hd, rfl⟩
    cases c₀
    rcases he with rfl | rfl <;> simp_all [bodyPostS, results, Try.results28]
end Go.Proofs.Ytpfmgjfkjjnadaa.Tape
