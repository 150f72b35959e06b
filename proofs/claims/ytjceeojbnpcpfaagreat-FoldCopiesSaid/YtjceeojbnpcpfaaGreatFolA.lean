/- Package fold: what is told of a fold by its struct alone; hash. -/
import Derived.Test.YtjceeojbnpcpfaaGreatFolMem
import Derived.Test.YtjceeojbnpcpfaaGreatEvPlace
import Derived.WalkLawsBesides
namespace Go.Proofs.YtjceeojbnpcpfaaGreat.Fol
open Go Go.RowKit Go.Proofs.YtjceeojbnpcpfaaGreat.Words Go.Proofs.YtjceeojbnpcpfaaGreat.Enc Go.Proofs.YtjceeojbnpcpfaaGreat.Q Go.Proofs.YtjceeojbnpcpfaaGreat.Evt
set_option linter.unusedVariables false
set_option linter.unusedSimpArgs false

theorem hashL_lt {m : Nat} (p : List UInt8) (h : m < 18446744073709551616) : hashL m p < 18446744073709551616 := by
  unfold hashL
  induction p generalizing m with
  | nil => exact h
  | cons b r ih => exact ih (Nat.mod_lt _ (by omega))
theorem hashL_snoc (m : Nat) (p : List UInt8) (b : UInt8) : hashL m (p ++ [b]) = ((hashL m p ^^^ b.toNat) * 1099511628211) % 18446744073709551616 := by
  unfold hashL
  rw [List.foldl_append, List.foldl_cons, List.foldl_nil]
theorem hash_step {m b : Nat} (hm : m < 18446744073709551616) (hb : b < 256) : IntKind.u64.wrap (bits .xor .u64 (m : Int) (IntKind.u64.wrap (b : Int)) * 1099511628211) = (((m ^^^ b) * 1099511628211 % 18446744073709551616 : Nat) : Int) := by
  rw [wrap_in b (by omega), u64_xor_nat m b hm (by omega), IntKind.wrap_u64]
  generalize m ^^^ b = x
  omega

set_option maxRecDepth 100000 in
theorem hash_any (m : Nat) (A : Option Addr) (n c : Nat) (l : List UInt8) (w : World) (hs : Sees w A n l) (hm : m < 18446744073709551616) (hn : n ≤ 1000000000000) :
    Calls Tryz.prog 18 #[.int .u64 (m : Int), .slice A n c] w fun e w' => e = .returned (.int .u64 (hashL m l : Int)) ∧ w' = w := by
  have HS := Lib.hid hs
  have hl := hs.1
  clear hs
  go_enter Tryz.func18, Tryz.ntmps18
  go_wp2_with fail
  go_loopw [0, 6, 9, 10, 11, 12, 13, 14, 15, 16, 17, 18] (fun a0 a6 a9 a10 a11 a12 a13 a14 a15 a16 a17 a18 wr => ∃ (j X : Nat), a9 = .int .i64 (j : Int) ∧ a0 = .int .u64 (X : Int) ∧ j ≤ n ∧ Hid (X = hashL m (l.take j)) ∧ X < 18446744073709551616 ∧ w = wr) (fun a0 a6 a9 a10 a11 a12 a13 a14 a15 a16 a17 a18 _ => n - (intOf a9).toNat)
  case atStart => exact ⟨0, m, rfl, rfl, by omega, Lib.hid (by simp [hashL]), hm, rfl⟩
  case round =>
    obtain ⟨j, X, rfl, rfl, hj, HX, hX, rfl⟩ := hrel
    by_cases h1 : j < n
    · obtain ⟨b, o, rfl, hc⟩ := HS.out.2 (by omega)
      have hc1 := hc j l[j] (List.getElem?_eq_getElem (by omega))
      obtain ⟨u, hu⟩ : ∃ u, l[j] = u := ⟨_, rfl⟩
      rw [hu] at hc1
      have HST := Lib.hid (hash_step (m := X) (b := u.toNat) hX u.toNat_lt)
      have HN := Lib.hid (show (X ^^^ u.toNat) * 1099511628211 % 18446744073709551616 = hashL m (l.take (j + 1)) by
        rw [List.take_add_one, List.getElem?_eq_getElem (by omega), hu]
        simp only [Option.toList_some]
        rw [hashL_snoc, HX.out])
      have HY : (X ^^^ u.toNat) * 1099511628211 % 18446744073709551616 < 18446744073709551616 := Nat.mod_lt _ (by omega)
      have hd : decide ((j : Int) < (n : Int)) = true := decide_eq_true (by omega)
      obtain ⟨U, hU⟩ : ∃ U, u.toNat = U := ⟨_, rfl⟩
      rw [hU] at hc1 HST HN HY
      obtain ⟨Y, hY⟩ : ∃ Y, (X ^^^ U) * 1099511628211 % 18446744073709551616 = Y := ⟨_, rfl⟩
      rw [hY] at HST HN HY
      have hst := HST.out
      clear hc hu hU hY
      go_wp2
      go_roundw
      case rel => exact ⟨j + 1, Y, by simp, rfl, by omega, HN, HY, by trivial⟩
      case measure => simp [intOf]; omega
    · have hd : decide ((j : Int) < (n : Int)) = false := decide_eq_false (by omega)
      obtain rfl : j = n := by omega
      have HE := Lib.hid (show X = hashL m l by rw [HX.out, List.take_of_length_le (by omega)])
      go_wp2
      go_ret
      exact ⟨by rw [HE.out]; rfl, rfl⟩

section
variable {S : List Nat} {d mb : Nat} {F : Fo}
set_option maxRecDepth 100000 in
theorem mark_any (w : World) (h : FoldAt w S d mb F) : Calls Tryz.prog 31 #[.pointer (some ⟨d, 0, none⟩)] w fun e w' => e = .returned (.int .u64 (F.mark : Int)) ∧ w' = w := by
  obtain ⟨_, _, c3⟩ := h.cT
  go_enter Tryz.func31, Tryz.ntmps31
  go_wp2
  go_ret
  exact ⟨rfl, rfl⟩
set_option maxRecDepth 100000 in
theorem last_any (w : World) (h : FoldAt w S d mb F) : Calls Tryz.prog 32 #[.pointer (some ⟨d, 0, none⟩)] w fun e w' => e = .returned (spotV F.time F.wr) ∧ Below w.heap.size w w' := by
  have a1 : ∀ o, (w.alloc o).cell? ⟨d, 193, none⟩ = some (.int .u64 (F.time : Int)) := fun o => (h.below ((Below.refl _ _).alloc (Nat.le_refl _) o)).cT.1
  have a2 : ∀ o, (w.alloc o).cell? ⟨d, 194, none⟩ = some (.int .i64 (F.wr : Int)) := fun o => (h.below ((Below.refl _ _).alloc (Nat.le_refl _) o)).cT.2.1
  clear h
  unfold spotV
  go_enter Tryz.func32, Tryz.ntmps32
  go_wp2
  exact bodyPost_ret (v := .agg #[.int .u64 (F.time : Int), .int .i64 (F.wr : Int)]) (by simp [results, Tryz.results32, go_sem]) rfl ⟨rfl, (Below.refl _ _).alloc (Nat.le_refl _) _⟩
end

section
variable {P : Program} {ops : Array Oper} {rest : List Oper} {op : Oper} {a : Act} {w : World} {Q : Exit → Act → World → Prop}
/-- A row out of the middle of a block, where the operation has a guard that says yes. -/
theorem wpList_load_midG (hw : Region.wanted op (yielded ops a.tmps) = true) (ty : TypeId) (x : Operand) (ho : op.op = .load ty x)
    (b o : Nat) (hx : a.eval x = .pointer (some ⟨b, o, none⟩)) (cs : List Value) (d : TypeDesc) (hc : w.rangeAt b o cs)
    (hu : P.underlying ty = some d) (hd : d.isRow = true) (hi : (P.info? ty).map (·.size) = some cs.length)
    (h : wpList P ops Q rest (a.put op.dst (.agg cs.toArray)) w) : wpList P ops Q (op :: rest) a w := by
  unfold wpList
  rw [if_pos hw]
  exact .inl (wp_load_mid ty x ho b o hx cs d hc hu hd hi h)
end

/-- Sixty-four truths as cells. -/
def bs (l : List Bool) : List Value := l.map .bool
def inSet (l : List Bool) (n : Int) : Bool := decide (0 ≤ n ∧ n < 64) && l.getD n.toNat false
set_option maxRecDepth 100000 in
theorem has_any (l : List Bool) (n : Int) (w : World) (hl : l.length = 64) :
    Calls Tryz.prog 70 #[.agg (bs l).toArray, .int .i64 n] w fun e w' => e = .returned (.bool (inSet l n)) ∧ Below w.heap.size w w' := by
  by_cases h0 : 0 ≤ n
  · by_cases h1 : n < 64
    · have hb : inSet l n = l.getD n.toNat false := by unfold inSet; rw [decide_eq_true ⟨h0, h1⟩, Bool.true_and]
      rw [hb]
      obtain ⟨k, rfl⟩ := Int.eq_ofNat_of_zero_le h0
      have hk : k < 64 := by omega
      have hc : (w.alloc (.cells (bs l).toArray 55)).cell? ⟨w.heap.size, k, none⟩ = some (.bool (l.getD k false)) := by
        rw [cell_of_row _ w.heap.size _ _ _ (0, 0) (heap_alloc_new w _)]
        simp [bs, List.getD, hl, hk]
      rw [Int.toNat_natCast]
      generalize l.getD k false = x at hc ⊢
      have hal : Below w.heap.size w (w.alloc (.cells (bs l).toArray 55)) := (Below.refl _ _).alloc (Nat.le_refl _) _
      have d0 : decide ((0 : Int) ≤ (k : Int)) = true := decide_eq_true h0
      have d1 : decide ((k : Int) < 64) = true := decide_eq_true h1
      generalize bs l = q at hc hal ⊢
      clear hl
      go_enter Tryz.func70, Tryz.ntmps70
      go_wp2
      go_ret
      exact ⟨rfl, hal⟩
    · have hb : inSet l n = false := by unfold inSet; rw [decide_eq_false (fun h => h1 h.2), Bool.false_and]
      rw [hb]
      have hal : Below w.heap.size w (w.alloc (.cells (bs l).toArray 55)) := (Below.refl _ _).alloc (Nat.le_refl _) _
      generalize bs l = q at hal ⊢
      clear hl hb
      go_enter Tryz.func70, Tryz.ntmps70
      go_wp2
      go_ret
      exact ⟨rfl, hal⟩
  · have hb : inSet l n = false := by unfold inSet; rw [decide_eq_false (fun h => h0 h.1), Bool.false_and]
    rw [hb]
    have hal : Below w.heap.size w (w.alloc (.cells (bs l).toArray 55)) := (Below.refl _ _).alloc (Nat.le_refl _) _
    generalize bs l = q at hal ⊢
    clear hl hb
    go_enter Tryz.func70, Tryz.ntmps70
    go_wp2
    go_ret
    exact ⟨rfl, hal⟩

section
variable {S : List Nat} {d mb : Nat} {F : Fo}
theorem FoldAt.rangeJ {w : World} (h : FoldAt w S d mb F) : w.rangeAt d 1 (bs F.J) := by
  intro j v hv
  have hj : j < 64 := by have := (List.getElem?_eq_some_iff.1 hv).1; simpa [bs, h.ok.j] using this
  rw [h.cJ hj, ← hv]
  simp [bs, List.getD, h.ok.j, hj]
theorem FoldAt.rangeR {w : World} (h : FoldAt w S d mb F) : w.rangeAt d 65 (bs F.R) := by
  intro j v hv
  have hj : j < 64 := by have := (List.getElem?_eq_some_iff.1 hv).1; simpa [bs, h.ok.r] using this
  rw [h.cR hj, ← hv]
  simp [bs, List.getD, h.ok.r, hj]
set_option maxRecDepth 100000 in
theorem joined_any (n : Int) (w : World) (h : FoldAt w S d mb F) : Calls Tryz.prog 39 #[.pointer (some ⟨d, 0, none⟩), .int .i64 n] w fun e w' => e = .returned (.bool (inSet F.J n)) ∧ Below w.heap.size w w' := by
  have hr := h.rangeJ
  have hl := h.ok.j
  have hh := has_any F.J n w hl
  have hlen : (bs F.J).length = 64 := by simp [bs, hl]
  clear h hl
  generalize inSet F.J n = x at hh ⊢
  generalize bs F.J = q at hh hr hlen
  have HH := Lib.hid hh
  clear hh
  have hi : (Tryz.prog.info? 55).map (·.size) = some q.length := by rw [hlen]; kernel_rfl
  clear hlen
  go_enter Tryz.func39, Tryz.ntmps39
  go_wp2_with (first | (refine wpList_load_midG (by rfl) 55 (.tmp 10) rfl d 1 rfl q _ hr Tryz.underlying55 rfl hi ?_))
  refine HH.out.mono ?_
  rintro e w1 ⟨rfl, hb⟩
  go_wp2
  go_ret
  exact ⟨rfl, hb⟩
set_option maxRecDepth 100000 in
theorem retired_any (n : Int) (w : World) (h : FoldAt w S d mb F) : Calls Tryz.prog 40 #[.pointer (some ⟨d, 0, none⟩), .int .i64 n] w fun e w' => e = .returned (.bool (inSet F.R n)) ∧ Below w.heap.size w w' := by
  have hr := h.rangeR
  have hl := h.ok.r
  have hh := has_any F.R n w hl
  have hlen : (bs F.R).length = 64 := by simp [bs, hl]
  clear h hl
  generalize inSet F.R n = x at hh ⊢
  generalize bs F.R = q at hh hr hlen
  have HH := Lib.hid hh
  clear hh
  have hi : (Tryz.prog.info? 55).map (·.size) = some q.length := by rw [hlen]; kernel_rfl
  clear hlen
  go_enter Tryz.func40, Tryz.ntmps40
  go_wp2_with (first | (refine wpList_load_midG (by rfl) 55 (.tmp 10) rfl d 65 rfl q _ hr Tryz.underlying55 rfl hi ?_))
  refine HH.out.mono ?_
  rintro e w1 ⟨rfl, hb⟩
  go_wp2
  go_ret
  exact ⟨rfl, hb⟩
def memB (F : Fo) (n : Int) : Bool := inSet F.J n && !inSet F.R n
set_option maxRecDepth 100000 in
theorem member_any (n : Int) (w : World) (h : FoldAt w S d mb F) : Calls Tryz.prog 41 #[.pointer (some ⟨d, 0, none⟩), .int .i64 n] w fun e w' => e = .returned (.bool (memB F n)) ∧ Below w.heap.size w w' := by
  have HJ := Lib.hid (joined_any n w h)
  have HR := Lib.hid (fun W (hb : Below w.heap.size w W) => retired_any n W (h.below hb))
  have hm : memB F n = (inSet F.J n && !inSet F.R n) := rfl
  rw [hm]
  clear h hm
  generalize inSet F.J n = x at HJ ⊢
  generalize inSet F.R n = y at HR ⊢
  go_enter Tryz.func41, Tryz.ntmps41
  go_wp2_with fail
  refine HJ.out.mono ?_
  rintro e w1 ⟨rfl, hb⟩
  cases x with
  | false =>
    go_wp2
    go_ret
    exact ⟨rfl, hb⟩
  | true =>
    go_wp2_with fail
    refine (HR.out w1 hb).mono ?_
    rintro e w2 ⟨rfl, hb2⟩
    cases y <;> (go_wp2; go_ret; exact ⟨rfl, hb.trans (hb2.mono hb.size)⟩)
end
end Go.Proofs.YtjceeojbnpcpfaaGreat.Fol
