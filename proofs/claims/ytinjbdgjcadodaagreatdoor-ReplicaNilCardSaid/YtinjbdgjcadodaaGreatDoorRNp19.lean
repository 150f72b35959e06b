/- Texts of the law ReplicaNil, put together. -/
import Derived.Lib.Hide
import Derived.Deep.QuietTactic
import Derived.Laws.OwnMore
import Derived.Lib.SliceRun
import Derived.Laws.Externs
import Derived.Test.YtinjbdgjcadodaaGreatDoorRNp01
import Derived.Test.YtinjbdgjcadodaaGreatDoorRNp03
import Derived.Test.YtinjbdgjcadodaaGreatDoorRNp04
set_option linter.unusedVariables false
set_option linter.unusedSimpArgs false
set_option maxRecDepth 100000
namespace Go.Proofs.YtinjbdgjcadodaaGreatDoor.Vec
open Go Go.RowKit Words
def us (l : List Nat) : List Value := l.map fun (x : Nat) => Value.int .u64 (x : Int)
theorem us_length (l : List Nat) : (us l).length = l.length := by simp [us]
theorem us_get {l : List Nat} {j x : Nat} (h : l[j]? = some x) : (us l)[j]? = some (.int .u64 (x : Int)) := by simp [us, h]
theorem us_one (l : List Nat) : ∀ u ∈ us l, u.oneCell' = true := by
 intro u hu
 obtain ⟨_, _, rfl⟩ := List.mem_map.1 hu
 rfl
def SeesU (w : World) (A : Option Addr) (n : Nat) (l : List Nat) : Prop :=
 l.length = n ∧ (0 < n → ∃ b o, A = some ⟨b, o, none⟩ ∧ ∀ (j x : Nat), l[j]? = some x → w.cell? ⟨b, o + j, none⟩ = some (.int .u64 (x : Int)))
theorem SeesU.nil (w : World) (A : Option Addr) : SeesU w A 0 [] := ⟨rfl, fun h => absurd h (by omega)⟩
theorem SeesU.drewN {w : World} {A : Option Addr} {n : Nat} {l : List Nat} (h : SeesU w A n l) (k : Nat) : SeesU (w.drewN k) A n l := h
theorem SeesU.below {w w' : World} {A : Option Addr} {n : Nat} {l : List Nat} (h : SeesU w A n l) (hb : Below w.heap.size w w') : SeesU w' A n l := by
 refine ⟨h.1, fun hn => ?_⟩
 obtain ⟨b, o, hA, hc⟩ := h.2 hn
 refine ⟨b, o, hA, fun j u hu => ?_⟩
 have hcell := hc j u hu
 have hlt := World.block_lt_of_cell? _ _ hcell
 rw [hb.cell (p := ⟨b, o + j, none⟩) hlt]
 exact hcell
theorem SeesU.of_own {w : World} {base : Nat} {e : TypeId} {A : Option Addr} {n c : Nat} {l : List Nat} (h : w.ownsRow base e 1 (.slice A n c) n (us l)) : SeesU w A n l := by
 refine ⟨by have := h.1; rw [us_length] at this; omega, fun hn => ?_⟩
 obtain ⟨g, rfl, _⟩ := Own.at_ h hn
 exact ⟨g, 0, rfl, fun j u hu => by rw [← add_plain]; exact h.cells (g := g) rfl j _ (us_get hu)⟩
theorem SeesU.take {w : World} {A : Option Addr} {n : Nat} {l : List Nat} (h : SeesU w A n l) {k : Nat} (hk : k ≤ n) : SeesU w A k (l.take k) := by
 refine ⟨by rw [List.length_take, h.1]; omega, fun hn => ?_⟩
 obtain ⟨b, o, e, hc⟩ := h.2 (by omega)
 refine ⟨b, o, e, fun j u hu => ?_⟩
 rw [List.getElem?_take] at hu
 split at hu
 ·exact hc j u hu
 ·cases hu
def at_ (l : List Nat) (i : Nat) : Nat := l.getD i 0
theorem at_lt {l : List Nat} {i : Nat} (h : i < l.length) : l[i]? = some (at_ l i) := by
 unfold at_
 rw [List.getD_eq_getElem?_getD, List.getElem?_eq_getElem h]
 rfl
theorem at_ge {l : List Nat} {i : Nat} (h : l.length ≤ i) : at_ l i = 0 := by
 unfold at_
 rw [List.getD_eq_getElem?_getD, List.getElem?_eq_none h]
 rfl
def Fits (l : List Nat) : Prop := ∀ i, at_ l i < 18446744073709551616
theorem SeesU.get {w : World} {A : Option Addr} {n : Nat} {l : List Nat} (h : SeesU w A n l) {j : Nat} (hj : j < n) : ∃ b o, A = some ⟨b, o, none⟩ ∧ w.cell? ⟨b, o + j, none⟩ = some (.int .u64 (at_ l j : Int)) := by
 obtain ⟨b, o, hA, hc⟩ := h.2 (by omega)
 exact ⟨b, o, hA, hc j _ (at_lt (by rw [h.1]; exact hj))⟩
def Trimmed (l : List Nat) : Prop := l = [] ∨ at_ l (l.length - 1) ≠ 0
def withinL (a b : List Nat) : Bool := (List.range a.length).all fun i => decide (at_ a i ≤ at_ b i)
theorem within_iff {a b : List Nat} : withinL a b = true ↔ ∀ i, at_ a i ≤ at_ b i := by
 unfold withinL
 rw [List.all_eq_true]
 constructor
 ·intro h i
  by_cases hi : i < a.length
  ·simpa using h i (List.mem_range.2 hi)
  ·rw [at_ge (by omega)]; exact Nat.zero_le _
 ·intro h i _
  simpa using h i
end Go.Proofs.YtinjbdgjcadodaaGreatDoor.Vec
namespace Go.Proofs.YtinjbdgjcadodaaGreatDoor.Vec
open Go Go.RowKit Words Enc Go.Proofs.YtinjbdgjcadodaaGreatDoor.Tape
def trimN (v : List Nat) : Nat → Nat
 | 0 => 0
 | k + 1 => if at_ v k = 0 then trimN v k else k + 1
theorem trimN_le (v : List Nat) : ∀ k, trimN v k ≤ k
 | 0 => Nat.le_refl _
 | k + 1 => by
   unfold trimN
   split
   ·exact Nat.le_succ_of_le (trimN_le v k)
   ·exact Nat.le_refl _
theorem trimN_zero (v : List Nat) : ∀ k i, trimN v k ≤ i → i < k → at_ v i = 0
 | 0, i, _, h => absurd h (by omega)
 | k + 1, i, h1, h2 => by
   unfold trimN at h1
   split at h1
   ·rename_i h0
    rcases Nat.lt_or_ge i k with h | h
    ·exact trimN_zero v k i h1 h
    ·obtain rfl : i = k := by omega
     exact h0
   ·omega
theorem trimN_last (v : List Nat) : ∀ k, 0 < trimN v k → at_ v (trimN v k - 1) ≠ 0
 | 0, h => absurd h (by simp [trimN])
 | k + 1, h => by
   unfold trimN at h ⊢
   split
   ·rename_i h0
    rw [if_pos h0] at h
    exact trimN_last v k h
   ·rename_i h0
    exact h0
def trimL (v : List Nat) : List Nat := v.take (trimN v v.length)
theorem trimL_len (v : List Nat) : (trimL v).length = trimN v v.length := by
 unfold trimL
 rw [List.length_take]
 have := trimN_le v v.length
 omega
theorem at_take (v : List Nat) (k i : Nat) : at_ (v.take k) i = if i < k then at_ v i else 0 := by
 unfold at_
 rw [List.getD_eq_getElem?_getD, List.getElem?_take]
 split
 ·rw [List.getD_eq_getElem?_getD]
 ·rfl
theorem trimL_at (v : List Nat) (i : Nat) : at_ (trimL v) i = at_ v i := by
 unfold trimL
 rw [at_take]
 split
 ·rfl
 ·rename_i h
  rcases Nat.lt_or_ge i v.length with h' | h'
  ·exact (trimN_zero v v.length i (by omega) h').symm
  ·exact (at_ge h').symm
theorem trimL_trimmed (v : List Nat) : Trimmed (trimL v) := by
 rcases Nat.eq_zero_or_pos (trimN v v.length) with h | h
 ·left
  exact List.eq_nil_of_length_eq_zero (by rw [trimL_len, h])
 ·right
  rw [trimL_len, trimL_at]
  exact trimN_last v _ h
def encs (v : List Nat) : List UInt8 := v.flatMap enc
theorem encs_cons (x : Nat) (v : List Nat) : encs (x :: v) = enc x ++ encs v := by simp [encs]
theorem encs_snoc (v : List Nat) (x : Nat) : encs (v ++ [x]) = encs v ++ enc x := by simp [encs]
def layL (v : List Nat) : List UInt8 := enc (trimN v v.length) ++ encs (trimL v)
theorem encs_len (v : List Nat) (h : ∀ i, at_ v i < 18446744073709551616) : (encs v).length ≤ 10 * v.length := by
 induction v with
 | nil => exact Nat.le_refl _
 | cons x v ih =>
   have h1 := enc_ten (n := x) (h 0)
   have h2 := ih fun i => h (i + 1)
   rw [encs_cons, List.length_append, List.length_cons]
   omega
end Go.Proofs.YtinjbdgjcadodaaGreatDoor.Vec
namespace Go.Proofs.YtinjbdgjcadodaaGreatDoor.Vec
open Go Go.RowKit Words Enc Go.Proofs.YtinjbdgjcadodaaGreatDoor.Made
theorem trimN_yes {v : List Nat} {k : Nat} (h : at_ v k = 0) : trimN v (k + 1) = trimN v k := if_pos h
theorem trimN_no {v : List Nat} {k : Nat} (h : at_ v k ≠ 0) : trimN v (k + 1) = k + 1 := if_neg h
theorem encs_take (v : List Nat) (i : Nat) (h : i < v.length) : encs (v.take (i + 1)) = encs (v.take i) ++ enc (at_ v i) := by
 rw [List.take_add_one, at_lt h, Option.toList_some, encs_snoc]
end Go.Proofs.YtinjbdgjcadodaaGreatDoor.Vec
namespace Go.Proofs.YtinjbdgjcadodaaGreatDoor.Vec
open Go Go.RowKit Words
theorem within_yes {a b : List Nat} (h : ∀ i, i < a.length → at_ a i ≤ at_ b i) : withinL a b = true := within_iff.2 fun i => by
 by_cases hi : i < a.length
 ·exact h i hi
 ·rw [at_ge (by omega)]; exact Nat.zero_le _
theorem within_no {a b : List Nat} {i : Nat} (h : ¬ at_ a i ≤ at_ b i) : withinL a b = false := by
 cases hw : withinL a b with
 | false => rfl
 | true => exact absurd (within_iff.1 hw i) h
def Took2 (w : World) (A : Option Addr) (n c : Nat) (a : List Nat) : Prop := SeesU w A n a ∧ Fits a ∧ n ≤ c ∧ c ≤ 9223372036854775807 ∧ n ≤ 900000
theorem Took2.below {w w' : World} {A : Option Addr} {n c : Nat} {a : List Nat} (h : Took2 w A n c a) (hb : Below w.heap.size w w') : Took2 w' A n c a := ⟨h.1.below hb, h.2⟩
def WithinSaid : Prop := ∀ (A B : Option Addr) (n c m d : Nat) (a b : List Nat) (w : World), Took2 w A n c a → Took2 w B m d b →
 Calls Tryz.prog 131 #[.slice A n c, .slice B m d] w fun e w' => e = .returned (.bool (withinL a b)) ∧ Below w.heap.size w w'
def SameSaid : Prop := ∀ (A B : Option Addr) (n c m d : Nat) (a b : List Nat) (w : World), Took2 w A n c a → Took2 w B m d b →
 Calls Tryz.prog 84 #[.slice A n c, .slice B m d] w fun e w' => e = .returned (.bool (withinL a b && withinL b a)) ∧ Below w.heap.size w w'
theorem fits_max {l a b : List Nat} (h : ∀ i, at_ l i = Nat.max (at_ a i) (at_ b i)) (ha : Fits a) (hb : Fits b) : Fits l := fun i => by
 rw [h]; exact Nat.max_lt.2 ⟨ha i, hb i⟩
end Go.Proofs.YtinjbdgjcadodaaGreatDoor.Vec
namespace Go.Proofs.YtinjbdgjcadodaaGreatDoor.Vec
open Go Go.RowKit Words Enc Go.Proofs.YtinjbdgjcadodaaGreatDoor.Made Go.Proofs.YtinjbdgjcadodaaGreatDoor.Tape
def GivesB (w : World) (p : List UInt8) (e : Ending) (w' : World) : Prop := ∃ R rc, e = .returned (.slice R p.length rc) ∧ Sees w' R p.length p ∧ p.length ≤ rc ∧ rc ≤ 9223372036854775807 ∧ Below w.heap.size w w'
theorem get_at (A : Option Addr) (n c : Nat) (a : List Nat) (i : Nat) (w : World) (hs : SeesU w A n a) :
  Calls Tryz.prog 187 #[.slice A n c, .int .i64 (i : Int)] w fun e w' => e = .returned (.int .u64 (at_ a i : Int)) ∧ w' = w := by
 have h0 : decide ((i : Int) < 0) = false := decide_eq_false (by omega)
 by_cases hi : i < n
 ·obtain ⟨b, o, rfl, hc⟩ := hs.get hi
  generalize at_ a i = x at hc ⊢
  have h1 : decide ((n : Int) ≤ (i : Int)) = false := decide_eq_false (by omega)
  have h2 : (i : Int) < (n : Int) := by omega
  clear hs hi
  go_enter Tryz.func187, Tryz.ntmps187
  go_wp2
  go_ret
  exact ⟨rfl, rfl⟩
 ·have h1 : n ≤ i := by omega
  rw [at_ge (by rw [hs.1]; omega)]
  clear hs hi
  go_enter Tryz.func187, Tryz.ntmps187
  go_wp2
  go_ret
  exact ⟨rfl, rfl⟩
theorem us_append (a b : List Nat) : us (a ++ b) = us a ++ us b := by simp [us]
theorem of_us_get {l : List Nat} {j : Nat} {u : Value} (h : (us l)[j]? = some u) : ∃ x, l[j]? = some x ∧ u = .int .u64 (x : Int) := by
 unfold us at h
 rw [List.getElem?_map] at h
 cases hx : l[j]? with
 | none => rw [hx] at h; cases h
 | some x => rw [hx] at h; injection h with h; exact ⟨x, rfl, h.symm⟩
theorem run_appU {P : Program} {w : World} (base : Nat) (t ty e : TypeId) (i : TypeInfo) (z : Value) (ht : P.underlying t = some (.slice e)) (hi : P.info? e = some i) (hz : i.zero = some z)
  (hsize : i.size = 1) (hby : i.bytes = 8) (hzs : z.cells.size = 1)
  (A : Option Addr) (n c : Nat) (l : List Nat) (hown : w.ownsRow base e 1 (.slice A n c) n (us l))
  (S : Option Addr) (m k : Nat) (q : List Nat) (hs : SeesU w S m q) (h63 : n + m ≤ 1000000000000) (hbase : base ≤ w.heap.size) :
  ∃ A' c' w', (Builtin.append_ #[t, t] ty #[.slice A n c, .slice S m k]).run P w = .ok (.slice A' (n + m) c') w' ∧ w'.ownsRow base e 1 (.slice A' (n + m) c') (n + m) (us (l ++ q)) ∧ Below base w w' := by
 have hmx : n + m ≤ maxLen := by unfold maxLen; omega
 cases S with
 | none =>
   have hm : m = 0 := by
    rcases Nat.eq_zero_or_pos m with h0 | h0
    ·exact h0
    ·obtain ⟨b, o, h, _⟩ := hs.2 h0
     cases h
   subst hm
   have hq : q = [] := List.eq_nil_of_length_eq_zero hs.1
   subst hq
   refine ⟨A, c, w, ?_, by simpa using hown, Below.refl _ _⟩
   rcases hown.2 with ⟨hv, rfl⟩ | ⟨g, cap, cur, hv, _, _, hnc, _⟩
   ·injection hv with h1 h2 h3
    subst h1; subst h3
    simp [Builtin.append_, run_underlying ht, sizeOf, typeInfo, hi, Builtin.lenOf, Builtin.firstCells]
   ·injection hv with h1 h2 h3
    subst h1; subst h3
    simp [Builtin.append_, run_underlying ht, sizeOf, typeInfo, hi, Builtin.lenOf, Builtin.firstCells, hnc, storeCells]
 | some ad =>
   have hcells : ∀ j u, (us q)[j]? = some u → w.cell? (ad.add j) = some u := by
    intro j u hu
    obtain ⟨y, hy, rfl⟩ := of_us_get hu
    have hj : j < q.length := (List.getElem?_eq_some_iff.1 hy).1
    obtain ⟨b, o, h, hc⟩ := hs.2 (by have := hs.1; omega)
    injection h with h
    subst h
    rw [add_plain]
    exact hc j y hy
   obtain ⟨v', w', hrun, h2, h3, _⟩ := run_append_own (P := P) w base t ty e i z 1 8 ht hi hz hsize hby hzs (by decide) (.slice A n c) n (us l) hown ad m k (us q) (by rw [us_length, hs.1]; simp) hcells (us_one q) hmx (by omega) hbase
   rw [← us_append] at h2
   have hB : Below base w w' := (Below.refl base w).grown h3 hbase fun g hg => (hown.lt g hg).1
   obtain ⟨A', c', rfl⟩ : ∃ A' c', v' = .slice A' (n + m) c' := by
    rcases h2.2 with ⟨rfl, h0⟩ | ⟨g, cap, cur, rfl, _⟩
    ·exact ⟨none, 0, by rw [h0]⟩
    ·exact ⟨_, cap, rfl⟩
   exact ⟨A', c', w', hrun, h2, hB⟩
theorem eql_none (w : World) (n c : Nat) : (binOp .eql 24 (.slice none n c) (.slice none 0 0)).run Tryz.prog w = .ok (.bool true) w := by
 rw [Lib.run_eql_slice_nil w 24 22 none n c 0 0 Tryz.underlying24]
 rfl
theorem eql_some (w : World) (a : Addr) (n c : Nat) : (binOp .eql 24 (.slice (some a) n c) (.slice none 0 0)).run Tryz.prog w = .ok (.bool false) w := by
 rw [Lib.run_eql_slice_nil w 24 22 (some a) n c 0 0 Tryz.underlying24]
 rfl
theorem info64 : (Tryz.prog.info? 22).map (fun i => (i.zero, i.size, i.bytes)) = some (some (.int .u64 0), 1, 8) := by kernel_rfl
theorem app_vec (ty : TypeId) (base : Nat) (A : Option Addr) (n c : Nat) (l : List Nat) (w : World) (hown : w.ownsRow base 22 1 (.slice A n c) n (us l))
  (S : Option Addr) (m k : Nat) (q : List Nat) (hs : SeesU w S m q) (h63 : n + m ≤ 1000000000000) (hbase : base ≤ w.heap.size) :
  ∃ A' c' w', (Builtin.append_ #[24, 24] ty #[.slice A n c, .slice S m k]).run Tryz.prog w = .ok (.slice A' (n + m) c') w' ∧ w'.ownsRow base 22 1 (.slice A' (n + m) c') (n + m) (us (l ++ q)) ∧ Below base w w' := by
 have hi := info64
 cases hc : Tryz.prog.info? 22 with
 | none => rw [hc] at hi; cases hi
 | some i =>
   rw [hc] at hi
   simp only [Option.map_some, Option.some.injEq, Prod.mk.injEq] at hi
   obtain ⟨hz, hsz, hby⟩ := hi
   exact run_appU base 24 ty 22 i (.int .u64 0) Tryz.underlying24 hc hz hsz hby rfl A n c l hown S m k q hs h63 hbase
theorem wpList_vec {w : World} {ops : Array Oper} {rest : List Oper} {o : Oper} {a : Act} {Q : Exit → Act → World → Prop} (hgd : o.guard = none) (s x : Operand)
  (ho : o.op = .call { callee := .builtin .append, args := #[s, x], argTypes := #[24, 24] })
  (base : Nat) (A : Option Addr) (n c : Nat) (l : List Nat) (hs : a.eval s = .slice A n c) (hown : w.ownsRow base 22 1 (.slice A n c) n (us l))
  (S : Option Addr) (m k : Nat) (q : List Nat) (hx : a.eval x = .slice S m k) (hq : SeesU w S m q) (h63 : n + m ≤ 1000000000000) (hbase : base ≤ w.heap.size)
  (h : ∀ A' c' w', w'.ownsRow base 22 1 (.slice A' (n + m) c') (n + m) (us (l ++ q)) → Below base w w' → wpList Tryz.prog ops Q rest (a.put o.dst (.slice A' (n + m) c')) w') : wpList Tryz.prog ops Q (o :: rest) a w :=
 wpList_plain hgd fun _ hK => by
  obtain ⟨A', c', w', hrun, h2, h3⟩ := app_vec o.type base A n c l w hown S m k q hq h63 hbase
  unfold Oper.wp execOp
  simp only [ho, resolve, invoke, builtin, Sem.run_bind, Sem.run_pure, Result.andThen_ok, List.map_toArray, List.map_cons, List.map_nil, hs, hx, hrun]
  exact hK _ _ (h A' c' w' h2 h3)
def Clones (w : World) (v : List Nat) (n : Nat) (e : Ending) (w' : World) : Prop :=
 ∃ A' c', e = .returned (.slice A' n c') ∧ w'.ownsRow w.heap.size 22 1 (.slice A' n c') n (us v) ∧ Below w.heap.size w w'
theorem clone_u (A : Option Addr) (n c : Nat) (v : List Nat) (w : World) (hv : SeesU w A n v) (hn : n ≤ 900000) :
  Calls Tryz.prog 85 #[.slice A n c] w (Clones w v n) := by
 cases A with
 | none =>
   have h0 : n = 0 := by
    rcases Nat.eq_zero_or_pos n with h | h
    ·exact h
    ·obtain ⟨b, o, e, _⟩ := hv.2 h
     cases e
   subst h0
   have hl0 : v = [] := List.eq_nil_of_length_eq_zero hv.1
   subst hl0
   have he := eql_none w 0 c
   have FIN : Hid (Clones w [] 0 (.returned (.slice none 0 0)) w) := Lib.hid ⟨none, 0, rfl, Own.nil _ _ _, Below.refl _ _⟩
   go_enter Tryz.func85, Tryz.ntmps85
   go_wp2
   go_ret
   exact FIN.out
 | some a =>
   have he := eql_some w a n c
   have hv1 := hv.below ((Below.refl w.heap.size w).alloc (Nat.le_refl _) (.cells #[] 22))
   have hb1 := (Below.refl w.heap.size w).alloc (Nat.le_refl _) (.cells #[] 22)
   have own0 := World.ownsRow_lit (base := w.heap.size) (e := 22) (size := 1) w #[] 0 (Nat.le_refl _) (by decide) rfl
   have hsz : w.heap.size ≤ (w.alloc (.cells #[] 22)).heap.size := hb1.size
   clear hv
   go_enter Tryz.func85, Tryz.ntmps85
   go_wp2_with (first | (at_builtin; refine wpList_vec rfl _ _ rfl w.heap.size (some ⟨w.heap.size, 0, none⟩) 0 0 [] rfl own0 (some a) n c v rfl hv1 (by omega) hsz ?_))
   intro A' c' w' own bel
   have FIN : Hid (Clones w v n (.returned (.slice A' n c')) w') := Lib.hid ⟨_, _, rfl, own, hb1.trans bel⟩
   clear hv1 hb1 own bel own0
   go_wp2
   go_ret
   exact FIN.out
def Trims (w : World) (v : List Nat) (n : Nat) (e : Ending) (w' : World) : Prop :=
 ∃ R rc, e = .returned (.slice R (trimN v n) rc) ∧ w'.ownsRow w.heap.size 22 1 (.slice R (trimN v n) rc) (trimN v n) (us (v.take (trimN v n))) ∧ Below w.heap.size w w'
theorem trim_at (A : Option Addr) (n c : Nat) (v : List Nat) (w : World) (hv : SeesU w A n v) (hc : n ≤ c) (hn : n ≤ 900000) (hc2 : c ≤ 9223372036854775807) :
  Calls Tryz.prog 48 #[.slice A n c] w (Trims w v n) := by
 obtain ⟨K, hK⟩ : ∃ K, K = trimN v n := ⟨_, rfl⟩
 have hKn : K ≤ n := by rw [hK]; exact trimN_le v n
 have HK := Lib.hid hK.symm
 have CL := Lib.hid (clone_u A K c (v.take K) w (hv.take hKn) (by omega))
 unfold Trims
 rw [← hK]
 clear hK
 go_enter Tryz.func48, Tryz.ntmps48
 go_wp2_with fail
 go_loopw [3] (fun x wr => ∃ j : Nat, x = .int .i64 (j : Int) ∧ j ≤ n ∧ Hid (trimN v j = K) ∧ w = wr) (fun x _ => (intOf x).toNat)
 case atStart => exact ⟨n, rfl, Nat.le_refl _, HK, rfl⟩
 case round =>
  obtain ⟨j, rfl, hj, HJ, rfl⟩ := hrel
  by_cases h0 : ∃ k, j = k + 1 ∧ at_ v k = 0
  ·obtain ⟨k, rfl, hz⟩ := h0
   obtain ⟨g, o, rfl, hcell⟩ := hv.get (j := k) (by omega)
   rw [hz] at hcell
   have HJ' := Lib.hid (by rw [← trimN_yes hz]; exact HJ.out : trimN v k = K)
   clear hz HJ
   go_wp2
   go_roundw
   case rel => exact ⟨k, by simp, by omega, HJ', by trivial⟩
   case measure => simp [intOf]
  ·have hjK : j = K := by
    cases j with
    | zero => exact HJ.out
    | succ k => rw [← HJ.out, trimN_no fun h => h0 ⟨k, rfl, h⟩]
   subst hjK
   by_cases hj0 : j = 0
   ·subst hj0
    clear h0 HJ
    cases A with
    | none =>
      go_wp2_with fail
      refine CL.out.mono ?_
      rintro e w2 ⟨R, rc, rfl, h1, h2⟩
      have FIN := Lib.hid (And.intro h1 h2)
      clear h1 h2 CL
      go_wp2
      go_ret
      exact ⟨_, _, rfl, FIN.out⟩
    | some ad =>
      go_wp2_with fail
      refine CL.out.mono ?_
      rintro e w2 ⟨R, rc, rfl, h1, h2⟩
      have FIN := Lib.hid (And.intro h1 h2)
      clear h1 h2 CL
      go_wp2
      go_ret
      exact ⟨_, _, rfl, FIN.out⟩
   ·obtain ⟨g, o, rfl, hcell⟩ := hv.get (j := j - 1) (by omega)
    have hne : at_ v (j - 1) ≠ 0 := fun h => h0 ⟨j - 1, by omega, h⟩
    generalize at_ v (j - 1) = z at hcell hne
    have z1 : ((z : Int) == 0) = false := by rw [beq_eq_false_iff_ne]; omega
    clear hne h0 HJ
    go_wp2_with fail
    refine CL.out.mono ?_
    rintro e w2 ⟨R, rc, rfl, h1, h2⟩
    have FIN := Lib.hid (And.intro h1 h2)
    clear h1 h2 CL
    go_wp2
    go_ret
    exact ⟨_, _, rfl, FIN.out⟩
def uRow (kk : Nat) : Array Value := madeCells #[.int .u64 0] kk
theorem make_u (W : World) (kk : Nat) (hk : kk ≤ 3000000) : (Instr.makeSlice 24 (.int .i64 (kk : Int)) (.int .i64 (kk : Int))).run Tryz.prog W = .ok (.slice (some ⟨W.heap.size, 0, none⟩) kk kk) (W.alloc (.cells (uRow kk) 22)) := by
 have hi := info64
 cases hc : Tryz.prog.info? 22 with
 | none => rw [hc] at hi; cases hi
 | some i =>
   rw [hc] at hi
   simp only [Option.map_some, Option.some.injEq, Prod.mk.injEq] at hi
   obtain ⟨hz, hsz, hby⟩ := hi
   have := run_make (P := Tryz.prog) W 24 22 i (.int .u64 0) Tryz.underlying24 hc hz .i64 .i64 (kk : Int) (kk : Int) (by omega) (Int.le_refl _) (by rw [hby]; omega) (by omega)
   rw [this, hsz]
   simp only [Int.toNat_natCast, Nat.mul_one]
   rfl
theorem uRow_list (kk : Nat) : (uRow kk).toList = us (List.replicate kk 0) := by
 unfold uRow us
 rw [toList_madeCells_one]
 simp
theorem uRow_own (W : World) (kk : Nat) (hk : kk ≤ 3000000) : (W.alloc (.cells (uRow kk) 22)).ownsRow W.heap.size 22 1 (.slice (some ⟨W.heap.size, 0, none⟩) kk kk) kk (us (List.replicate kk 0)) := by
 have := World.ownsRow_lit (base := W.heap.size) (e := 22) (size := 1) W (uRow kk) kk (Nat.le_refl _) (by unfold maxLen; omega) (by rw [← Array.length_toList, uRow_list]; simp [us])
 rw [uRow_list] at this
 exact this
theorem at_set (l : List Nat) (j x i : Nat) (hj : j < l.length) : at_ (l.set j x) i = if i = j then x else at_ l i := by
 unfold at_
 rw [List.getD_eq_getElem?_getD, List.getElem?_set]
 by_cases h : j = i
 ·subst h
  simp [hj]
 ·rw [if_neg h, if_neg (fun e => h e.symm), List.getD_eq_getElem?_getD]
theorem pickJoin_any (x y : Nat) (w : World) : Calls Tryz.prog 142 #[.int .u64 (x : Int), .int .u64 (y : Int)] w fun e w' => e = .returned (.int .u64 ((Nat.max x y : Nat) : Int)) ∧ w' = w := by
 have h : max (x : Int) (y : Int) = ((Nat.max x y : Nat) : Int) := by show _ = ((max x y : Nat) : Int); omega
 obtain ⟨z, hz⟩ : ∃ z, z = Nat.max x y := ⟨_, rfl⟩
 rw [← hz] at h ⊢
 clear hz
 go_enter Tryz.func142, Tryz.ntmps142
 go_wp2
 go_ret
 exact ⟨rfl, rfl⟩
theorem within_at (A B : Option Addr) (n c m d : Nat) (a b : List Nat) (w : World) (ha : SeesU w A n a) (hb : SeesU w B m b) (hn : n ≤ 900000) :
  Calls Tryz.prog 131 #[.slice A n c, .slice B m d] w fun e w' => e = .returned (.bool (withinL a b)) ∧ ∃ k, w' = w.drewN k := by
 go_enter Tryz.func131, Tryz.ntmps131
 go_wp2_with fail
 go_loopw [9] (fun v wr => ∃ j k : Nat, v = .int .i64 (j : Int) ∧ j ≤ n ∧ (∀ i, i < j → at_ a i ≤ at_ b i) ∧ wr = w.drewN k) (fun v _ => n - (intOf v).toNat)
 case atStart => exact ⟨0, 0, rfl, by omega, fun i hi => absurd hi (by omega), rfl⟩
 case round =>
  obtain ⟨j, k, rfl, hj, hle, rfl⟩ := hrel
  by_cases hlt : j < n
  ·obtain ⟨g, o, rfl, hc⟩ := ha.get hlt
   have h2 : (j : Int) < (n : Int) := by omega
   have h3 : (0 : Int) ≤ (j : Int) := by omega
   have HLE := Lib.hid hle
   clear hle
   by_cases hx : at_ a j ≤ at_ b j
   ·have HX := Lib.hid hx
    have hd : ¬ at_ b j < at_ a j := by omega
    clear hx
    generalize at_ a j = x1 at hc hd
    go_wp2_with fail
    refine (get_at B m d b j _ (hb.drewN _)).mono ?_
    rintro e w4 ⟨rfl, hw4⟩
    subst hw4
    go_wp2
    go_roundw
    case rel => exact ⟨j + 1, k, by simp, by omega, fun i hi => by
     rcases Nat.lt_or_ge i j with h | h
     ·exact HLE.out i h
     ·obtain rfl : i = j := by omega
      exact HX.out, rfl⟩
    case measure => simp [intOf]; omega
   ·have HX := Lib.hid hx
    have hd : at_ b j < at_ a j := by omega
    clear hx
    generalize at_ a j = x1 at hc hd
    go_wp2_with fail
    refine (get_at B m d b j _ (hb.drewN _)).mono ?_
    rintro e w4 ⟨rfl, hw4⟩
    subst hw4
    go_wp2
    go_ret
    exact ⟨by rw [within_no HX.out]; rfl, _, rfl⟩
  ·obtain rfl : j = n := by omega
   have HW := Lib.hid (within_yes (b := b) fun i hi => hle i (by have := ha.1; omega))
   clear hle
   go_wp2
   go_ret
   exact ⟨by rw [HW.out]; rfl, _, rfl⟩
theorem below_drewN (w : World) (k : Nat) : Below w.heap.size w (w.drewN k) := by
 have := Below.refl w.heap.size w
 exact ⟨this.os, this.tape, this.output, this.size, this.block⟩
theorem within_any : WithinSaid := fun A B n c m d a b w ta tb => (within_at A B n c m d a b w ta.1 tb.1 ta.2.2.2.2).mono fun e w' ⟨h, k, hk⟩ => ⟨h, by rw [hk]; exact below_drewN w k⟩
theorem same_any : SameSaid := fun A B n c m d a b w ta tb => by
 go_enter Tryz.func84, Tryz.ntmps84
 cases h1 : withinL a b with
 | false =>
   go_wp2_with fail
   refine (within_any _ _ _ _ _ _ _ _ _ ta tb).mono ?_
   rw [h1]
   rintro e w1 ⟨rfl, b1⟩
   have H1 := Lib.hid h1
   clear ta tb h1
   go_wp2
   go_ret
   exact ⟨rfl, b1⟩
 | true =>
   go_wp2_with fail
   refine (within_any _ _ _ _ _ _ _ _ _ ta tb).mono ?_
   rw [h1]
   rintro e w1 ⟨rfl, b1⟩
   have W2 := Lib.hid (within_any _ _ _ _ _ _ _ _ _ (tb.below b1) (ta.below b1))
   have H1 := Lib.hid h1
   clear ta tb h1
   cases h2 : withinL b a with
   | false =>
     rw [h2] at W2
     have H2 := Lib.hid h2
     clear h2
     go_wp2_with fail
     refine W2.out.mono ?_
     rintro e w2 ⟨rfl, b2⟩
     go_wp2
     go_ret
     exact ⟨by rw [H2.out]; rfl, b1.trans (b2.mono b1.size)⟩
   | true =>
     rw [h2] at W2
     have H2 := Lib.hid h2
     clear h2
     go_wp2_with fail
     refine W2.out.mono ?_
     rintro e w2 ⟨rfl, b2⟩
     go_wp2
     go_ret
     exact ⟨by rw [H2.out]; rfl, b1.trans (b2.mono b1.size)⟩
end Go.Proofs.YtinjbdgjcadodaaGreatDoor.Vec
