/- Texts of the law ReplicaNil, put together. -/
import Derived.WalkKit
import Derived.Laws.AppendOwnNone
import Derived.Deep.Draws
import Derived.RegionTactic
import Derived.Deep.Matrix
import Derived.Test.YtinjbdgjcadodaaGreatDoorRows
import Derived.Handy
import Derived.Lib.Hide
import Derived.Deep.QuietTactic
import Derived.BigQuiet
import Derived.Maps.AppendAt
import Derived.Maps.RangeWalk
import Derived.Laws.RangeString
import Derived.Laws.RangeAny
import Derived.LoopTactic
set_option linter.unusedVariables false
namespace Go.Proofs.YtinjbdgjcadodaaGreatDoor.Words
open Go Go.RowKit
def cs (l : List UInt8) : List Value := l.map fun b => Value.int .u8 (b.toNat : Int)
theorem cs_length (l : List UInt8) : (cs l).length = l.length := by simp [cs]
theorem cs_append (l m : List UInt8) : cs (l ++ m) = cs l ++ cs m := by simp [cs]
theorem cs_one (l : List UInt8) : ∀ u ∈ cs l, u.oneCell' = true := by
 intro u hu
 obtain ⟨_, _, rfl⟩ := List.mem_map.1 hu
 rfl
theorem cs_get {l : List UInt8} {j : Nat} {u : UInt8} (h : l[j]? = some u) : (cs l)[j]? = some (.int .u8 (u.toNat : Int)) := by simp [cs, h]
theorem of_cs_get {l : List UInt8} {j : Nat} {v : Value} (h : (cs l)[j]? = some v) : ∃ u, l[j]? = some u ∧ v = .int .u8 (u.toNat : Int) := by
 simp only [cs, List.getElem?_map, Option.map_eq_some_iff] at h
 obtain ⟨u, hu, rfl⟩ := h
 exact ⟨u, hu, rfl⟩
theorem add_plain (b o j : Nat) : (⟨b, o, none⟩ : Addr).add j = ⟨b, o + j, none⟩ := by unfold Addr.add; split <;> simp_all
def Sees (w : World) (A : Option Addr) (n : Nat) (l : List UInt8) : Prop :=
 l.length = n ∧ (0 < n → ∃ b o, A = some ⟨b, o, none⟩ ∧ ∀ j u, l[j]? = some u → w.cell? ⟨b, o + j, none⟩ = some (.int .u8 (u.toNat : Int)))
theorem Sees.nil (w : World) (A : Option Addr) : Sees w A 0 [] := ⟨rfl, fun h => absurd h (by omega)⟩
theorem Sees.drew {w : World} {A : Option Addr} {n : Nat} {l : List UInt8} (h : Sees w A n l) : Sees w.drew A n l := h
theorem Sees.drewN {w : World} {A : Option Addr} {n : Nat} {l : List UInt8} (h : Sees w A n l) (k : Nat) : Sees (w.drewN k) A n l := h
theorem Sees.below {w w' : World} {A : Option Addr} {n : Nat} {l : List UInt8} (h : Sees w A n l) (hb : Below w.heap.size w w') : Sees w' A n l := by
 refine ⟨h.1, fun hn => ?_⟩
 obtain ⟨b, o, hA, hc⟩ := h.2 hn
 refine ⟨b, o, hA, fun j u hu => ?_⟩
 have hcell := hc j u hu
 have hlt := World.block_lt_of_cell? _ _ hcell
 rw [hb.cell (p := ⟨b, o + j, none⟩) hlt]
 exact hcell
theorem Sees.at_ {w : World} {A : Option Addr} {n : Nat} {l : List UInt8} (h : Sees w A n l) (hn : 0 < n) :
  ∃ b o, A = some ⟨b, o, none⟩ ∧ ∀ j u, l[j]? = some u → w.cell? ⟨b, o + j, none⟩ = some (.int .u8 (u.toNat : Int)) := h.2 hn
theorem Sees.of_own {w : World} {base : Nat} {e : TypeId} {A : Option Addr} {n c : Nat} {l : List UInt8} (h : w.ownsRow base e 1 (.slice A n c) n (cs l)) : Sees w A n l := by
 refine ⟨by have := h.1; rw [cs_length] at this; omega, fun hn => ?_⟩
 rcases h.2 with ⟨hv, h0⟩ | ⟨g, cap, cur, hv, _⟩
 ·omega
 ·injection hv with hA
  subst hA
  exact ⟨g, 0, rfl, fun j u hu => by rw [← add_plain]; exact h.cells (g := g) rfl j _ (cs_get hu)⟩
theorem Sees.take {w : World} {A : Option Addr} {n : Nat} {l : List UInt8} (h : Sees w A n l) {k : Nat} (hk : k ≤ n) : Sees w A k (l.take k) := by
 refine ⟨by rw [List.length_take, h.1]; omega, fun hn => ?_⟩
 obtain ⟨b, o, e, hc⟩ := h.2 (by omega)
 refine ⟨b, o, e, fun j u hu => ?_⟩
 rw [List.getElem?_take] at hu
 split at hu
 ·exact hc j u hu
 ·cases hu
section
variable {P : Program}
theorem strOf_nums (l : List UInt8) : strOfNums (l.map fun b => (b.toNat : Int)) = ⟨l.toArray⟩ := by
 unfold strOfNums
 congr 2
 rw [List.map_map]
 conv => rhs; rw [← List.map_id l]
 apply List.map_congr_left
 intro x _
 simp
theorem Sees.string {w : World} {A : Option Addr} {n : Nat} {l : List UInt8} (h : Sees w A n l) (c : Nat) {t s e : TypeId} (ht : P.underlying t = some (.slice e)) (he : P.underlying e = some (.int .u8)) (hs : P.underlying s = some .string) :
  (convert t s (.slice A n c)).run P w = .ok (.string ⟨l.toArray⟩) w := by
 by_cases hn : 0 < n
 ·obtain ⟨b, o, rfl, hc⟩ := h.2 hn
  have := run_convert_bytes_arg (P := P) w t e ht he b o n c (l.map fun b => (b.toNat : Int)) (by simpa using h.1) (fun i hi => by
   have hl : i < l.length := by rw [h.1]; exact hi
   rw [hc i l[i] (List.getElem?_eq_getElem hl)]
   simp [hl]) s hs
  rw [this, strOf_nums]
 ·have h0 : n = 0 := by omega
  subst h0
  have hl : l = [] := List.eq_nil_of_length_eq_zero h.1
  subst hl
  cases A with
  | none => rw [run_convert_bytes_nil (P := P) w t e ht he 0 c s hs]; rfl
  | some a =>
    rw [run_convert_bytes_string w t s e _ 0 c ht he hs, run_bytesToString w a 0 c [] (by simp [loadCells, loadCellsFrom])]
    rfl
theorem run_app {w : World} (base : Nat) (t ty e : TypeId) (i : TypeInfo) (z : Value) (ht : P.underlying t = some (.slice e)) (hi : P.info? e = some i) (hz : i.zero = some z)
  (hsize : i.size = 1) (hby : i.bytes = 1) (hzs : z.cells.size = 1)
  (A : Option Addr) (n c : Nat) (l : List UInt8) (hown : w.ownsRow base e 1 (.slice A n c) n (cs l))
  (S : Option Addr) (m k : Nat) (q : List UInt8) (hs : Sees w S m q) (h63 : n + m ≤ 140737488355328) (hbase : base ≤ w.heap.size) :
  ∃ A' c' w', (Builtin.append_ #[t, t] ty #[.slice A n c, .slice S m k]).run P w = .ok (.slice A' (n + m) c') w' ∧ w'.ownsRow base e 1 (.slice A' (n + m) c') (n + m) (cs (l ++ q)) ∧ Below base w w' := by
 have hmx : n + m ≤ maxLen := by unfold maxLen; omega
 cases S with
 | none =>
   have hm : m = 0 := by
    rcases Nat.eq_zero_or_pos m with h0 | h0
    ·exact h0
    ·obtain ⟨b, o, h, _⟩ := hs.2 h0
     cases h
   subst hm
   have hq : q = [] := List.eq_nil_of_length_eq_zero hs.1
   subst hq
   refine ⟨A, c, w, ?_, by simpa using hown, Below.refl _ _⟩
   rcases hown.2 with ⟨hv, rfl⟩ | ⟨g, cap, cur, hv, _, _, hnc, _⟩
   ·injection hv with h1 h2 h3
    subst h1; subst h3
    simp [Builtin.append_, run_underlying ht, sizeOf, typeInfo, hi, Builtin.lenOf, Builtin.firstCells]
   ·injection hv with h1 h2 h3
    subst h1; subst h3
    simp [Builtin.append_, run_underlying ht, sizeOf, typeInfo, hi, Builtin.lenOf, Builtin.firstCells, hnc, storeCells]
 | some ad =>
   have hcells : ∀ j u, (cs q)[j]? = some u → w.cell? (ad.add j) = some u := by
    intro j u hu
    obtain ⟨y, hy, rfl⟩ := of_cs_get hu
    have hj : j < q.length := (List.getElem?_eq_some_iff.1 hy).1
    obtain ⟨b, o, h, hc⟩ := hs.2 (by have := hs.1; omega)
    injection h with h
    subst h
    rw [add_plain]
    exact hc j y hy
   obtain ⟨v', w', hrun, h2, h3, _⟩ := run_append_own (P := P) w base t ty e i z 1 1 ht hi hz hsize hby hzs (by decide) (.slice A n c) n (cs l) hown ad m k (cs q) (by rw [cs_length, hs.1]; simp) hcells (cs_one q) hmx (by omega) hbase
   rw [← cs_append] at h2
   have hB : Below base w w' := (Below.refl base w).grown h3 hbase fun g hg => (hown.lt g hg).1
   obtain ⟨A', c', rfl⟩ : ∃ A' c', v' = .slice A' (n + m) c' := by
    rcases h2.2 with ⟨rfl, h0⟩ | ⟨g, cap, cur, rfl, _⟩
    ·exact ⟨none, 0, by rw [h0]⟩
    ·exact ⟨_, cap, rfl⟩
   exact ⟨A', c', w', hrun, h2, hB⟩
theorem wp_app {w : World} {o : Oper} {a : Act} {K : Act → World → Prop} {Q : Exit → Act → World → Prop} (s x : Operand) (t : TypeId)
  (ho : o.op = .call { callee := .builtin .append, args := #[s, x], argTypes := #[t, t] })
  (base : Nat) (e : TypeId) (i : TypeInfo) (z : Value) (ht : P.underlying t = some (.slice e)) (hi : P.info? e = some i) (hz : i.zero = some z)
  (hsize : i.size = 1) (hby : i.bytes = 1) (hzs : z.cells.size = 1)
  (A : Option Addr) (n c : Nat) (l : List UInt8) (hs : a.eval s = .slice A n c) (hown : w.ownsRow base e 1 (.slice A n c) n (cs l))
  (S : Option Addr) (m k : Nat) (q : List UInt8) (hx : a.eval x = .slice S m k) (hq : Sees w S m q) (h63 : n + m ≤ 140737488355328) (hbase : base ≤ w.heap.size)
  (h : ∀ A' c' w', w'.ownsRow base e 1 (.slice A' (n + m) c') (n + m) (cs (l ++ q)) → Below base w w' → K (a.put o.dst (.slice A' (n + m) c')) w') : o.wp P a w K Q := by
 obtain ⟨A', c', w', hrun, h2, h3⟩ := run_app (P := P) base t o.type e i z ht hi hz hsize hby hzs A n c l hown S m k q hq h63 hbase
 unfold Oper.wp execOp
 simp only [ho, resolve, invoke, builtin, Sem.run_bind, Sem.run_pure, Result.andThen_ok, List.map_toArray, List.map_cons, List.map_nil, hs, hx, hrun]
 exact h A' c' w' h2 h3
theorem wpList_app {w : World} {ops : Array Oper} {rest : List Oper} {o : Oper} {a : Act} {Q : Exit → Act → World → Prop} (hgd : o.guard = none) (s x : Operand) (t : TypeId)
  (ho : o.op = .call { callee := .builtin .append, args := #[s, x], argTypes := #[t, t] })
  (base : Nat) (e : TypeId) (i : TypeInfo) (z : Value) (ht : P.underlying t = some (.slice e)) (hi : P.info? e = some i) (hz : i.zero = some z)
  (hsize : i.size = 1) (hby : i.bytes = 1) (hzs : z.cells.size = 1)
  (A : Option Addr) (n c : Nat) (l : List UInt8) (hs : a.eval s = .slice A n c) (hown : w.ownsRow base e 1 (.slice A n c) n (cs l))
  (S : Option Addr) (m k : Nat) (q : List UInt8) (hx : a.eval x = .slice S m k) (hq : Sees w S m q) (h63 : n + m ≤ 140737488355328) (hbase : base ≤ w.heap.size)
  (h : ∀ A' c' w', w'.ownsRow base e 1 (.slice A' (n + m) c') (n + m) (cs (l ++ q)) → Below base w w' → wpList P ops Q rest (a.put o.dst (.slice A' (n + m) c')) w') : wpList P ops Q (o :: rest) a w :=
 wpList_plain hgd fun _ hK => wp_app s x t ho base e i z ht hi hz hsize hby hzs A n c l hs hown S m k q hx hq h63 hbase fun A' c' w' h2 h3 => hK _ _ (h A' c' w' h2 h3)
theorem sees_new (w : World) (e : TypeId) (cur : Array Value) (n : Nat) (l : List UInt8) (hn : l.length = n) (h : ∀ (j : Nat) (u : UInt8), l[j]? = some u → cur[j]? = some (Value.int .u8 (u.toNat : Int))) :
  Sees (w.alloc (.cells cur e)) (some ⟨w.heap.size, 0, none⟩) n l := by
 refine ⟨hn, fun _ => ⟨_, _, rfl, fun j u hu => ?_⟩⟩
 rw [cell_of_row _ w.heap.size (0 + j) cur e (0, 0) (heap_alloc_new w _), Nat.zero_add]
 exact h j u hu
theorem sees_marked (w : World) (e : TypeId) (cur : Array Value) (fr : Nat × Nat) (n : Nat) (l : List UInt8) (hn : l.length = n) (h : ∀ (j : Nat) (u : UInt8), l[j]? = some u → cur[j]? = some (Value.int .u8 (u.toNat : Int))) :
  Sees (w.alloc (.cells cur e fr)) (some ⟨w.heap.size, 0, none⟩) n l := by
 refine ⟨hn, fun _ => ⟨_, _, rfl, fun j u hu => ?_⟩⟩
 rw [cell_of_row _ w.heap.size (0 + j) cur e fr (heap_alloc_new w _), Nat.zero_add]
 exact h j u hu
theorem Sees.fresh (w : World) (e : TypeId) (X : Int) (u : UInt8) (hX : X = (u.toNat : Int)) : Sees (w.alloc (.cells #[.int .u8 X] e)) (some ⟨w.heap.size, 0, none⟩) 1 [u] := by
 subst hX
 refine ⟨rfl, fun _ => ⟨_, _, rfl, fun j v hv => ?_⟩⟩
 match j, hv with
 | 0, hv =>
   simp at hv
   subst hv
   simp
end
theorem Own.nil (w : World) (base : Nat) (e : TypeId) : w.ownsRow base e 1 (.slice none 0 0) 0 (cs []) := World.ownsRow_nil w base e 1
theorem Own.shape {w : World} {base : Nat} {e : TypeId} {v : Value} {n : Nat} {xs : List Value} (h : w.ownsRow base e 1 v n xs) : ∃ A c, v = .slice A n c ∧ n ≤ c := by
 rcases h.2 with ⟨rfl, rfl⟩ | ⟨g, cap, cur, rfl, _, _, hc, _⟩
 ·exact ⟨none, 0, rfl, Nat.le_refl _⟩
 ·exact ⟨_, cap, rfl, hc⟩
theorem Own.cap {w : World} {base : Nat} {e : TypeId} {A : Option Addr} {n c : Nat} {xs : List Value} (h : w.ownsRow base e 1 (.slice A n c) n xs) : n ≤ c ∧ c ≤ 9223372036854775807 := by
 rcases h.2 with ⟨hv, rfl⟩ | ⟨g, cap, cur, hv, _, _, hc, hm, _⟩
 ·injection hv with _ _ h3
  omega
 ·injection hv with _ _ h3
  subst h3
  unfold maxLen at hm
  omega
theorem Own.at_ {w : World} {base : Nat} {e : TypeId} {A : Option Addr} {n c : Nat} {xs : List Value} (h : w.ownsRow base e 1 (.slice A n c) n xs) (hn : 0 < n) : ∃ g, A = some ⟨g, 0, none⟩ ∧ base ≤ g := by
 rcases h.2 with ⟨hv, rfl⟩ | ⟨g, cap, cur, hv, hb, _⟩
 ·omega
 ·injection hv with h1
  exact ⟨g, h1, hb⟩
theorem Own.lower {w : World} {base base' : Nat} {e : TypeId} {v : Value} {n : Nat} {xs : List Value} (h : w.ownsRow base e 1 v n xs) (hb : base' ≤ base) : w.ownsRow base' e 1 v n xs := by
 refine ⟨h.1, ?_⟩
 rcases h.2 with hn | ⟨g, cap, cur, hv, hg, r⟩
 ·exact .inl hn
 ·exact .inr ⟨g, cap, cur, hv, Nat.le_trans hb hg, r⟩
theorem Own.below {w w' : World} {base B : Nat} {e : TypeId} {v : Value} {n : Nat} {xs : List Value} (h : w.ownsRow base e 1 v n xs) (hb : Below B w w') (hB : w.heap.size ≤ B) : w'.ownsRow base e 1 v n xs := by
 refine ⟨h.1, ?_⟩
 rcases h.2 with hn | ⟨g, cap, cur, hv, hg, hh, r⟩
 ·exact .inl hn
 ·exact .inr ⟨g, cap, cur, hv, hg, by rw [hb.block g (by have := (Array.getElem?_eq_some_iff.1 hh).1; omega)]; exact hh, r⟩
theorem sees_of_row {w : World} {a : Option Addr} {len cap : Nat} {zs : List Int}
  (h : (a = none ∧ len = 0 ∧ cap = 0 ∧ zs = []) ∨ ∃ x, a = some x ∧ len ≤ cap ∧ cap ≤ maxLen ∧ zs.length = cap ∧ (∀ i, i < zs.length → w.cell? (x.add i) = some (.int .u8 (zs.getD i 0))) ∧ ∀ n ∈ zs, (Lit.int .u8 n).wf = true) :
  ∃ l, Sees w a len l ∧ len ≤ cap ∧ cap ≤ maxLen := by
 rcases h with ⟨rfl, rfl, rfl, rfl⟩ | ⟨x, rfl, hl, hm, hz, hc, hw⟩
 ·exact ⟨[], Sees.nil _ _, Nat.le_refl _, Nat.zero_le _⟩
 ·refine ⟨(zs.take len).map fun n => UInt8.ofNat n.toNat, ⟨by simp; omega, fun hn => ?_⟩, hl, hm⟩
  obtain ⟨b, o, s⟩ := x
  have hs0 : s = none := by
   have := hc 0 (by omega)
   simpa [Addr.add] using World.cell?_spot this
  subst hs0
  refine ⟨b, o, rfl, fun j u hu => ?_⟩
  simp only [List.getElem?_map, Option.map_eq_some_iff, List.getElem?_take] at hu
  obtain ⟨n, hn', rfl⟩ := hu
  split at hn'
  ·have hj : j < zs.length := by omega
   have hcj := hc j hj
   rw [add_plain] at hcj
   rw [hcj]
   have e : zs.getD j 0 = n := by simp [List.getD, hn']
   have hwf := hw n (List.mem_of_getElem? hn')
   have hb : 0 ≤ n ∧ n < 256 := by
    simp [Lit.wf, IntKind.min, IntKind.max, IntKind.signed, IntKind.bits] at hwf
    omega
   rw [e]
   congr 1
   congr 1
   rw [UInt8.toNat_ofNat']
   omega
  ·cases hn'
end Go.Proofs.YtinjbdgjcadodaaGreatDoor.Words
namespace Go.Proofs.YtinjbdgjcadodaaGreatDoor.Enc
def b8 (n : Nat) : UInt8 := UInt8.ofNat n
theorem b8_toNat (n : Nat) : (b8 n).toNat = n % 256 := by unfold b8; rw [UInt8.toNat_ofNat']
def enc (n : Nat) : List UInt8 := if n < 128 then [b8 n] else b8 (128 + n % 128) :: enc (n / 128)
decreasing_by omega
theorem enc_small {n : Nat} (h : n < 128) : enc n = [b8 n] := by rw [enc, if_pos h]
theorem enc_great {n : Nat} (h : ¬ n < 128) : enc n = b8 (128 + n % 128) :: enc (n / 128) := by rw [enc, if_neg h]
theorem enc_le (k : Nat) : ∀ n : Nat, n < 128 ^ (k + 1) → (enc n).length ≤ k + 1 := by
 induction k with
 | zero => intro n h; rw [enc_small (by simpa using h)]; simp
 | succ k ih =>
   intro n h
   by_cases hn : n < 128
   ·rw [enc_small hn]; simp
   ·rw [enc_great hn]
    have := ih (n / 128) (by rw [Nat.pow_succ] at h; omega)
    simp; omega
theorem enc_ten {n : Nat} (h : n < 18446744073709551616) : (enc n).length ≤ 10 := enc_le 9 n (by omega)
def fix (n : Nat) : List UInt8 := (List.range 8).map fun i => b8 (n / 256 ^ (7 - i) % 256)
theorem fix_length (n : Nat) : (fix n).length = 8 := by simp [fix]
theorem fix_take (n k : Nat) (h : k < 8) : (fix n).take (k + 1) = (fix n).take k ++ [b8 (n / 256 ^ (7 - k) % 256)] := by
 rw [List.take_add_one]
 congr 1
 simp [fix, h]
theorem or_128 : ∀ a, a < 256 → a ||| 128 = 128 + a % 128 := by decide +kernel
theorem byte_or (y : Int) (h : 0 ≤ y) : bits .or .u8 (y % 256) 128 = ((b8 (128 + y.toNat % 128)).toNat : Int) := by
 obtain ⟨n, rfl⟩ := Int.eq_ofNat_of_zero_le h
 have h1 : ((n : Int) % 256) = ((n % 256 : Nat) : Int) := by omega
 have hlt : n % 256 < 256 := Nat.mod_lt _ (by omega)
 rw [h1, show (128 : Int) = ((128 : Nat) : Int) from rfl, u8_or_nat _ _ hlt (by omega), or_128 _ hlt]
 simp only [Int.toNat_natCast, b8_toNat]
 omega
theorem byte_low (y : Int) (h : 0 ≤ y) (h1 : y < 128) : y % 256 = ((b8 y.toNat).toNat : Int) := by
 simp only [b8_toNat]
 omega
theorem fix_byte (x : Int) (k : Nat) (h : 0 ≤ x) : x / 2 ^ (8 * (7 - k)) % 256 = ((b8 (x.toNat / 256 ^ (7 - k) % 256)).toNat : Int) := by
 obtain ⟨n, rfl⟩ := Int.eq_ofNat_of_zero_le h
 have hp : 256 ^ (7 - k) = 2 ^ (8 * (7 - k)) := by rw [Nat.pow_mul]
 rw [b8_toNat, Int.toNat_natCast, Nat.mod_mod, hp, Int.natCast_emod, Int.natCast_ediv, Int.natCast_pow]
 rfl
def tk (i n : Nat) : List UInt8 → Nat × Nat × Nat
 | [] => (0, 0, 5)
 | b :: r => if (0 < i ∧ b = 0) ∨ (i = 9 ∧ 1 < b.toNat) then (0, 0, 4) else if b.toNat < 128 then (n + b.toNat * 2 ^ (7 * i), i + 1, 0) else tk (i + 1) (n + (b.toNat % 128) * 2 ^ (7 * i)) r
theorem wrap_in (n : Nat) (h : n < 18446744073709551616) : IntKind.u64.wrap (n : Int) = (n : Int) := by
 rw [IntKind.wrap_u64]; omega
end Go.Proofs.YtinjbdgjcadodaaGreatDoor.Enc
namespace Go.Proofs.YtinjbdgjcadodaaGreatDoor.Words
open Go Go.RowKit
def Each (w : World) (vs : List Value) (L : List (List UInt8)) : Prop :=
 vs.length = L.length ∧ ∀ (j : Nat) (l : List UInt8), L[j]? = some l → ∃ (A : Option Addr) (c : Nat), vs[j]? = some (Value.slice A l.length c) ∧ l.length ≤ c ∧ Sees w A l.length l
theorem Each.nil (w : World) : Each w [] [] := ⟨rfl, fun j l h => by simp at h⟩
theorem Each.below {w w' : World} {vs : List Value} {L : List (List UInt8)} (h : Each w vs L) (hb : Below w.heap.size w w') : Each w' vs L :=
 ⟨h.1, fun j l hl => by
  obtain ⟨A, c, hv, hc, hs⟩ := h.2 j l hl
  exact ⟨A, c, hv, hc, hs.below hb⟩⟩
theorem Each.snoc {w : World} {vs : List Value} {L : List (List UInt8)} (h : Each w vs L) {A : Option Addr} {c : Nat} {l : List UInt8} (hc : l.length ≤ c) (hs : Sees w A l.length l) : Each w (vs ++ [.slice A l.length c]) (L ++ [l]) := by
 refine ⟨by simp [h.1], fun j m hm => ?_⟩
 rcases Nat.lt_trichotomy j L.length with hj | hj | hj
 ·rw [List.getElem?_append_left hj] at hm
  obtain ⟨A', c', hv, r⟩ := h.2 j m hm
  exact ⟨A', c', by rw [List.getElem?_append_left (by rw [h.1]; exact hj)]; exact hv, r⟩
 ·subst hj
  rw [List.getElem?_append_right (Nat.le_refl _)] at hm
  simp at hm
  subst hm
  exact ⟨A, c, by rw [List.getElem?_append_right (by rw [h.1]; exact Nat.le_refl _)]; simp [h.1], hc, hs⟩
 ·rw [List.getElem?_eq_none (by simp; omega)] at hm
  cases hm
def SeesAll (w : World) (A : Option Addr) (n : Nat) (L : List (List UInt8)) : Prop :=
 ∃ vs, Each w vs L ∧ vs.length = n ∧ (0 < n → ∃ b o, A = some ⟨b, o, none⟩ ∧ ∀ (j : Nat) (v : Value), vs[j]? = some v → w.cell? ⟨b, o + j, none⟩ = some v)
theorem SeesAll.len {w : World} {A : Option Addr} {n : Nat} {L : List (List UInt8)} (h : SeesAll w A n L) : L.length = n := by
 obtain ⟨vs, h1, h2, _⟩ := h
 rw [← h1.1, h2]
theorem SeesAll.below {w w' : World} {A : Option Addr} {n : Nat} {L : List (List UInt8)} (h : SeesAll w A n L) (hb : Below w.heap.size w w') : SeesAll w' A n L := by
 obtain ⟨vs, h1, h2, h3⟩ := h
 refine ⟨vs, h1.below hb, h2, fun hn => ?_⟩
 obtain ⟨b, o, hA, hc⟩ := h3 hn
 refine ⟨b, o, hA, fun j v hv => ?_⟩
 have hcell := hc j v hv
 rw [hb.cell (p := ⟨b, o + j, none⟩) (World.block_lt_of_cell? _ _ hcell)]
 exact hcell
theorem SeesAll.get {w : World} {A : Option Addr} {n : Nat} {L : List (List UInt8)} (h : SeesAll w A n L) {j : Nat} (hj : j < n) :
  ∃ b o A' c', A = some ⟨b, o, none⟩ ∧ w.cell? ⟨b, o + j, none⟩ = some (.slice A' (L.getD j []).length c') ∧ (L.getD j []).length ≤ c' ∧ Sees w A' (L.getD j []).length (L.getD j []) := by
 have hl := h.len
 obtain ⟨vs, h1, h2, h3⟩ := h
 obtain ⟨b, o, hA, hc⟩ := h3 (by omega)
 have hg : L[j]? = some (L.getD j []) := by
  rw [List.getD_eq_getElem?_getD, List.getElem?_eq_getElem (by omega)]
  rfl
 obtain ⟨A', c', hv, hlc, hs⟩ := h1.2 j _ hg
 exact ⟨b, o, A', c', hA, hc j _ hv, hlc, hs⟩
end Go.Proofs.YtinjbdgjcadodaaGreatDoor.Words
namespace Go.Proofs.YtinjbdgjcadodaaGreatDoor.Facts
open Go Go.RowKit
def dep (ops : Array Oper) (j i d : Nat) : Bool :=
 ((ops[j]?).map fun o => o.after.any fun e => Region.binds .any e && e.on == i).getD false && ((ops[i]?).bind (·.dst)) == some d
def early (ops : Array Oper) (j t : Nat) : Bool :=
 (List.range ops.size).all fun i => ((ops[i]?).bind (·.dst)) != some t || i == j || ((ops[i]?).map fun o => o.after.any fun e => Region.binds .any e && e.on == j).getD false
def sound (n : Nat) (ops : Array Oper) : Bool :=
 (List.range ops.size).all fun i => (List.range i).all (fun j => match (ops[i]?).bind (·.dst), (ops[j]?).bind (·.dst) with | some d, some d' => d != d' | _, _ => true) &&
  (match (ops[i]?).bind (·.dst) with | some d => decide (d < n) | none => true) &&
  ((ops[i]?).map fun o => o.after.all fun e => !Region.binds .any e || decide (e.on < i)).getD true
section
variable {P : Program} {ops : Array Oper} {a0 : Act} {w0 : World} {R : World → World → Prop} {Fact : Nat → Value → World → Prop}
def Step (P : Program) (ops : Array Oper) (a0 : Act) (w0 : World) (R : World → World → Prop) (Fact : Nat → Value → World → Prop) (j : Nat) (o : Oper) : Prop :=
 ∀ (a : Act) (w : World), R w0 w → (∀ t, early ops j t = true → a.tmps.getD t undef = a0.tmps.getD t undef) → (∀ i d, dep ops j i d = true → Fact i (a.tmps.getD d undef) w) →
   (Region.wanted o (yielded ops a.tmps) = true → ∀ (K : Act → World → Prop) (Q : Exit → Act → World → Prop), (∀ v w', R w w' → Fact j v w' → K (a.put o.dst v) w') → o.wp P a w K Q) ∧
   (Region.wanted o (yielded ops a.tmps) = false → Fact j undef w)
structure Inv (ops : Array Oper) (a0 : Act) (w0 : World) (R : World → World → Prop) (Fact : Nat → Value → World → Prop) (listed : Array Bool) (a : Act) (w : World) : Prop where
 len : listed.size = ops.size
 size : a.tmps.size = a0.tmps.size
 defers : a.defers = a0.defers
 rel : R w0 w
 new : ∀ i d, listed.getD i false = true → (ops[i]?).bind (·.dst) = some d → Fact i (a.tmps.getD d undef) w
 old : ∀ t, (∀ i, listed.getD i false = true → (ops[i]?).bind (·.dst) ≠ some t) → a.tmps.getD t undef = a0.tmps.getD t undef
 closed : ∀ i o, ops[i]? = some o → listed.getD i false = true → ∀ e ∈ o.after, Region.binds .any e = true → listed.getD e.on false = true
theorem getD_put_same {a : Act} {d : Nat} {v : Value} (h : d < a.tmps.size) : (a.put (some d) v).tmps.getD d undef = v := by
 simp [Act.put, h]
theorem getD_put_other {a : Act} {d t : Nat} {v : Value} (h : t ≠ d) : (a.put (some d) v).tmps.getD t undef = a.tmps.getD t undef := by
 simp [Act.put, Array.getElem?_setIfInBounds_ne (Ne.symm h)]
theorem size_put (a : Act) (d : Option Nat) (v : Value) : (a.put d v).tmps.size = a.tmps.size := by
 cases d <;> simp [Act.put]
theorem defers_put (a : Act) (d : Option Nat) (v : Value) : (a.put d v).defers = a.defers := by
 cases d <;> simp [Act.put]
theorem sound_dst {n : Nat} (h : sound n ops = true) {i d : Nat} (hi : (ops[i]?).bind (·.dst) = some d) : d < n := by
 have hlt : i < ops.size := by
  rcases Nat.lt_or_ge i ops.size with h' | h'
  ·exact h'
  ·rw [Array.getElem?_eq_none h'] at hi; cases hi
 simp only [sound, List.all_eq_true, List.mem_range, Bool.and_eq_true] at h
 have := (h i hlt).1.2
 rw [hi] at this
 simpa using this
theorem sound_ne {n : Nat} (h : sound n ops = true) {i j d : Nat} (hi : (ops[i]?).bind (·.dst) = some d) (hj : (ops[j]?).bind (·.dst) = some d) : i = j := by
 have lt : ∀ {k : Nat}, (ops[k]?).bind (·.dst) = some d → k < ops.size := fun {k} hk => by
  rcases Nat.lt_or_ge k ops.size with h' | h'
  ·exact h'
  ·rw [Array.getElem?_eq_none h'] at hk; cases hk
 simp only [sound, List.all_eq_true, List.mem_range, Bool.and_eq_true] at h
 rcases Nat.lt_trichotomy i j with h' | h' | h'
 ·have := (h j (lt hj)).1.1 i h'
  rw [hi, hj] at this
  simp at this
 ·exact h'
 ·have := (h i (lt hi)).1.1 j h'
  rw [hi, hj] at this
  simp at this
theorem sound_low {n : Nat} (h : sound n ops = true) {i : Nat} {o : Oper} (hi : ops[i]? = some o) {e : Edge} (he : e ∈ o.after) (hb : Region.binds .any e = true) : e.on < i := by
 have hlt : i < ops.size := (Array.getElem?_eq_some_iff.1 hi).1
 simp only [sound, List.all_eq_true, List.mem_range, Bool.and_eq_true] at h
 have := (h i hlt).2
 rw [hi] at this
 simp only [Option.map_some, Option.getD_some, Array.all_eq_true_iff_forall_mem] at this
 have := this e he
 simpa [hb] using this
theorem all_listed {n : Nat} (h : sound n ops = true) {listed : Array Bool} (hlen : listed.size = ops.size) (hr : Region.ready .any ops listed = []) : ∀ i, i < ops.size → listed.getD i false = true := by
 intro i
 induction i using Nat.strongRecOn with
 | _ i ih =>
   intro hi
   cases hl : listed.getD i false with
   | true => rfl
   | false =>
     exfalso
     have ho : ops[i]? = some ops[i] := Array.getElem?_eq_getElem hi
     have : i ∈ Region.ready .any ops listed := mem_ready.2 ⟨by
      have hi' : i < listed.size := by omega
      simp [hi'] at hl ⊢
      exact hl, _, ho, fun e he hb => ih e.on (sound_low h ho he hb) (by have := sound_low h ho he hb; omega)⟩
     rw [hr] at this
     cases this
theorem wpAny_facts {n : Nat} (hs : sound n ops = true) (hn : a0.tmps.size = n) (trans : ∀ {a b c}, R a b → R b c → R a c) (refl : ∀ a, R a a)
  (mono : ∀ i v w w', Fact i v w → R w w' → Fact i v w')
  (hstep : ∀ j o, ops[j]? = some o → Step P ops a0 w0 R Fact j o)
  {Q : Exit → Act → World → Prop}
  (hend : ∀ a w, Inv ops a0 w0 R Fact (Array.replicate ops.size true) a w → Q .normal a w) :
  ∀ (fuel : Nat) (listed : Array Bool) (a : Act) (w : World), Inv ops a0 w0 R Fact listed a w → listed.toList.count false ≤ fuel → wpAny P .any ops Q fuel listed a w := by
 have fin : ∀ (listed : Array Bool) (a : Act) (w : World), Inv ops a0 w0 R Fact listed a w → (∀ i, i < ops.size → listed.getD i false = true) → Q .normal a w := by
  intro listed a w hI hall
  have : listed = Array.replicate ops.size true := by
   apply Array.ext
   ·simp [hI.len]
   ·intro i h1 h2
    have := hall i (by rw [← hI.len]; exact h1)
    simpa [h1] using this
  subst this
  exact hend a w hI
 intro fuel
 induction fuel with
 | zero =>
   intro listed a w hI hc
   have hall : ∀ i, i < ops.size → listed.getD i false = true := by
    intro i hi
    have h0 : listed.toList.count false = 0 := by omega
    rw [List.count_eq_zero] at h0
    have hi' : i < listed.size := by rw [hI.len]; exact hi
    cases hb : listed[i] with
    | true => simp [hi', hb]
    | false => exact absurd (by rw [← hb]; simp) h0
   refine ⟨?_, fin listed a w hI hall⟩
   rw [List.eq_nil_iff_forall_not_mem]
   intro j hj
   obtain ⟨h1, o, ho, _⟩ := mem_ready.1 hj
   have hjs : j < ops.size := (Array.getElem?_eq_some_iff.1 ho).1
   have hjl : j < listed.size := by rw [hI.len]; exact hjs
   have := hall j hjs
   simp [hjl] at this h1
   rw [this] at h1
   cases h1
 | succ fuel ih =>
   intro listed a w hI hc
   refine ⟨fun hr => fin listed a w hI (all_listed hs hI.len hr), fun j hj => ?_⟩
   obtain ⟨h1, o, ho, hedge⟩ := mem_ready.1 hj
   have hjs : j < ops.size := (Array.getElem?_eq_some_iff.1 ho).1
   have hjl : j < listed.size := by rw [hI.len]; exact hjs
   have hjf : listed[j] = false := by simpa [hjl] using h1
   have hjn : listed.getD j false = false := by simp [hjl, hjf]
   have early_ok : ∀ t, early ops j t = true → a.tmps.getD t undef = a0.tmps.getD t undef := by
    intro t ht
    refine hI.old t fun i hi hd => ?_
    have his : i < ops.size := by
     rcases Nat.lt_or_ge i ops.size with h' | h'
     ·exact h'
     ·rw [Array.getElem?_eq_none h'] at hd; cases hd
    simp only [early, List.all_eq_true, List.mem_range] at ht
    have := ht i his
    rw [hd] at this
    simp only [bne_self_eq_false, Bool.false_or, Bool.or_eq_true, beq_iff_eq] at this
    rcases this with rfl | this
    ·rw [hjn] at hi; cases hi
    ·rw [Array.getElem?_eq_getElem his] at this
     simp only [Option.map_some, Option.getD_some] at this
     obtain ⟨e, he, hb⟩ := Array.any_eq_true'.1 this
     simp only [Bool.and_eq_true, beq_iff_eq] at hb
     have := hI.closed i _ (Array.getElem?_eq_getElem his) hi e he hb.1
     rw [hb.2, hjn] at this
     cases this
   have dep_ok : ∀ i d, dep ops j i d = true → Fact i (a.tmps.getD d undef) w := by
    intro i d hd
    simp only [dep, ho, Option.map_some, Option.getD_some, Bool.and_eq_true, beq_iff_eq] at hd
    obtain ⟨e, he, hb⟩ := Array.any_eq_true'.1 hd.1
    simp only [Bool.and_eq_true, beq_iff_eq] at hb
    exact hI.new i d (by rw [← hb.2]; exact hedge e he hb.1) hd.2
   obtain ⟨s1, s2⟩ := hstep j o ho a w hI.rel early_ok dep_ok
   have next : ∀ v w', R w w' → Fact j v w' → wpAny P .any ops Q fuel (listed.setIfInBounds j true) (a.put o.dst v) w' := by
    intro v w' hR hF
    have hlist : ∀ i, (listed.setIfInBounds j true).getD i false = true ↔ i = j ∨ listed.getD i false = true := by
     intro i
     by_cases hij : i = j
     ·subst hij; simp [hjl]
     ·rw [getD_set_ne false (Ne.symm hij)]; simp [hij]
    refine ih _ _ _ ⟨by simp [hI.len], by rw [size_put]; exact hI.size, by rw [defers_put]; exact hI.defers, trans hI.rel hR, ?_, ?_, ?_⟩ ?_
    ·intro i d hi hd
     rcases (hlist i).1 hi with rfl | hi'
     ·rw [ho] at hd
      have hd' : o.dst = some d := hd
      rw [hd', getD_put_same (by rw [hI.size, hn]; exact sound_dst hs (by rw [ho]; exact hd))]
      exact hF
     ·have hne : ∀ d', o.dst = some d' → d ≠ d' := by
       rintro d' hd' rfl
       have : i = j := sound_ne hs hd (by rw [ho]; exact hd')
       subst this
       rw [hjn] at hi'; cases hi'
      have keep : (a.put o.dst v).tmps.getD d undef = a.tmps.getD d undef := by
       cases hod : o.dst with
       | none => rfl
       | some d' => exact getD_put_other (hne d' hod)
      rw [keep]
      exact mono i _ w w' (hI.new i d hi' hd) hR
    ·intro t ht
     have hne : ∀ d', o.dst = some d' → t ≠ d' := by
      rintro d' hd' rfl
      exact ht j ((hlist j).2 (.inl rfl)) (by rw [ho]; exact hd')
     have keep : (a.put o.dst v).tmps.getD t undef = a.tmps.getD t undef := by
      cases hod : o.dst with
      | none => rfl
      | some d' => exact getD_put_other (hne d' hod)
     rw [keep]
     exact hI.old t fun i hi => ht i ((hlist i).2 (.inr hi))
    ·intro i o' ho' hi e he hb
     rcases (hlist i).1 hi with rfl | hi'
     ·rw [ho] at ho'
      injection ho' with ho'
      subst ho'
      exact (hlist _).2 (.inr (hedge e he hb))
     ·exact (hlist _).2 (.inr (hI.closed i o' ho' hi' e he hb))
    ·have hjl' : j < listed.toList.length := by simpa using hjl
     have hcs := List.count_set (a := true) (b := false) hjl'
     have hset : (listed.setIfInBounds j true).toList = listed.toList.set j true := by simp
     rw [hset, hcs]
     have hpos : 0 < listed.toList.count false := by
      rw [List.count_pos_iff]
      exact List.mem_iff_getElem.2 ⟨j, hjl', by simpa using hjf⟩
     have e : listed.toList[j] = false := by simpa using hjf
     rw [e, if_pos (show (false == false) = true from rfl), if_neg (show ¬ (true == false) = true by decide)]
     omega
   unfold wpOp
   simp only [ho]
   split
   ·rename_i hw
    exact .inl (s1 hw _ _ next)
   ·rename_i hw
    exact next undef w (refl w) (s2 (by simpa using hw))
theorem none_listed (n i : Nat) : (Array.replicate n false).getD i false = false := by
 rw [Array.getD_eq_getD_getElem?, Array.getElem?_replicate]
 split <;> rfl
theorem wp_region_facts {n : Nat} {l : List Oper} {id : Nat} {w : World} {Q : Exit → Act → World → Prop} (hm : P.follows .mixedOrders = true) (hs : sound n l.toArray = true) (hn : a0.tmps.size = n)
  (Fact : Nat → Value → World → Prop) (mono : ∀ i v w1 w2, Fact i v w1 → Below w1.heap.size w1 w2 → Fact i v w2)
  (hstep : ∀ j o, l.toArray[j]? = some o → Step P l.toArray a0 w.drew (fun a b => Below a.heap.size a b) Fact j o)
  (hend : ∀ a w', Below w.drew.heap.size w.drew w' → a.tmps.size = n → a.defers = a0.defers → (∀ i d, (l.toArray[i]?).bind (·.dst) = some d → Fact i (a.tmps.getD d undef) w') →
   (∀ t : Nat, (∀ i : Nat, (l.toArray[i]?).bind (·.dst) ≠ some t) → a.tmps.getD t undef = a0.tmps.getD t undef) → Q .normal a w') :
  (Code.region id l.toArray true).wp P Q a0 w := by
 refine wp_region_any hm ?_
 refine wpAny_facts (R := fun a b => Below a.heap.size a b) (Fact := Fact) (w0 := w.drew) hs hn (fun {a b c} h k => h.trans (k.mono h.size)) (fun a => Below.refl _ _) mono hstep (fun a w' hI => ?_) _ _ _ _
  ⟨by simp, rfl, rfl, Below.refl _ _, ?_, fun _ _ => rfl, ?_⟩ ?_
 ·refine hend a w' hI.rel (by rw [hI.size, hn]) hI.defers (fun i d hd => hI.new i d ?_ hd) fun t ht => hI.old t fun i _ => ht i
  have : i < l.toArray.size := by
   rcases Nat.lt_or_ge i l.toArray.size with h' | h'
   ·exact h'
   ·rw [Array.getElem?_eq_none h'] at hd; cases hd
  simp at this
  simp [this]
 ·intro i d hi
  rw [none_listed] at hi
  cases hi
 ·intro i o _ hi
  rw [none_listed] at hi
  cases hi
 ·have := List.count_le_length (a := false) (l := (Array.replicate l.toArray.size false).toList)
  rw [Array.length_toList, Array.size_replicate] at this
  exact this
structure Pred where
 p : Value → World → Prop
 mono : ∀ v w w', p v w → Below w.heap.size w w' → p v w'
def Pred.is (u : Value) : Pred := ⟨fun v _ => v = u, fun _ _ _ h _ => h⟩
def Pred.shows (n : Nat) (l : List UInt8) : Pred := ⟨fun v w => ∃ A c, v = .slice A n c ∧ Words.Sees w A n l, fun _ _ _ ⟨A, c, h, hs⟩ hb => ⟨A, c, h, hs.below hb⟩⟩
def Pred.any : Pred := ⟨fun _ _ => True, fun _ _ _ h _ => h⟩
def holds (L : List Pred) (i : Nat) (v : Value) (w : World) : Prop := (L.getD i Pred.any).p v w
def All (P : Program) (ops : Array Oper) (a0 : Act) (w0 : World) (L : List Pred) : Nat → List Oper → Prop
 | _, [] => True
 | k, o :: r => Step P ops a0 w0 (fun a b => Below a.heap.size a b) (holds L) k o ∧ All P ops a0 w0 L (k + 1) r
theorem All.step {L : List Pred} : ∀ {l : List Oper} {k : Nat}, All P ops a0 w0 L k l → ∀ j o, l[j]? = some o → Step P ops a0 w0 (fun a b => Below a.heap.size a b) (holds L) (k + j) o
 | [], _, _, _, _, h => by simp at h
 | o :: r, k, h, 0, o', ho => by simp at ho; subst ho; exact h.1
 | o :: r, k, h, j + 1, o', ho => by
   have := All.step h.2 j o' (by simpa using ho)
   rw [show k + (j + 1) = k + 1 + j by omega]
   exact this
theorem wp_region_preds {n : Nat} {l : List Oper} {id : Nat} {w : World} {Q : Exit → Act → World → Prop} (hm : P.follows .mixedOrders = true) (hs : sound n l.toArray = true) (hn : a0.tmps.size = n)
  (L : List Pred) (hall : All P l.toArray a0 w.drew L 0 l)
  (hend : ∀ a w', Below w.drew.heap.size w.drew w' → a.tmps.size = n → a.defers = a0.defers → (∀ i d, (l.toArray[i]?).bind (·.dst) = some d → holds L i (a.tmps.getD d undef) w') →
   (∀ t : Nat, (∀ i : Nat, (l.toArray[i]?).bind (·.dst) ≠ some t) → a.tmps.getD t undef = a0.tmps.getD t undef) → Q .normal a w') :
  (Code.region id l.toArray true).wp P Q a0 w :=
 wp_region_facts hm hs hn (holds L) (fun i v w1 w2 h hb => (L.getD i Pred.any).mono v w1 w2 h hb)
  (fun j o ho => by have := hall.step j o (by simpa using ho); rwa [Nat.zero_add] at this) hend
theorem wanted_free {o : Oper} {y : Nat → Option Bool} (h : o.guard = none) : Region.wanted o y = true := by simp [Region.wanted, h]
theorem wanted_by {o : Oper} {a : Act} {g d : Nat} {b : Bool} (h : o.guard = some (g, b)) (hd : (ops[g]?).bind (·.dst) = some d) (hv : a.tmps.getD d undef = .bool b) : Region.wanted o (yielded ops a.tmps) = true := by
 have hlt : d < a.tmps.size := by
  rcases Nat.lt_or_ge d a.tmps.size with h' | h'
  ·exact h'
  ·rw [Array.getD_eq_getD_getElem?, Array.getElem?_eq_none h'] at hv
   cases hv
 have hy : yielded ops a.tmps g = some b := by
  unfold yielded
  rw [hd]
  simp only [Option.bind_some]
  rw [Array.getD_eq_getD_getElem?, Array.getElem?_eq_getElem hlt] at hv
  rw [Array.getElem?_eq_getElem hlt]
  simp only [Option.getD_some] at hv
  rw [hv]
 simp [Region.wanted, h, hy]
theorem step_is {L : List Pred} {j : Nat} {o : Oper} (u : Value)
  (h : ∀ (a : Act) (w : World), Below w0.heap.size w0 w → (∀ t, early ops j t = true → a.tmps.getD t undef = a0.tmps.getD t undef) → (∀ i d, dep ops j i d = true → holds L i (a.tmps.getD d undef) w) →
   Region.wanted o (yielded ops a.tmps) = true ∧ (execOp a.eval o).run P w = .ok (.value u) w ∧ ∀ w, holds L j u w) : Step P ops a0 w0 (fun a b => Below a.heap.size a b) (holds L) j o := by
 intro a w hR hold hnew
 obtain ⟨hw, hr, hF⟩ := h a w hR hold hnew
 refine ⟨fun _ K Q hK => ?_, fun hf => by rw [hw] at hf; cases hf⟩
 unfold Oper.wp
 rw [hr]
 exact hK u w (Below.refl _ _) (hF w)
theorem step_new {L : List Pred} {j : Nat} {o : Oper}
  (h : ∀ (a : Act) (w : World), Below w0.heap.size w0 w → (∀ t, early ops j t = true → a.tmps.getD t undef = a0.tmps.getD t undef) → (∀ i d, dep ops j i d = true → holds L i (a.tmps.getD d undef) w) →
   Region.wanted o (yielded ops a.tmps) = true ∧ ∃ u w', (execOp a.eval o).run P w = .ok (.value u) w' ∧ Below w.heap.size w w' ∧ holds L j u w') : Step P ops a0 w0 (fun a b => Below a.heap.size a b) (holds L) j o := by
 intro a w hR hold hnew
 obtain ⟨hw, u, w', hr, hb, hF⟩ := h a w hR hold hnew
 refine ⟨fun _ K Q hK => ?_, fun hf => by rw [hw] at hf; cases hf⟩
 unfold Oper.wp
 rw [hr]
 exact hK u w' hb hF
theorem step_call {L : List Pred} {j : Nat} {o : Oper}
  (h : ∀ (a : Act) (w : World), Below w0.heap.size w0 w → (∀ t, early ops j t = true → a.tmps.getD t undef = a0.tmps.getD t undef) → (∀ i d, dep ops j i d = true → holds L i (a.tmps.getD d undef) w) →
   Region.wanted o (yielded ops a.tmps) = true ∧ ∃ f args, (execOp a.eval o).run P w = .ok (.enter f args) w ∧ Calls P f args w fun e w' => ∃ v, e = .returned v ∧ Below w.heap.size w w' ∧ holds L j v w') :
  Step P ops a0 w0 (fun a b => Below a.heap.size a b) (holds L) j o := by
 intro a w hR hold hnew
 obtain ⟨hw, f, args, hr, hc⟩ := h a w hR hold hnew
 refine ⟨fun _ K Q hK => ?_, fun hf => by rw [hw] at hf; cases hf⟩
 unfold Oper.wp
 rw [hr]
 refine hc.mono ?_
 rintro e w' ⟨v, rfl, hb, hF⟩
 exact hK v w' hb hF
end
end Go.Proofs.YtinjbdgjcadodaaGreatDoor.Facts
namespace Go.Proofs.YtinjbdgjcadodaaGreatDoor.Made
open Go Go.RowKit Words Enc
theorem info8 : (Tryz.prog.info? 5).map (fun i => (i.zero, i.size, i.bytes)) = some (some (.int .u8 0), 1, 1) := by kernel_rfl
def New (base : Nat) (n : Nat) (l : List UInt8) (w : World) (e : Ending) (w' : World) : Prop :=
 ∃ A c, e = .returned (.slice A n c) ∧ w'.ownsRow base 5 1 (.slice A n c) n (cs l) ∧ Below base w w'
theorem roomy_any (A : Option Addr) (n c : Nat) (l : List UInt8) (k : Int) (w : World) (hs : Sees w A n l) (hn : n ≤ 1000000000) (hk0 : 0 ≤ k) (hk : k ≤ 1000000000) :
  Calls Tryz.prog 209 #[.slice A n c, .int .i64 k] w (New w.heap.size n l w) := by
 obtain ⟨i, hi, hz, hsz, hby⟩ := info_parts info8
 go_enter Tryz.func209, Tryz.ntmps209
 go_wp2_with (first | (at_make; refine wpList_make_own _ rfl _ _ 28 rfl w.heap.size 5 i (.int .u8 0) 1 Tryz.underlying28 hi hz hsz .i64 .i64 _ (n + k.toNat) rfl rfl ?c1 ?c2 ?c3 ?c4 ?_))
 case c1 => omega
 case c2 => rw [hby]; omega
 case c3 => unfold maxLen; omega
 case c4 => simp
 intro w1 hown hg
 have hb := (Below.refl w.heap.size w).grown hg (Nat.le_refl _) (fun k hk => by cases hk)
 have hs1 := hs.below hb
 have hsz1 := hb.size
 go_wp2_with (first | (at_builtin; refine wpList_app rfl _ _ 28 rfl w.heap.size 5 i (.int .u8 0) Tryz.underlying28 hi hz hsz hby rfl _ 0 _ [] rfl hown A n c l rfl hs1 ?d1 ?d2 ?_))
 case d1 => omega
 case d2 => exact hsz1
 intro A' c' w2 hown2 hb2
 go_wp2
 go_ret
 exact ⟨A', c', rfl, hown2, hb.trans hb2⟩
theorem layOn_any (base : Nat) (A : Option Addr) (n c : Nat) (l : List UInt8) (x : Int) (w : World) (hown : w.ownsRow base 5 1 (.slice A n c) n (cs l)) (hbase : base ≤ w.heap.size)
  (hn : n ≤ 1000000000) (hx0 : 0 ≤ x) (hx : x < 18446744073709551616) :
  Calls Tryz.prog 208 #[.slice A n c, .int .u64 x] w (New base (n + (enc x.toNat).length) (l ++ enc x.toNat) w) := by
 obtain ⟨i, hi, hz, hsz, hby⟩ := info_parts info8
 go_enter Tryz.func208, Tryz.ntmps208
 go_wp2_with fail
 go_loopw [0, 1] (fun p v wr => ∃ (A' : Option Addr) (k c' : Nat) (q : List UInt8) (y : Int), p = .slice A' k c' ∧ v = .int .u64 y ∧ 0 ≤ y ∧ y < 18446744073709551616 ∧
   wr.ownsRow base 5 1 (.slice A' k c') k (cs q) ∧ Hid (q ++ enc y.toNat = l ++ enc x.toNat) ∧ Below base w wr) (fun _ v _ => (intOf v).toNat)
 case atStart => exact ⟨A, n, c, l, x, rfl, rfl, hx0, hx, hown, rfl, Below.refl _ _⟩
 case round =>
  obtain ⟨A', k, c', q, y, rfl, rfl, hy0, hy1, hown', hq, hb⟩ := hrel
  have hk : k ≤ 1000000010 := by
   have h1 := congrArg List.length hq.out
   have h2 := hown'.1
   have h3 := hown.1
   have h4 := enc_ten (n := x.toNat) (by omega)
   rw [cs_length] at h2 h3
   simp only [List.length_append] at h1
   omega
  by_cases hlt : 128 ≤ y
  ·have hwb := hb.size
   go_wp2_with (first | (at_builtin; refine wpList_app rfl _ _ 28 rfl base 5 i (.int .u8 0) Tryz.underlying28 hi hz hsz hby rfl A' k c' q rfl (hown'.alloc _) _ 1 1 [b8 (128 + y.toNat % 128)] rfl (Sees.fresh wr _ _ _ ?e1) ?e2 ?e3 ?_))
   case e1 => exact byte_or y hy0
   case e2 => omega
   case e3 => exact Nat.le_trans (Nat.le_trans hbase hwb) (by simp)
   intro A2 c2 w2 hown2 hb2
   go_wp2
   go_roundw
   case rel => exact ⟨A2, k + 1, c2, q ++ [b8 (128 + y.toNat % 128)], y / 128, rfl, rfl, by omega, by omega, hown2, by
    have h := hq.out
    rw [enc_great (by omega)] at h
    rw [show (y / 128).toNat = y.toNat / 128 by omega, ← h]
    simp [Hid], (hb.alloc (Nat.le_trans hbase hwb) _).trans hb2⟩
   case measure => simp [intOf]; omega
  ·have hwb := hb.size
   go_wp2_with (first | (at_builtin; refine wpList_app rfl _ _ 28 rfl base 5 i (.int .u8 0) Tryz.underlying28 hi hz hsz hby rfl A' k c' q rfl (hown'.alloc _) _ 1 1 [b8 y.toNat] rfl (Sees.fresh wr _ _ _ ?f1) ?f2 ?f3 ?_))
   case f1 => have := byte_low y hy0 (by omega); omega
   case f2 => omega
   case f3 => exact Nat.le_trans (Nat.le_trans hbase hwb) (by simp)
   intro A2 c2 w2 hown2 hb2
   go_wp2
   go_ret
   have h := hq.out
   rw [enc_small (by omega)] at h
   have hl : n + (enc x.toNat).length = k + 1 := by
    have h1 := congrArg List.length h
    have h2 := hown'.1
    have h3 := hown.1
    rw [cs_length] at h2 h3
    simp only [List.length_append, List.length_cons, List.length_nil] at h1
    omega
   rw [hl, ← h]
   exact ⟨A2, c2, rfl, hown2, (hb.alloc (Nat.le_trans hbase hwb) _).trans hb2⟩
end Go.Proofs.YtinjbdgjcadodaaGreatDoor.Made
namespace Go.Proofs.YtinjbdgjcadodaaGreatDoor.Take
open Go Go.RowKit Words Enc
theorem clip_any (A : Option Addr) (n c : Nat) (w : World) (hc : n ≤ c) (hn : n ≤ 1000000000) :
  Calls Tryz.prog 73 #[.slice A n c] w fun e w' => e = .returned (.slice A n n) ∧ w' = w := by
 go_enter Tryz.func73, Tryz.ntmps73
 go_wp2
 go_ret
 exact ⟨rfl, rfl⟩
end Go.Proofs.YtinjbdgjcadodaaGreatDoor.Take
namespace Go.Proofs.YtinjbdgjcadodaaGreatDoor.Words
open Go Go.RowKit
structure Beside (S : List Nat) (w w' : World) : Prop where
 os : w'.os = w.os
 tape : w'.tape = w.tape
 output : w'.output = w.output
 size : w.heap.size ≤ w'.heap.size
 block : ∀ k, k < w.heap.size → k ∉ S → w'.heap[k]? = w.heap[k]?
theorem Beside.refl (S : List Nat) (w : World) : Beside S w w := ⟨rfl, rfl, rfl, Nat.le_refl _, fun _ _ _ => rfl⟩
theorem Beside.drew {S : List Nat} {a w : World} (h : Beside S a w) : Beside S a w.drew := ⟨h.os, h.tape, h.output, h.size, h.block⟩
theorem Beside.trans {S S1 : List Nat} {a b c : World} (h : Beside S a b) (k : Beside S1 b c) (hs : ∀ x ∈ S1, x ∈ S ∨ a.heap.size ≤ x) : Beside S a c :=
 ⟨k.os.trans h.os, k.tape.trans h.tape, k.output.trans h.output, Nat.le_trans h.size k.size, fun i hi hn =>
  (k.block i (Nat.lt_of_lt_of_le hi h.size) (fun hm => by
   rcases hs i hm with h1 | h1
   ·exact hn h1
   ·omega)).trans (h.block i hi hn)⟩
theorem Beside.wider {S S1 : List Nat} {a b : World} (h : Beside S a b) (hs : ∀ x ∈ S, x ∈ S1 ∨ a.heap.size ≤ x) : Beside S1 a b :=
 ⟨h.os, h.tape, h.output, h.size, fun i hi hn => h.block i hi fun hm => by
  rcases hs i hm with h1 | h1
  ·exact hn h1
  ·omega⟩
theorem Beside.setCell {S : List Nat} {a w : World} (h : Beside S a w) {p : Addr} (hp : p.block ∈ S) (u : Value) : Beside S a (w.setCell p u) :=
 h.trans (S1 := S) ⟨rfl, rfl, rfl, by simp, fun k hk hn => Below.heap_setCell _ _ _ _ (fun e => hn (e ▸ hp))⟩ fun x hx => .inl hx
theorem Beside.setNew {S : List Nat} {a w : World} (h : Beside S a w) {p : Addr} (hp : a.heap.size ≤ p.block) (u : Value) : Beside S a (w.setCell p u) :=
 h.trans (S1 := [p.block]) ⟨rfl, rfl, rfl, by simp, fun k hk hn => Below.heap_setCell _ _ _ _ (fun e => hn (by simp [e]))⟩ fun x hx => .inr (by simp at hx; omega)
theorem Beside.alloc {S : List Nat} {a w : World} (h : Beside S a w) (o : Obj) : Beside S a (w.alloc o) :=
 h.trans (S1 := []) ⟨rfl, rfl, rfl, by simp, fun k hk _ => Below.heap_alloc _ _ _ hk⟩ fun x hx => by cases hx
theorem Beside.grown {S : List Nat} {a w w' : World} {row : Option Nat} (h : Beside S a w) (hg : w.grownBy w' row) (hr : ∀ k, row = some k → k ∈ S ∨ a.heap.size ≤ k) : Beside S a w' :=
 h.trans (S1 := row.toList) ⟨hg.os, hg.tape, hg.output, hg.size, fun k hk hn => hg.block k hk (fun e => hn (by rw [← e]; simp))⟩ fun x hx => hr x (by simpa using hx)
theorem Beside.of_below {w w' : World} (h : Below w.heap.size w w') (S : List Nat) : Beside S w w' := ⟨h.os, h.tape, h.output, h.size, fun k hk _ => h.block k hk⟩
theorem Beside.below {S : List Nat} {a w w' : World} (h : Beside S a w) (hb : Below w.heap.size w w') : Beside S a w' := h.trans (S1 := []) (.of_below hb _) fun x hx => by cases hx
theorem Below.beside {S : List Nat} {B : Nat} {a w w' : World} (h : Below B a w) (k : Beside S w w') (hB : B ≤ w.heap.size) (hs : ∀ x ∈ S, B ≤ x) : Below B a w' :=
 h.trans ⟨k.os, k.tape, k.output, k.size, fun i hi => k.block i (by omega) fun hm => by have := hs i hm; omega⟩
theorem Beside.cell {S : List Nat} {w w' : World} (h : Beside S w w') {a : Addr} {v : Value} (hc : w.cell? a = some v) (hn : a.block ∉ S) : w'.cell? a = some v :=
 (World.cell?_of_block (h.block a.block (World.block_lt_of_cell? w a hc) hn)).trans hc
def Out (S : List Nat) (A : Option Addr) (n : Nat) : Prop := 0 < n → ∀ a, A = some a → a.block ∉ S
theorem Sees.beside {S : List Nat} {w w' : World} {A : Option Addr} {n : Nat} {l : List UInt8} (h : Sees w A n l) (hb : Beside S w w') (hS : Out S A n) : Sees w' A n l := by
 refine ⟨h.1, fun hn => ?_⟩
 obtain ⟨b, o, hA, hc⟩ := h.2 hn
 exact ⟨b, o, hA, fun j u hu => hb.cell (hc j u hu) (by simpa using hS hn _ hA)⟩
theorem Out.next {S S1 : List Nat} {w : World} {A : Option Addr} {n : Nat} {l : List UInt8} (h : Out S A n) (hs : Sees w A n l) (hS : ∀ x ∈ S1, x ∈ S ∨ w.heap.size ≤ x) : Out S1 A n := by
 intro hn a ha hm
 obtain ⟨b, o, hA, hc⟩ := hs.2 hn
 rcases hS _ hm with h1 | h1
 ·exact h hn a ha h1
 ·have h0 : 0 < l.length := by have := hs.1; omega
  have := World.block_lt_of_cell? _ _ (hc 0 l[0] (List.getElem?_eq_getElem h0))
  rw [hA] at ha
  cases ha
  simp at h1 this
  omega
theorem Out.of_lt {S : List Nat} {B : Nat} {w : World} {A : Option Addr} {n : Nat} {l : List UInt8} (hs : Sees w A n l) (hB : w.heap.size ≤ B) (hS : ∀ x ∈ S, B ≤ x) : Out S A n :=
 Out.next (S := []) (fun _ _ _ => by simp) hs fun x hx => .inr (Nat.le_trans hB (hS x hx))
theorem Out.of_own {S : List Nat} {w : World} {base : Nat} {e : TypeId} {A : Option Addr} {n c : Nat} {xs : List Value} (h : w.ownsRow base e 1 (.slice A n c) n xs) (hS : ∀ x ∈ S, x < base) : Out S A n := by
 intro hn a ha hm
 obtain ⟨g, rfl, hg⟩ := Own.at_ h hn
 cases ha
 have := hS _ hm
 simp at this
 omega
theorem Own.beside {w w' : World} {base : Nat} {S : List Nat} {e : TypeId} {v : Value} {n : Nat} {xs : List Value} (h : w.ownsRow base e 1 v n xs) (hb : Beside S w w') (hS : ∀ x ∈ S, x < base) : w'.ownsRow base e 1 v n xs := by
 refine ⟨h.1, ?_⟩
 rcases h.2 with hn | ⟨g, cap, cur, hv, hg, hh, r⟩
 ·exact .inl hn
 ·exact .inr ⟨g, cap, cur, hv, hg, by rw [hb.block g (Array.getElem?_eq_some_iff.1 hh).1 (fun hm => by have := hS g hm; omega)]; exact hh, r⟩
def OwnC (w : World) (base : Nat) (e : TypeId) (A : Option Addr) (n c : Nat) (xs : List Value) : Prop := n ≤ c ∧ ∃ C, c ≤ C ∧ w.ownsRow base e 1 (.slice A n C) n xs
theorem OwnC.at_ {w : World} {base : Nat} {e : TypeId} {A : Option Addr} {n c : Nat} {xs : List Value} (h : OwnC w base e A n c xs) (hn : 0 < n) : ∃ g, A = some ⟨g, 0, none⟩ ∧ base ≤ g := by
 obtain ⟨h1, C, h2, h3⟩ := h
 exact Own.at_ h3 hn
theorem heapSame {w : World} {b i : Nat} {cur : Array Value} {e : TypeId} {f : Nat × Nat} {v : Value} (h : w.heap[b]? = some (.cells cur e f)) : (w.setCell ⟨b, i, none⟩ v).heap[b]? = some (.cells (cur.setIfInBounds i v) e f) := by
 simp [World.setCell, Array.getElem?_modify, h]
theorem heapOther {w : World} {b k i : Nat} {v : Value} (h : k ≠ b) : (w.setCell ⟨b, i, none⟩ v).heap[k]? = w.heap[k]? := Below.heap_setCell _ _ _ _ h
theorem frozen_row0 {w : World} {b i : Nat} {cur : Array Value} {e : TypeId} (h : w.heap[b]? = some (.cells cur e (0, 0))) : w.frozen? ⟨b, i, none⟩ = false := by
 simp [World.frozen?, h]
def ByteRow (e : TypeId) (w : World) (A : Option Addr) (n c : Nat) (l : List UInt8) : Prop :=
 l.length = n ∧ ((A = none ∧ n = 0 ∧ c = 0) ∨ ∃ g cur, A = some ⟨g, 0, none⟩ ∧ w.heap[g]? = some (.cells cur e (0, 0)) ∧ n ≤ c ∧ c ≤ maxLen ∧ c ≤ cur.size ∧ cur.toList.take n = cs l)
theorem ByteRow.nil (e : TypeId) (w : World) : ByteRow e w none 0 0 [] := ⟨rfl, .inl ⟨rfl, rfl, rfl⟩⟩
theorem ByteRow.kept {e : TypeId} {w w' : World} {A : Option Addr} {n c : Nat} {l : List UInt8} (h : ByteRow e w A n c l) (hk : ∀ a, A = some a → w'.heap[a.block]? = w.heap[a.block]?) : ByteRow e w' A n c l := by
 refine ⟨h.1, ?_⟩
 rcases h.2 with h0 | ⟨g, cur, rfl, hg, r⟩
 ·exact .inl h0
 ·exact .inr ⟨g, cur, rfl, (hk _ rfl).trans hg, r⟩
theorem ByteRow.lt {e : TypeId} {w : World} {A : Option Addr} {n c : Nat} {l : List UInt8} (h : ByteRow e w A n c l) : ∀ a, A = some a → a.block < w.heap.size := by
 intro a ha
 rcases h.2 with ⟨rfl, _⟩ | ⟨g, cur, rfl, hg, _⟩
 ·cases ha
 ·cases ha
  exact (Array.getElem?_eq_some_iff.1 hg).1
theorem ByteRow.sees {e : TypeId} {w : World} {A : Option Addr} {n c : Nat} {l : List UInt8} (h : ByteRow e w A n c l) : Sees w A n l := by
 refine ⟨h.1, fun hn => ?_⟩
 rcases h.2 with ⟨_, h0, _⟩ | ⟨g, cur, rfl, hg, hnc, hcm, hcs, ht⟩
 ·omega
 ·refine ⟨g, 0, rfl, fun j u hu => ?_⟩
  rw [Nat.zero_add, cell_of_row _ g j cur e (0, 0) hg]
  have h1 := cs_get hu
  rw [← ht, List.getElem?_take] at h1
  split at h1
  ·simpa using h1
  ·cases h1
section
variable {P : Program}
theorem run_data {w : World} (t ty e : TypeId) (i : TypeInfo) (z : Value) (ht : P.underlying t = some (.slice e)) (hi : P.info? e = some i) (hz : i.zero = some z)
  (hsize : i.size = 1) (hby : i.bytes = 1) (hzs : z.cells.size = 1)
  (A : Option Addr) (n c : Nat) (l : List UInt8) (hd : ByteRow e w A n c l)
  (S : Option Addr) (m k : Nat) (q : List UInt8) (hs : Sees w S m q) (h63 : n + m ≤ 140737488355328) :
  ∃ A' c' w', (Builtin.append_ #[t, t] ty #[.slice A n c, .slice S m k]).run P w = .ok (.slice A' (n + m) c') w' ∧ ByteRow e w' A' (n + m) c' (l ++ q) ∧
    Beside ((A.map (·.block)).toList) w w' ∧ (∀ a', A' = some a' → (∃ a, A = some a ∧ a'.block = a.block) ∨ (w.heap.size ≤ a'.block)) := by
 have hlen : (l ++ q).length = n + m := by rw [List.length_append, hd.1, hs.1]
 cases S with
 | none =>
   have hm : m = 0 := by
    rcases Nat.eq_zero_or_pos m with h0 | h0
    ·exact h0
    ·obtain ⟨b, o, h, _⟩ := hs.2 h0
     cases h
   subst hm
   have hq : q = [] := List.eq_nil_of_length_eq_zero hs.1
   subst hq
   refine ⟨A, c, w, ?_, by simpa using hd, Beside.refl _ _, fun a' ha => .inl ⟨a', ha, rfl⟩⟩
   rcases hd.2 with ⟨rfl, rfl, rfl⟩ | ⟨g, cur, rfl, _, hnc, _⟩
   ·simp [Builtin.append_, run_underlying ht, sizeOf, typeInfo, hi, Builtin.lenOf, Builtin.firstCells]
   ·simp [Builtin.append_, run_underlying ht, sizeOf, typeInfo, hi, Builtin.lenOf, Builtin.firstCells, hnc, storeCells]
 | some ad =>
   have hnews : ∀ j u, (cs q)[j]? = some u → w.cell? (ad.add j) = some u := by
    intro j u hu
    obtain ⟨y, hy, rfl⟩ := of_cs_get hu
    have hj : j < q.length := (List.getElem?_eq_some_iff.1 hy).1
    obtain ⟨b, o, h, hc⟩ := hs.2 (by have := hs.1; omega)
    injection h with h
    subst h
    rw [add_plain]
    exact hc j y hy
   have new : ∀ (z' : Array Value) (cap : Nat), n + m ≤ cap → cap ≤ maxLen → z'.size = cap - (n + m) → ByteRow e (w.drew.alloc (.cells ((cs l).toArray ++ (cs q).toArray ++ z') e)) (some ⟨w.heap.size, 0, none⟩) (n + m) cap (l ++ q) := by
    intro z' cap hcap hmx hzz
    refine ⟨hlen, .inr ⟨w.heap.size, _, rfl, heap_alloc_new w.drew _, hcap, hmx, ?_, ?_⟩⟩
    ·simp [cs_length, hd.1, hs.1, hzz]; omega
    ·simp only [Array.toList_append, List.append_assoc]
     rw [← List.append_assoc, ← cs_append, ← hlen, ← cs_length (l ++ q)]
     exact List.take_left
   rcases hd.2 with ⟨rfl, rfl, rfl⟩ | ⟨g, cur, rfl, hg, hnc, hcm, hcs, htake⟩
   ·have hl : l = [] := List.eq_nil_of_length_eq_zero hd.1
    subst hl
    by_cases hm : m = 0
    ·subst hm
     have hq : q = [] := List.eq_nil_of_length_eq_zero hs.1
     subst hq
     refine ⟨none, 0, w, ?_, ByteRow.nil e w, Beside.refl _ _, fun a' ha => by (cases ha)⟩
     simp [Builtin.append_, run_underlying ht, sizeOf, typeInfo, hi, Builtin.lenOf, Builtin.firstCells, loadCells, loadCellsFrom]
    ·have hr := run_append_nil (P := P) w t ty e i z ht hi hz ad m k (cs q) (by rw [cs_length, hs.1, hsize]; omega) hnews (by omega) (by omega) (by rw [hby]; omega)
     have hge := grownCap_ge w m 0 e
     have hgm := grownCap_le_maxLen w m 0 e (by unfold maxLen; omega)
     have := new (Builtin.zeroCells z.cells (grownCap w m 0 e - m)) (grownCap w m 0 e) (by omega) hgm (by simp [size_zeroCells, hzs])
     simp only [Nat.zero_add, cs, List.map_nil, Array.empty_append] at this hr ⊢
     exact ⟨_, _, _, hr, this, (Beside.refl _ _).drew.alloc _, fun a' ha => .inr (by cases ha; exact Nat.le_refl _)⟩
   ·by_cases hroom : n + m ≤ c
    ·have hfit : n * i.size + (cs q).length ≤ cur.size := by rw [cs_length, hs.1, hsize]; omega
     have hr := run_append_room (P := P) w t ty e i ht hi g n c cur hg ad m k (cs q) (by rw [cs_length, hs.1, hsize]; omega) hnews (cs_one q) hroom hfit
     refine ⟨_, _, _, hr, ⟨hlen, .inr ⟨g, _, rfl, setRow_heap w g cur _ e _ hg, hroom, hcm, ?_, ?_⟩⟩, ⟨rfl, rfl, rfl, by simp, fun j hj hn => setRow_other w g j _ (fun e => hn (by simp [e]))⟩, fun a' ha => .inl ⟨_, rfl, by cases ha; rfl⟩⟩
     ·simp only [List.size_toArray, List.length_append, List.length_take, List.length_drop, Array.length_toList, cs_length, hs.1, hsize]
      omega
     ·rw [hsize, Nat.mul_one, htake, ← cs_append, ← hlen, ← cs_length (l ++ q)]
      exact List.take_left
    ·have holds : ∀ j u, (cs l)[j]? = some u → w.cell? ((⟨g, 0, none⟩ : Addr).add j) = some u := by
      intro j u hu
      obtain ⟨y, hy, rfl⟩ := of_cs_get hu
      obtain ⟨b, o, h, hc⟩ := hd.sees.2 (by have := (List.getElem?_eq_some_iff.1 hy).1; have := hd.1; omega)
      injection h with h
      cases h
      rw [add_plain]
      exact hc j y hy
     have hr := run_append_grow (P := P) w t ty e i z ht hi hz ⟨g, 0, none⟩ n c (cs l) (by rw [cs_length, hd.1, hsize]; omega) holds ad m k (cs q) (by rw [cs_length, hs.1, hsize]; omega) hnews (by omega) (by omega) (growslice_fits (by omega) (by rw [hby]; omega))
     have hge := grownCap_ge w (n + m) c e
     have hgm := grownCap_le_maxLen w (n + m) c e (by unfold maxLen; omega)
     have := new (Builtin.zeroCells z.cells (grownCap w (n + m) c e - (n + m))) (grownCap w (n + m) c e) hge hgm (by simp [size_zeroCells, hzs])
     exact ⟨_, _, _, hr, this, (Beside.refl _ _).drew.alloc _, fun a' ha => .inr (by cases ha; exact Nat.le_refl _)⟩
theorem wpList_data {w : World} {ops : Array Oper} {rest : List Oper} {o : Oper} {a : Act} {Q : Exit → Act → World → Prop} (hgd : o.guard = none) (s x : Operand) (t : TypeId)
  (ho : o.op = .call { callee := .builtin .append, args := #[s, x], argTypes := #[t, t] })
  (e : TypeId) (i : TypeInfo) (z : Value) (ht : P.underlying t = some (.slice e)) (hi : P.info? e = some i) (hz : i.zero = some z)
  (hsize : i.size = 1) (hby : i.bytes = 1) (hzs : z.cells.size = 1)
  (A : Option Addr) (n c : Nat) (l : List UInt8) (hs : a.eval s = .slice A n c) (hd : ByteRow e w A n c l)
  (S : Option Addr) (m k : Nat) (q : List UInt8) (hx : a.eval x = .slice S m k) (hq : Sees w S m q) (h63 : n + m ≤ 140737488355328)
  (h : ∀ A' c' w', ByteRow e w' A' (n + m) c' (l ++ q) → Beside ((A.map (·.block)).toList) w w' → (∀ a', A' = some a' → (∃ a, A = some a ∧ a'.block = a.block) ∨ (w.heap.size ≤ a'.block)) → wpList P ops Q rest (a.put o.dst (.slice A' (n + m) c')) w') : wpList P ops Q (o :: rest) a w := by
 refine wpList_plain hgd fun K hK => ?_
 obtain ⟨A', c', w', hrun, h2, h3, h4⟩ := run_data (P := P) t o.type e i z ht hi hz hsize hby hzs A n c l hd S m k q hq h63
 unfold Oper.wp execOp
 simp only [ho, resolve, invoke, builtin, Sem.run_bind, Sem.run_pure, Result.andThen_ok, List.map_toArray, List.map_cons, List.map_nil, hs, hx, hrun]
 exact hK _ _ (h A' c' w' h2 h3 h4)
end
end Go.Proofs.YtinjbdgjcadodaaGreatDoor.Words
namespace Go.Proofs.YtinjbdgjcadodaaGreatDoor.Facts
open Go Go.RowKit
theorem not_dst {l : List Oper} {t : Nat} (h : (l.all fun o => o.dst != some t) = true) : ∀ i : Nat, (l.toArray[i]?).bind (·.dst) ≠ some t := by
 intro i e
 rw [List.getElem?_toArray] at e
 cases ho : l[i]? with
 | none => rw [ho] at e; cases e
 | some o =>
   rw [ho] at e
   have := List.all_eq_true.1 h o (List.mem_of_getElem? ho)
   simp only [Option.bind_some] at e
   rw [e] at this
   simp at this
theorem array_lit {n : Nat} (t : Array Value) (h : t.size = n) : t = ((List.range n).map fun i => t.getD i undef).toArray := by
 subst h
 apply Array.ext
 ·simp
 ·intro i h1 h2
  simp [h1]
theorem lits {n : Nat} (t : Array Value) (h : t.size = n) (L : List Nat) (hL : List.range n = L) : ∃ x : Nat → Value, (∀ k, t.getD k undef = x k) ∧ t = (L.map x).toArray := ⟨fun k => t.getD k undef, fun _ => rfl, by subst hL; exact array_lit t h⟩
def idx17 : List Nat := [0, 1, 2, 3, 4, 5, 6, 7, 8, 9, 10, 11, 12, 13, 14, 15, 16]
theorem idx17_eq : List.range 17 = idx17 := by rfl
def idx23 : List Nat := [0, 1, 2, 3, 4, 5, 6, 7, 8, 9, 10, 11, 12, 13, 14, 15, 16, 17, 18, 19, 20, 21, 22]
theorem idx23_eq : List.range 23 = idx23 := by rfl
def idx27 : List Nat := [0, 1, 2, 3, 4, 5, 6, 7, 8, 9, 10, 11, 12, 13, 14, 15, 16, 17, 18, 19, 20, 21, 22, 23, 24, 25, 26]
theorem idx27_eq : List.range 27 = idx27 := by rfl
def idx28 : List Nat := [0, 1, 2, 3, 4, 5, 6, 7, 8, 9, 10, 11, 12, 13, 14, 15, 16, 17, 18, 19, 20, 21, 22, 23, 24, 25, 26, 27]
theorem idx28_eq : List.range 28 = idx28 := by rfl
def idx42 : List Nat := [0, 1, 2, 3, 4, 5, 6, 7, 8, 9, 10, 11, 12, 13, 14, 15, 16, 17, 18, 19, 20, 21, 22, 23, 24, 25, 26, 27, 28, 29, 30, 31, 32, 33, 34, 35, 36, 37, 38, 39, 40, 41]
theorem idx42_eq : List.range 42 = idx42 := by rfl
def idx53 : List Nat := [0, 1, 2, 3, 4, 5, 6, 7, 8, 9, 10, 11, 12, 13, 14, 15, 16, 17, 18, 19, 20, 21, 22, 23, 24, 25, 26, 27, 28, 29, 30, 31, 32, 33, 34, 35, 36, 37, 38, 39, 40, 41, 42, 43, 44, 45, 46, 47, 48, 49, 50, 51, 52]
theorem idx53_eq : List.range 53 = idx53 := by rfl
def idx61 : List Nat := [0, 1, 2, 3, 4, 5, 6, 7, 8, 9, 10, 11, 12, 13, 14, 15, 16, 17, 18, 19, 20, 21, 22, 23, 24, 25, 26, 27, 28, 29, 30, 31, 32, 33, 34, 35, 36, 37, 38, 39, 40, 41, 42, 43, 44, 45, 46, 47, 48, 49, 50, 51, 52, 53, 54, 55, 56, 57, 58, 59, 60]
theorem idx61_eq : List.range 61 = idx61 := by rfl
def idx64 : List Nat := [0, 1, 2, 3, 4, 5, 6, 7, 8, 9, 10, 11, 12, 13, 14, 15, 16, 17, 18, 19, 20, 21, 22, 23, 24, 25, 26, 27, 28, 29, 30, 31, 32, 33, 34, 35, 36, 37, 38, 39, 40, 41, 42, 43, 44, 45, 46, 47, 48, 49, 50, 51, 52, 53, 54, 55, 56, 57, 58, 59, 60, 61, 62, 63]
theorem idx64_eq : List.range 64 = idx64 := by rfl
end Go.Proofs.YtinjbdgjcadodaaGreatDoor.Facts
namespace Go.Proofs.YtinjbdgjcadodaaGreatDoor.Crc
def poly : BitVec 32 := 0x1edc6f41#32
def step (s : BitVec 32) (b : Bool) : BitVec 32 := if b = s.msb then s <<< 1 else (s <<< 1) ^^^ poly
def bits (s : BitVec 32) (u : UInt8) : Nat → BitVec 32
 | 0 => s
 | k + 1 => step (bits s u k) (u.toNat.testBit k)
def byte (s : BitVec 32) (u : UInt8) : BitVec 32 := bits s u 8
def run (l : List UInt8) : BitVec 32 := l.foldl byte (BitVec.allOnes 32)
def sum (l : List UInt8) : BitVec 32 := (~~~ (run l)).reverse
theorem run_snoc (l : List UInt8) (u : UInt8) : run (l ++ [u]) = byte (run l) u := by simp [run, List.foldl_append]
theorem step_xor (a b : BitVec 32) (x y : Bool) : step (a ^^^ b) (x ^^ y) = step a x ^^^ step b y := by
 unfold step
 rw [BitVec.msb_xor, BitVec.shiftLeft_xor_distrib]
 generalize a <<< 1 = c
 generalize b <<< 1 = d
 cases a.msb <;> cases b.msb <;> cases x <;> cases y <;> simp <;> first | rfl | (ext i; simp; try grind)
theorem bits_xor (a b : BitVec 32) (u v : UInt8) : ∀ k, bits (a ^^^ b) (u ^^^ v) k = bits a u k ^^^ bits b v k
 | 0 => rfl
 | k + 1 => by
   simp only [bits]
   rw [bits_xor a b u v k, ← step_xor]
   congr 1
   rw [UInt8.toNat_xor, Nat.testBit_xor]
theorem byte_xor (a b : BitVec 32) (u v : UInt8) : byte (a ^^^ b) (u ^^^ v) = byte a u ^^^ byte b v := bits_xor a b u v 8
open Go in
theorem not_u32 (r : BitVec 32) : Go.bits .xor .u32 IntKind.u32.max (r.toNat : Int) = ((~~~ r).toNat : Int) := by
 have := r.isLt
 rw [show IntKind.u32.max = ((4294967295 : Nat) : Int) from rfl, u32_xor_nat _ _ (by omega) (by omega), ← BitVec.allOnes_xor, BitVec.toNat_xor]
 rfl
def lowTab : List Nat := [0, 4067132163, 3778769143, 324072436, 3348797215, 904991772, 648144872, 3570033899, 2329499855, 2024987596, 1809983544, 2575936315, 1296289744, 3207089363, 2893594407, 1578318884]
def highTab : List Nat := [0, 274646895, 549293790, 820201905, 1098587580, 1361435347, 1640403810, 1905808397, 2197175160, 2460548119, 2722870694, 2987750089, 3280807620, 3553878443, 3811616794, 4084100981]
def lowAt (i : Nat) : Nat := lowTab.getD i 0
def highAt (i : Nat) : Nat := highTab.getD i 0
theorem lowAt_lt (i : Nat) (h : i < 16) : lowAt i < 4294967296 := (by decide : ∀ i : Fin 16, lowAt i.val < 4294967296) ⟨i, h⟩
theorem highAt_lt (i : Nat) (h : i < 16) : highAt i < 4294967296 := (by decide : ∀ i : Fin 16, highAt i.val < 4294967296) ⟨i, h⟩
theorem tab_byte : ∀ x : Fin 256, (byte 0#32 (UInt8.ofNat x.val)).reverse = BitVec.ofNat 32 (lowAt (x.val % 16)) ^^^ BitVec.ofNat 32 (highAt (x.val / 16)) := by decide +kernel
theorem top_byte : ∀ v : Fin 256, byte (BitVec.ofNat 32 v.val).reverse (UInt8.ofNat v.val) = 0#32 := by decide +kernel
theorem reverse_xor (a b : BitVec 32) : (a ^^^ b).reverse = a.reverse ^^^ b.reverse := by
 apply BitVec.eq_of_getLsbD_eq
 intro i hi
 rw [BitVec.getLsbD_xor, BitVec.getLsbD_reverse, BitVec.getLsbD_reverse, BitVec.getLsbD_reverse, BitVec.getMsbD_xor]
theorem step_small (s : BitVec 32) (h : s.toNat < 2 ^ 31) : step s false = s <<< 1 := by
 unfold step
 rw [if_pos]
 rw [BitVec.msb_eq_decide]
 simp; omega
theorem bits_small (s : BitVec 32) (h : s.toNat < 2 ^ 24) : ∀ k, k ≤ 8 → bits s 0 k = s <<< k
 | 0, _ => by simp [bits]
 | k + 1, hk => by
   simp only [bits]
   rw [bits_small s h k (by omega)]
   have h0 : (0 : UInt8).toNat.testBit k = false := by simp
   rw [h0, step_small, BitVec.shiftLeft_add]
   rw [BitVec.toNat_shiftLeft, Nat.shiftLeft_eq]
   have h1 : 2 ^ k ≤ 2 ^ 7 := Nat.pow_le_pow_right (by omega) (by omega)
   have h2 : s.toNat * 2 ^ k ≤ s.toNat * 2 ^ 7 := Nat.mul_le_mul_left _ h1
   have h3 := Nat.mod_le (s.toNat * 2 ^ k) (2 ^ 32)
   omega
theorem byte_tab (r : BitVec 32) (u : UInt8) :
  (byte r.reverse u).reverse = (r >>> 8) ^^^ BitVec.ofNat 32 (lowAt ((u.toNat ^^^ (r.toNat % 256)) % 16)) ^^^ BitVec.ofNat 32 (highAt ((u.toNat ^^^ (r.toNat % 256)) / 16)) := by
 have hv : r.toNat % 256 < 256 := Nat.mod_lt _ (by omega)
 generalize hve : r.toNat % 256 = n at hv
 have hx : u.toNat ^^^ n < 256 := Nat.xor_lt_two_pow (n := 8) u.toNat_lt hv
 have e1 := tab_byte ⟨u.toNat ^^^ n, hx⟩
 have e2 := top_byte ⟨n, hv⟩
 simp only at e1 e2
 have hnu : (UInt8.ofNat n).toNat = n := by rw [UInt8.toNat_ofNat']; omega
 have hu : u = (0 ^^^ UInt8.ofNat n) ^^^ UInt8.ofNat (u.toNat ^^^ n) := by
  apply UInt8.toNat_inj.1
  rw [UInt8.toNat_xor, UInt8.toNat_xor, hnu, UInt8.toNat_ofNat', Nat.mod_eq_of_lt hx]
  have z : (0 : UInt8).toNat = 0 := rfl
  rw [z, Nat.zero_xor, Nat.xor_comm n, Nat.xor_assoc, Nat.xor_self, Nat.xor_zero]
 generalize ht : BitVec.ofNat 32 n = t at e2
 have htn : t.toNat = n := by rw [← ht, BitVec.toNat_ofNat]; omega
 have hs : r.reverse = ((r ^^^ t).reverse ^^^ t.reverse) ^^^ 0#32 := by
  rw [← reverse_xor, BitVec.xor_assoc, BitVec.xor_self, BitVec.xor_zero, BitVec.xor_zero]
 have hbit : ∀ i, i < 8 → t.getLsbD i = r.getLsbD i := by
  intro i hi
  rw [BitVec.getLsbD, BitVec.getLsbD, htn, ← hve]
  have := Nat.testBit_mod_two_pow r.toNat 8 i
  rw [show (256 : Nat) = 2 ^ 8 by rfl, this]
  simp [hi]
 have hbit2 : ∀ i, 8 ≤ i → t.getLsbD i = false := by
  intro i hi
  rw [BitVec.getLsbD, htn]
  exact Nat.testBit_lt_two_pow (Nat.lt_of_lt_of_le hv (by simpa using Nat.pow_le_pow_right (n := 2) (by omega) hi))
 have hlt : ((r ^^^ t).reverse).toNat < 2 ^ 24 := by
  apply Nat.lt_pow_two_of_testBit
  intro j hj
  show BitVec.getLsbD _ j = false
  rw [BitVec.getLsbD_reverse, BitVec.getMsbD_eq_getLsbD]
  by_cases h32 : j < 32
  ·simp [h32, hbit (31 - j) (by omega)]
  ·simp [h32]
 have hsh : ((r ^^^ t).reverse <<< 8).reverse = r >>> 8 := by
  apply BitVec.eq_of_getLsbD_eq
  intro i hi
  rw [BitVec.getLsbD_reverse, BitVec.getMsbD_eq_getLsbD, BitVec.getLsbD_shiftLeft, BitVec.getLsbD_reverse, BitVec.getMsbD_eq_getLsbD, BitVec.getLsbD_ushiftRight, BitVec.getLsbD_xor]
  by_cases h24 : i < 24
  ·rw [show 32 - 1 - (32 - 1 - i - 8) = 8 + i by omega, hbit2 _ (by omega)]
   simp [hi, show ¬ 31 - i < 8 by omega, show 31 - i < 32 by omega, show 31 - i - 8 < 32 by omega]
  ·have : r.getLsbD (8 + i) = false := by apply BitVec.getLsbD_of_ge; omega
   rw [this]
   simp [hi, show 31 - i < 8 by omega]
 rw [hs, hu, byte_xor, byte_xor, e2, reverse_xor, reverse_xor, e1]
 show (bits _ 0 8).reverse ^^^ _ ^^^ _ = _
 rw [bits_small _ hlt 8 (by omega), hsh]
 have hu2 : (UInt8.ofNat (u.toNat ^^^ n)).toNat = u.toNat ^^^ n := by rw [UInt8.toNat_ofNat']; omega
 have hz : (0#32 : BitVec 32).reverse = 0#32 := by decide +kernel
 rw [hz, BitVec.xor_zero, ← BitVec.xor_assoc]
 have z : ∀ m : Nat, m < 256 → ((0 ^^^ UInt8.ofNat n) ^^^ UInt8.ofNat m).toNat ^^^ n = m := by
  intro m hm
  have z0 : (0 : UInt8).toNat = 0 := rfl
  rw [UInt8.toNat_xor, UInt8.toNat_xor, hnu, UInt8.toNat_ofNat', Nat.mod_eq_of_lt hm, z0, Nat.zero_xor, Nat.xor_comm n, Nat.xor_assoc, Nat.xor_self, Nat.xor_zero]
 rw [← hu]
end Go.Proofs.YtinjbdgjcadodaaGreatDoor.Crc
namespace Go.Proofs.YtinjbdgjcadodaaGreatDoor.Dsk
open Go Go.RowKit Words
def okB (r : Nat) : Bool := decide (97 ≤ r ∧ r ≤ 122 ∨ 48 ≤ r ∧ r ≤ 57 ∨ r = 46 ∨ r = 45)
def okName (s : List UInt8) : Bool := decide (1 ≤ s.length) && decide (s.length ≤ 48) && s.all fun u => okB u.toNat
theorem mayStand_any (r : Nat) (w : World) (h : okB r = true) :
  Calls Tryz.prog 282 #[.int .i32 (r : Int)] w fun e w' => e = .returned (.bool true) ∧ w = w' := by
 have h' : 97 ≤ r ∧ r ≤ 122 ∨ 48 ≤ r ∧ r ≤ 57 ∨ r = 46 ∨ r = 45 := by simpa [okB] using h
 clear h
 rcases h' with ⟨h1, h2⟩ | ⟨h1, h2⟩ | rfl | rfl
 ·have a1 : (97 : Int) ≤ (r : Int) := by omega
  have a2 : (r : Int) ≤ 122 := by omega
  go_enter Tryz.func282, Tryz.ntmps282
  go_wp2
  go_ret
  exact ⟨rfl, rfl⟩
 ·have a1 : (48 : Int) ≤ (r : Int) := by omega
  have a2 : (r : Int) ≤ 57 := by omega
  have a3 : decide ((97 : Int) ≤ (r : Int)) = false := by simp; omega
  go_enter Tryz.func282, Tryz.ntmps282
  go_wp2
  go_ret
  exact ⟨rfl, rfl⟩
 ·go_enter Tryz.func282, Tryz.ntmps282
  go_wp2
  go_ret
  exact ⟨rfl, rfl⟩
 ·go_enter Tryz.func282, Tryz.ntmps282
  go_wp2
  go_ret
  exact ⟨rfl, rfl⟩
theorem below_iter (w : World) (s : ByteArray) (pos : Nat) : Below w.heap.size w (w.iter s pos) := (Below.refl _ _).alloc (Nat.le_refl _) _
theorem namedS (s : ByteArray) (w : World) (h1 : 1 ≤ s.size) (h2 : s.size ≤ 48) (hok : ∀ i (h : i < s.size), okB (s[i]'h).toNat = true) :
  Calls Tryz.prog 234 #[.string s] w fun e w' => e = .returned (.bool true) ∧ Below w.heap.size w w' := by
 have a1 : ((s.size : Int) == 0) = false := by rw [beq_eq_false_iff_ne]; omega
 have a2 : decide ((48 : Int) < (s.size : Int)) = false := by simp; omega
 have HOK := Lib.hid hok
 clear hok
 go_enter Tryz.func234, Tryz.ntmps234
 go_wp2
 go_loopw [] (fun w' => ∃ pos : Nat, w' = w.iter s pos) (fun w' => s.size - w'.iterPos w.heap.size)
 case atStart => exact ⟨0, rfl⟩
 case round =>
  obtain ⟨pos, rfl⟩ := hrel
  by_cases hp : pos < s.size
  ·have hb := HOK.out pos hp
   have ha : (s[pos]'hp).toNat < 128 := by
    have : 97 ≤ (s[pos]'hp).toNat ∧ (s[pos]'hp).toNat ≤ 122 ∨ 48 ≤ (s[pos]'hp).toNat ∧ (s[pos]'hp).toNat ≤ 57 ∨ (s[pos]'hp).toNat = 46 ∨ (s[pos]'hp).toNat = 45 := by simpa [okB] using hb
    omega
   have hnx : ∀ ty, (Instr.next (.pointer (some ⟨w.heap.size, 0, none⟩)) true ty).run Tryz.prog (w.iter s pos) = _ := fun ty => run_next_ascii w s pos ty hp ha
   generalize (s[pos]'hp).toNat = r at hb hnx
   clear ha
   go_wp2_with fail
   refine (mayStand_any r _ hb).mono ?_
   rintro e w1 ⟨rfl, rfl⟩
   go_wp2
   go_roundw
   case rel => exact ⟨pos + 1, rfl⟩
   case measure => simp; omega
  ·have hnx : ∀ ty, (Instr.next (.pointer (some ⟨w.heap.size, 0, none⟩)) true ty).run Tryz.prog (w.iter s pos) = _ := fun ty => run_next_end w s pos ty hp
   go_wp2
   go_ret
   exact ⟨rfl, below_iter w s pos⟩
theorem named_any (s : List UInt8) (w : World) (h : okName s = true) :
  Calls Tryz.prog 234 #[.string ⟨s.toArray⟩] w fun e w' => e = .returned (.bool true) ∧ Below w.heap.size w w' := by
 simp only [okName, Bool.and_eq_true, decide_eq_true_eq, List.all_eq_true] at h
 have hsz : (⟨s.toArray⟩ : ByteArray).size = s.length := by simp [ByteArray.size]
 refine namedS _ w (by omega) (by omega) fun i hi => h.2 _ ?_
 show (s.toArray[i]'_) ∈ s
 simp
theorem okName_len {s : List UInt8} (h : okName s = true) : s.length ≤ 100000 := by
 simp only [okName, Bool.and_eq_true, decide_eq_true_eq] at h
 omega
end Go.Proofs.YtinjbdgjcadodaaGreatDoor.Dsk
