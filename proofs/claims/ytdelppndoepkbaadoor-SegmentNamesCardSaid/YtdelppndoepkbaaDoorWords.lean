/- Words for slices of bytes in memory: what a slice shows, what a call of ours owns, and the laws on append and on the change to a string. No condition: these are lemmas on memory alone. -/
import Derived.WalkKit
import Derived.Laws.AppendOwnNone
import Derived.Deep.Draws
import Derived.RegionTactic
namespace Go.Proofs.YtdelppndoepkbaaDoor.Words
open Go Go.RowKit

/-- Bytes as cells. -/
def cs (l : List UInt8) : List Value := l.map fun b => Value.int .u8 (b.toNat : Int)
theorem cs_length (l : List UInt8) : (cs l).length = l.length := by simp [cs]
theorem cs_append (l m : List UInt8) : cs (l ++ m) = cs l ++ cs m := by simp [cs]
theorem cs_one (l : List UInt8) : ∀ u ∈ cs l, u.oneCell' = true := by
  intro u hu
  obtain ⟨_, _, rfl⟩ := List.mem_map.1 hu
  rfl
theorem cs_get {l : List UInt8} {j : Nat} {u : UInt8} (h : l[j]? = some u) : (cs l)[j]? = some (.int .u8 (u.toNat : Int)) := by simp [cs, h]
theorem of_cs_get {l : List UInt8} {j : Nat} {v : Value} (h : (cs l)[j]? = some v) : ∃ u, l[j]? = some u ∧ v = .int .u8 (u.toNat : Int) := by
  simp only [cs, List.getElem?_map, Option.map_eq_some_iff] at h
  obtain ⟨u, hu, rfl⟩ := h
  exact ⟨u, hu, rfl⟩

theorem bytes_toList (l : List UInt8) : (ByteArray.mk l.toArray).toList = l := by simp
theorem add_plain (b o j : Nat) : (⟨b, o, none⟩ : Addr).add j = ⟨b, o + j, none⟩ := by unfold Addr.add; split <;> simp_all

/-- The slice of n bytes at A shows l. -/
def Sees (w : World) (A : Option Addr) (n : Nat) (l : List UInt8) : Prop :=
  l.length = n ∧ (0 < n → ∃ b o, A = some ⟨b, o, none⟩ ∧ ∀ j u, l[j]? = some u → w.cell? ⟨b, o + j, none⟩ = some (.int .u8 (u.toNat : Int)))

theorem Sees.nil (w : World) (A : Option Addr) : Sees w A 0 [] := ⟨rfl, fun h => absurd h (by omega)⟩
theorem Sees.drew {w : World} {A : Option Addr} {n : Nat} {l : List UInt8} (h : Sees w A n l) : Sees w.drew A n l := h
theorem Sees.drewN {w : World} {A : Option Addr} {n : Nat} {l : List UInt8} (h : Sees w A n l) (k : Nat) : Sees (w.drewN k) A n l := h
theorem Sees.below {w w' : World} {A : Option Addr} {n : Nat} {l : List UInt8} (h : Sees w A n l) (hb : Below w.heap.size w w') : Sees w' A n l := by
  refine ⟨h.1, fun hn => ?_⟩
  obtain ⟨b, o, hA, hc⟩ := h.2 hn
  refine ⟨b, o, hA, fun j u hu => ?_⟩
  have hcell := hc j u hu
  have hlt := World.block_lt_of_cell? _ _ hcell
  rw [hb.cell (p := ⟨b, o + j, none⟩) hlt]
  exact hcell
theorem Sees.at_ {w : World} {A : Option Addr} {n : Nat} {l : List UInt8} (h : Sees w A n l) (hn : 0 < n) :
    ∃ b o, A = some ⟨b, o, none⟩ ∧ ∀ j u, l[j]? = some u → w.cell? ⟨b, o + j, none⟩ = some (.int .u8 (u.toNat : Int)) := h.2 hn
theorem Sees.of_own {w : World} {base : Nat} {e : TypeId} {A : Option Addr} {n c : Nat} {l : List UInt8} (h : w.ownsRow base e 1 (.slice A n c) n (cs l)) : Sees w A n l := by
  refine ⟨by have := h.1; rw [cs_length] at this; omega, fun hn => ?_⟩
  rcases h.2 with ⟨hv, h0⟩ | ⟨g, cap, cur, hv, _⟩
  · omega
  · injection hv with hA
    subst hA
    exact ⟨g, 0, rfl, fun j u hu => by rw [← add_plain]; exact h.cells (g := g) rfl j _ (cs_get hu)⟩
theorem Sees.cut {w : World} {A : Option Addr} {n : Nat} {l : List UInt8} (h : Sees w A n l) {k : Nat} (hk : k ≤ n) {A' : Option Addr}
    (hA : ∀ b o, k < n → A = some ⟨b, o, none⟩ → A' = some ⟨b, o + k, none⟩) : Sees w A' (n - k) (l.drop k) := by
  refine ⟨by rw [List.length_drop, h.1], fun hn => ?_⟩
  obtain ⟨b, o, e, hc⟩ := h.2 (by omega)
  refine ⟨b, o + k, hA b o (by omega) e, fun j u hu => ?_⟩
  rw [Nat.add_assoc]
  exact hc _ u (by rw [← hu, List.getElem?_drop])
theorem Sees.take {w : World} {A : Option Addr} {n : Nat} {l : List UInt8} (h : Sees w A n l) {k : Nat} (hk : k ≤ n) : Sees w A k (l.take k) := by
  refine ⟨by rw [List.length_take, h.1]; omega, fun hn => ?_⟩
  obtain ⟨b, o, e, hc⟩ := h.2 (by omega)
  refine ⟨b, o, e, fun j u hu => ?_⟩
  rw [List.getElem?_take] at hu
  split at hu
  · exact hc j u hu
  · cases hu

section
variable {P : Program}

theorem strOf_nums (l : List UInt8) : strOfNums (l.map fun b => (b.toNat : Int)) = ⟨l.toArray⟩ := by
  unfold strOfNums
  congr 2
  rw [List.map_map]
  conv => rhs; rw [← List.map_id l]
  apply List.map_congr_left
  intro x _
  simp
/-- The change of bytes to a string. -/
theorem Sees.string {w : World} {A : Option Addr} {n : Nat} {l : List UInt8} (h : Sees w A n l) (c : Nat) {t s e : TypeId} (ht : P.underlying t = some (.slice e)) (he : P.underlying e = some (.int .u8)) (hs : P.underlying s = some .string) :
    (convert t s (.slice A n c)).run P w = .ok (.string ⟨l.toArray⟩) w := by
  by_cases hn : 0 < n
  · obtain ⟨b, o, rfl, hc⟩ := h.2 hn
    have := run_convert_bytes_arg (P := P) w t e ht he b o n c (l.map fun b => (b.toNat : Int)) (by simpa using h.1) (fun i hi => by
      have hl : i < l.length := by rw [h.1]; exact hi
      rw [hc i l[i] (List.getElem?_eq_getElem hl)]
      simp [hl]) s hs
    rw [this, strOf_nums]
  · have h0 : n = 0 := by omega
    subst h0
    have hl : l = [] := List.eq_nil_of_length_eq_zero h.1
    subst hl
    cases A with
    | none => rw [run_convert_bytes_nil (P := P) w t e ht he 0 c s hs]; rfl
    | some a =>
      rw [run_convert_bytes_string w t s e _ 0 c ht he hs, run_bytesToString w a 0 c [] (by simp [loadCells, loadCellsFrom])]
      rfl

/-- append onto what the call owns, of bytes that are seen, wherever they lie. -/
theorem run_app {w : World} (base : Nat) (t ty e : TypeId) (i : TypeInfo) (z : Value) (ht : P.underlying t = some (.slice e)) (hi : P.info? e = some i) (hz : i.zero = some z)
    (hsize : i.size = 1) (hby : i.bytes = 1) (hzs : z.cells.size = 1)
    (A : Option Addr) (n c : Nat) (l : List UInt8) (hown : w.ownsRow base e 1 (.slice A n c) n (cs l))
    (S : Option Addr) (m k : Nat) (q : List UInt8) (hs : Sees w S m q) (h63 : n + m ≤ 140737488355328) (hbase : base ≤ w.heap.size) :
    ∃ A' c' w', (Builtin.append_ #[t, t] ty #[.slice A n c, .slice S m k]).run P w = .ok (.slice A' (n + m) c') w' ∧ w'.ownsRow base e 1 (.slice A' (n + m) c') (n + m) (cs (l ++ q)) ∧ Below base w w' := by
  have hmx : n + m ≤ maxLen := by unfold maxLen; omega
  cases S with
  | none =>
    have hm : m = 0 := by
      rcases Nat.eq_zero_or_pos m with h0 | h0
      · exact h0
      · obtain ⟨b, o, h, _⟩ := hs.2 h0
        cases h
    subst hm
    have hq : q = [] := List.eq_nil_of_length_eq_zero hs.1
    subst hq
    refine ⟨A, c, w, ?_, by simpa using hown, Below.refl _ _⟩
    rcases hown.2 with ⟨hv, rfl⟩ | ⟨g, cap, cur, hv, _, _, hnc, _⟩
    · injection hv with h1 h2 h3
      subst h1; subst h3
      simp [Builtin.append_, run_underlying ht, sizeOf, typeInfo, hi, Builtin.lenOf, Builtin.firstCells]
    · injection hv with h1 h2 h3
      subst h1; subst h3
      simp [Builtin.append_, run_underlying ht, sizeOf, typeInfo, hi, Builtin.lenOf, Builtin.firstCells, hnc, storeCells]
  | some ad =>
    have hcells : ∀ j u, (cs q)[j]? = some u → w.cell? (ad.add j) = some u := by
      intro j u hu
      obtain ⟨y, hy, rfl⟩ := of_cs_get hu
      have hj : j < q.length := (List.getElem?_eq_some_iff.1 hy).1
      obtain ⟨b, o, h, hc⟩ := hs.2 (by have := hs.1; omega)
      injection h with h
      subst h
      rw [add_plain]
      exact hc j y hy
    obtain ⟨v', w', hrun, h2, h3, _⟩ := run_append_own (P := P) w base t ty e i z 1 1 ht hi hz hsize hby hzs (by decide) (.slice A n c) n (cs l) hown ad m k (cs q) (by rw [cs_length, hs.1]; simp) hcells (cs_one q) hmx (by omega) hbase
    rw [← cs_append] at h2
    have hB : Below base w w' := (Below.refl base w).grown h3 hbase fun g hg => (hown.lt g hg).1
    obtain ⟨A', c', rfl⟩ : ∃ A' c', v' = .slice A' (n + m) c' := by
      rcases h2.2 with ⟨rfl, h0⟩ | ⟨g, cap, cur, rfl, _⟩
      · exact ⟨none, 0, by rw [h0]⟩
      · exact ⟨_, cap, rfl⟩
    exact ⟨A', c', w', hrun, h2, hB⟩

theorem wp_app {w : World} {o : Oper} {a : Act} {K : Act → World → Prop} {Q : Exit → Act → World → Prop} (s x : Operand) (t : TypeId)
    (ho : o.op = .call { callee := .builtin .append, args := #[s, x], argTypes := #[t, t] })
    (base : Nat) (e : TypeId) (i : TypeInfo) (z : Value) (ht : P.underlying t = some (.slice e)) (hi : P.info? e = some i) (hz : i.zero = some z)
    (hsize : i.size = 1) (hby : i.bytes = 1) (hzs : z.cells.size = 1)
    (A : Option Addr) (n c : Nat) (l : List UInt8) (hs : a.eval s = .slice A n c) (hown : w.ownsRow base e 1 (.slice A n c) n (cs l))
    (S : Option Addr) (m k : Nat) (q : List UInt8) (hx : a.eval x = .slice S m k) (hq : Sees w S m q) (h63 : n + m ≤ 140737488355328) (hbase : base ≤ w.heap.size)
    (h : ∀ A' c' w', w'.ownsRow base e 1 (.slice A' (n + m) c') (n + m) (cs (l ++ q)) → Below base w w' → K (a.put o.dst (.slice A' (n + m) c')) w') : o.wp P a w K Q := by
  obtain ⟨A', c', w', hrun, h2, h3⟩ := run_app (P := P) base t o.type e i z ht hi hz hsize hby hzs A n c l hown S m k q hq h63 hbase
  unfold Oper.wp execOp
  simp only [ho, resolve, invoke, builtin, Sem.run_bind, Sem.run_pure, Result.andThen_ok, List.map_toArray, List.map_cons, List.map_nil, hs, hx, hrun]
  exact h A' c' w' h2 h3

/-- The same for the walk. -/
theorem wpList_app {w : World} {ops : Array Oper} {rest : List Oper} {o : Oper} {a : Act} {Q : Exit → Act → World → Prop} (hgd : o.guard = none) (s x : Operand) (t : TypeId)
    (ho : o.op = .call { callee := .builtin .append, args := #[s, x], argTypes := #[t, t] })
    (base : Nat) (e : TypeId) (i : TypeInfo) (z : Value) (ht : P.underlying t = some (.slice e)) (hi : P.info? e = some i) (hz : i.zero = some z)
    (hsize : i.size = 1) (hby : i.bytes = 1) (hzs : z.cells.size = 1)
    (A : Option Addr) (n c : Nat) (l : List UInt8) (hs : a.eval s = .slice A n c) (hown : w.ownsRow base e 1 (.slice A n c) n (cs l))
    (S : Option Addr) (m k : Nat) (q : List UInt8) (hx : a.eval x = .slice S m k) (hq : Sees w S m q) (h63 : n + m ≤ 140737488355328) (hbase : base ≤ w.heap.size)
    (h : ∀ A' c' w', w'.ownsRow base e 1 (.slice A' (n + m) c') (n + m) (cs (l ++ q)) → Below base w w' → wpList P ops Q rest (a.put o.dst (.slice A' (n + m) c')) w') : wpList P ops Q (o :: rest) a w :=
  wpList_plain hgd fun _ hK => wp_app s x t ho base e i z ht hi hz hsize hby hzs A n c l hs hown S m k q hx hq h63 hbase fun A' c' w' h2 h3 => hK _ _ (h A' c' w' h2 h3)

/-- The same as one step of a region that draws its order. -/
theorem step_app {w : World} {ops : Array Oper} {o : Oper} {a : Act} {K : Act → World → Prop} {Q : Exit → Act → World → Prop} {E : Prop} (hgd : o.guard = none) (s x : Operand) (t : TypeId)
    (ho : o.op = .call { callee := .builtin .append, args := #[s, x], argTypes := #[t, t] })
    (base : Nat) (e : TypeId) (i : TypeInfo) (z : Value) (ht : P.underlying t = some (.slice e)) (hi : P.info? e = some i) (hz : i.zero = some z)
    (hsize : i.size = 1) (hby : i.bytes = 1) (hzs : z.cells.size = 1)
    (A : Option Addr) (n c : Nat) (l : List UInt8) (hs : a.eval s = .slice A n c) (hown : w.ownsRow base e 1 (.slice A n c) n (cs l))
    (S : Option Addr) (m k : Nat) (q : List UInt8) (hx : a.eval x = .slice S m k) (hq : Sees w S m q) (h63 : n + m ≤ 140737488355328) (hbase : base ≤ w.heap.size)
    (h : ∀ A' c' w', w'.ownsRow base e 1 (.slice A' (n + m) c') (n + m) (cs (l ++ q)) → Below base w w' → K (a.put o.dst (.slice A' (n + m) c')) w') :
    if Region.wanted o (yielded ops a.tmps) = true then Oper.wp P o a w K Q else E := by
  have hw : Region.wanted o (yielded ops a.tmps) = true := by simp [Region.wanted, hgd]
  rw [if_pos hw]
  exact wp_app s x t ho base e i z ht hi hz hsize hby hzs A n c l hs hown S m k q hx hq h63 hbase h

/-- A new block that begins with these bytes shows them. -/
theorem sees_new (w : World) (e : TypeId) (cur : Array Value) (n : Nat) (l : List UInt8) (hn : l.length = n) (h : ∀ (j : Nat) (u : UInt8), l[j]? = some u → cur[j]? = some (Value.int .u8 (u.toNat : Int))) :
    Sees (w.alloc (.cells cur e)) (some ⟨w.heap.size, 0, none⟩) n l := by
  refine ⟨hn, fun _ => ⟨_, _, rfl, fun j u hu => ?_⟩⟩
  rw [cell_of_row _ w.heap.size (0 + j) cur e (0, 0) (heap_alloc_new w _), Nat.zero_add]
  exact h j u hu

theorem sees_marked (w : World) (e : TypeId) (cur : Array Value) (fr : Nat × Nat) (n : Nat) (l : List UInt8) (hn : l.length = n) (h : ∀ (j : Nat) (u : UInt8), l[j]? = some u → cur[j]? = some (Value.int .u8 (u.toNat : Int))) :
    Sees (w.alloc (.cells cur e fr)) (some ⟨w.heap.size, 0, none⟩) n l := by
  refine ⟨hn, fun _ => ⟨_, _, rfl, fun j u hu => ?_⟩⟩
  rw [cell_of_row _ w.heap.size (0 + j) cur e fr (heap_alloc_new w _), Nat.zero_add]
  exact h j u hu

/-- append onto a slice that has no spare room ('p[a:b:b]'), of bytes that are seen: what comes back shows both; what was there is as it was. -/
theorem run_full {w : World} (t ty e : TypeId) (i : TypeInfo) (z : Value) (ht : P.underlying t = some (.slice e)) (hi : P.info? e = some i) (hz : i.zero = some z)
    (hsize : i.size = 1) (hby : i.bytes = 1)
    (A : Option Addr) (n : Nat) (l : List UInt8) (hA : Sees w A n l) (S : Option Addr) (m k : Nat) (q : List UInt8) (hs : Sees w S m q) (h63 : n + m ≤ 140737488355328) :
    ∃ A' c' w', (Builtin.append_ #[t, t] ty #[.slice A n n, .slice S m k]).run P w = .ok (.slice A' (n + m) c') w' ∧ Sees w' A' (n + m) (l ++ q) ∧ (n + m ≤ c' ∧ c' ≤ 9223372036854775807) ∧ Below w.heap.size w w' := by
  by_cases hm : m = 0
  · subst hm
    have hq : q = [] := List.eq_nil_of_length_eq_zero hs.1
    subst hq
    refine ⟨A, n, w, ?_, by simpa using hA, ⟨Nat.le_refl _, by omega⟩, Below.refl _ _⟩
    cases A with
    | none =>
      have hn : n = 0 := by
        rcases Nat.eq_zero_or_pos n with h0 | h0
        · exact h0
        · obtain ⟨b, o, h, _⟩ := hA.2 h0
          cases h
      subst hn
      cases S <;> simp [Builtin.append_, run_underlying ht, sizeOf, typeInfo, hi, Builtin.lenOf, Builtin.firstCells, loadCells, loadCellsFrom]
    | some ad => cases S <;> simp [Builtin.append_, run_underlying ht, sizeOf, typeInfo, hi, Builtin.lenOf, Builtin.firstCells, loadCells, loadCellsFrom, storeCells]
  · obtain ⟨b, o, rfl, hc⟩ := hs.2 (by omega)
    have hnews : ∀ j u, (cs q)[j]? = some u → w.cell? ((⟨b, o, none⟩ : Addr).add j) = some u := by
      intro j u hu
      obtain ⟨y, hy, rfl⟩ := of_cs_get hu
      rw [add_plain]
      exact hc j y hy
    have hlen : (l ++ q).length = n + m := by rw [List.length_append, hA.1, hs.1]
    have fin : ∀ (z' : Array Value) (cap : Nat), n + m ≤ cap → Sees (w.drew.alloc (.cells ((cs l).toArray ++ (cs q).toArray ++ z') e)) (some ⟨w.heap.size, 0, none⟩) (n + m) (l ++ q) ∧
        Below w.heap.size w (w.drew.alloc (.cells ((cs l).toArray ++ (cs q).toArray ++ z') e)) := by
      intro z' cap hcap
      refine ⟨sees_new w.drew e _ (n + m) (l ++ q) hlen fun j u hu => ?_, (Below.refl _ _).drew.alloc (Nat.le_refl _) _⟩
      have hj : j < (l ++ q).length := (List.getElem?_eq_some_iff.1 hu).1
      have := cs_get hu
      rw [cs_append] at this
      rw [Array.getElem?_append_left (by simp [cs_length]; simpa using hj)]
      simpa using this
    cases A with
    | none =>
      have hn : n = 0 := by
        rcases Nat.eq_zero_or_pos n with h0 | h0
        · exact h0
        · obtain ⟨b, o, h, _⟩ := hA.2 h0
          cases h
      subst hn
      have hl : l = [] := List.eq_nil_of_length_eq_zero hA.1
      subst hl
      have hr := run_append_nil (P := P) w t ty e i z ht hi hz ⟨b, o, none⟩ m k (cs q) (by rw [cs_length, hs.1, hsize]; omega) hnews (by omega) (by omega) (by rw [hby]; omega)
      have hge := grownCap_ge w m 0 e
      have hgm := grownCap_le_maxLen w m 0 e (by unfold maxLen; omega)
      unfold maxLen at hgm
      have := fin (Builtin.zeroCells z.cells (grownCap w m 0 e - m)) (grownCap w m 0 e) (by omega)
      simp only [Nat.zero_add, cs, List.map_nil, Array.empty_append] at this hr ⊢
      exact ⟨_, _, _, hr, this.1, ⟨hge, hgm⟩, this.2⟩
    | some ad =>
      have holds : ∀ j u, (cs l)[j]? = some u → w.cell? (ad.add j) = some u := by
        intro j u hu
        obtain ⟨y, hy, rfl⟩ := of_cs_get hu
        have hj : j < l.length := (List.getElem?_eq_some_iff.1 hy).1
        obtain ⟨b', o', h, hc'⟩ := hA.2 (by have := hA.1; omega)
        injection h with h
        subst h
        rw [add_plain]
        exact hc' j y hy
      have hr := run_append_grow (P := P) w t ty e i z ht hi hz ad n n (cs l) (by rw [cs_length, hA.1, hsize]; omega) holds ⟨b, o, none⟩ m k (cs q) (by rw [cs_length, hs.1, hsize]; omega) hnews (by omega) (by omega) (growslice_fits (by omega) (by rw [hby]; omega))
      have hge := grownCap_ge w (n + m) n e
      have hgm := grownCap_le_maxLen w (n + m) n e (by unfold maxLen; omega)
      unfold maxLen at hgm
      have := fin (Builtin.zeroCells z.cells (grownCap w (n + m) n e - (n + m))) (grownCap w (n + m) n e) hge
      exact ⟨_, _, _, hr, this.1, ⟨hge, hgm⟩, this.2⟩

theorem wp_full {w : World} {o : Oper} {a : Act} {K : Act → World → Prop} {Q : Exit → Act → World → Prop} (s x : Operand) (t : TypeId)
    (ho : o.op = .call { callee := .builtin .append, args := #[s, x], argTypes := #[t, t] })
    (e : TypeId) (i : TypeInfo) (z : Value) (ht : P.underlying t = some (.slice e)) (hi : P.info? e = some i) (hz : i.zero = some z) (hsize : i.size = 1) (hby : i.bytes = 1)
    (A : Option Addr) (n : Nat) (l : List UInt8) (hs : a.eval s = .slice A n n) (hA : Sees w A n l)
    (S : Option Addr) (m k : Nat) (q : List UInt8) (hx : a.eval x = .slice S m k) (hq : Sees w S m q) (h63 : n + m ≤ 140737488355328)
    (h : ∀ A' c' w', Sees w' A' (n + m) (l ++ q) → n + m ≤ c' → c' ≤ 9223372036854775807 → Below w.heap.size w w' → K (a.put o.dst (.slice A' (n + m) c')) w') : o.wp P a w K Q := by
  obtain ⟨A', c', w', hrun, h2, h3, h4⟩ := run_full (P := P) t o.type e i z ht hi hz hsize hby A n l hA S m k q hq h63
  unfold Oper.wp execOp
  simp only [ho, resolve, invoke, builtin, Sem.run_bind, Sem.run_pure, Result.andThen_ok, List.map_toArray, List.map_cons, List.map_nil, hs, hx, hrun]
  exact h A' c' w' h2 h3.1 h3.2 h4
theorem wpList_full {w : World} {ops : Array Oper} {rest : List Oper} {o : Oper} {a : Act} {Q : Exit → Act → World → Prop} (hgd : o.guard = none) (s x : Operand) (t : TypeId)
    (ho : o.op = .call { callee := .builtin .append, args := #[s, x], argTypes := #[t, t] })
    (e : TypeId) (i : TypeInfo) (z : Value) (ht : P.underlying t = some (.slice e)) (hi : P.info? e = some i) (hz : i.zero = some z) (hsize : i.size = 1) (hby : i.bytes = 1)
    (A : Option Addr) (n : Nat) (l : List UInt8) (hs : a.eval s = .slice A n n) (hA : Sees w A n l)
    (S : Option Addr) (m k : Nat) (q : List UInt8) (hx : a.eval x = .slice S m k) (hq : Sees w S m q) (h63 : n + m ≤ 140737488355328)
    (h : ∀ A' c' w', Sees w' A' (n + m) (l ++ q) → n + m ≤ c' → c' ≤ 9223372036854775807 → Below w.heap.size w w' → wpList P ops Q rest (a.put o.dst (.slice A' (n + m) c')) w') : wpList P ops Q (o :: rest) a w :=
  wpList_plain hgd fun _ hK => wp_full s x t ho e i z ht hi hz hsize hby A n l hs hA S m k q hx hq h63 fun A' c' w' h2 h3 h4 h5 => hK _ _ (h A' c' w' h2 h3 h4 h5)

/-- The one byte that the translation lays in a block of its own ahead of 'append(p, x)'. -/
theorem Sees.fresh (w : World) (e : TypeId) (X : Int) (u : UInt8) (hX : X = (u.toNat : Int)) : Sees (w.alloc (.cells #[.int .u8 X] e)) (some ⟨w.heap.size, 0, none⟩) 1 [u] := by
  subst hX
  refine ⟨rfl, fun _ => ⟨_, _, rfl, fun j v hv => ?_⟩⟩
  match j, hv with
  | 0, hv =>
    simp at hv
    subst hv
    simp
end

/-- The element type's row: bytes. -/
theorem Own.nil (w : World) (base : Nat) (e : TypeId) : w.ownsRow base e 1 (.slice none 0 0) 0 (cs []) := World.ownsRow_nil w base e 1
theorem Own.shape {w : World} {base : Nat} {e : TypeId} {v : Value} {n : Nat} {xs : List Value} (h : w.ownsRow base e 1 v n xs) : ∃ A c, v = .slice A n c ∧ n ≤ c := by
  rcases h.2 with ⟨rfl, rfl⟩ | ⟨g, cap, cur, rfl, _, _, hc, _⟩
  · exact ⟨none, 0, rfl, Nat.le_refl _⟩
  · exact ⟨_, cap, rfl, hc⟩
theorem Own.cap {w : World} {base : Nat} {e : TypeId} {A : Option Addr} {n c : Nat} {xs : List Value} (h : w.ownsRow base e 1 (.slice A n c) n xs) : n ≤ c ∧ c ≤ 9223372036854775807 := by
  rcases h.2 with ⟨hv, rfl⟩ | ⟨g, cap, cur, hv, _, _, hc, hm, _⟩
  · injection hv with _ _ h3
    omega
  · injection hv with _ _ h3
    subst h3
    unfold maxLen at hm
    omega
theorem Own.at_ {w : World} {base : Nat} {e : TypeId} {A : Option Addr} {n c : Nat} {xs : List Value} (h : w.ownsRow base e 1 (.slice A n c) n xs) (hn : 0 < n) : ∃ g, A = some ⟨g, 0, none⟩ ∧ base ≤ g := by
  rcases h.2 with ⟨hv, rfl⟩ | ⟨g, cap, cur, hv, hb, _⟩
  · omega
  · injection hv with h1
    exact ⟨g, h1, hb⟩
/-- What is owned above a lower number is owned above the higher only if it lies there; above a lower one always. -/
theorem Own.lower {w : World} {base base' : Nat} {e : TypeId} {v : Value} {n : Nat} {xs : List Value} (h : w.ownsRow base e 1 v n xs) (hb : base' ≤ base) : w.ownsRow base' e 1 v n xs := by
  refine ⟨h.1, ?_⟩
  rcases h.2 with hn | ⟨g, cap, cur, hv, hg, r⟩
  · exact .inl hn
  · exact .inr ⟨g, cap, cur, hv, Nat.le_trans hb hg, r⟩
/-- What is owned stays owned while nothing below the heap's end turns. -/
theorem Own.below {w w' : World} {base B : Nat} {e : TypeId} {v : Value} {n : Nat} {xs : List Value} (h : w.ownsRow base e 1 v n xs) (hb : Below B w w') (hB : w.heap.size ≤ B) : w'.ownsRow base e 1 v n xs := by
  refine ⟨h.1, ?_⟩
  rcases h.2 with hn | ⟨g, cap, cur, hv, hg, hh, r⟩
  · exact .inl hn
  · exact .inr ⟨g, cap, cur, hv, hg, by rw [hb.block g (by have := (Array.getElem?_eq_some_iff.1 hh).1; omega)]; exact hh, r⟩

/-- A slice of bytes that came in, as the rows open it: what it shows. -/
theorem sees_of_row {w : World} {a : Option Addr} {len cap : Nat} {zs : List Int}
    (h : (a = none ∧ len = 0 ∧ cap = 0 ∧ zs = []) ∨ ∃ x, a = some x ∧ len ≤ cap ∧ cap ≤ maxLen ∧ zs.length = cap ∧ (∀ i, i < zs.length → w.cell? (x.add i) = some (.int .u8 (zs.getD i 0))) ∧ ∀ n ∈ zs, (Lit.int .u8 n).wf = true) :
    ∃ l, Sees w a len l ∧ len ≤ cap ∧ cap ≤ maxLen := by
  rcases h with ⟨rfl, rfl, rfl, rfl⟩ | ⟨x, rfl, hl, hm, hz, hc, hw⟩
  · exact ⟨[], Sees.nil _ _, Nat.le_refl _, Nat.zero_le _⟩
  · refine ⟨(zs.take len).map fun n => UInt8.ofNat n.toNat, ⟨by simp; omega, fun hn => ?_⟩, hl, hm⟩
    obtain ⟨b, o, s⟩ := x
    have hs0 : s = none := by
      have := hc 0 (by omega)
      simpa [Addr.add] using World.cell?_spot this
    subst hs0
    refine ⟨b, o, rfl, fun j u hu => ?_⟩
    simp only [List.getElem?_map, Option.map_eq_some_iff, List.getElem?_take] at hu
    obtain ⟨n, hn', rfl⟩ := hu
    split at hn'
    · have hj : j < zs.length := by omega
      have hcj := hc j hj
      rw [add_plain] at hcj
      rw [hcj]
      have e : zs.getD j 0 = n := by simp [List.getD, hn']
      have hwf := hw n (List.mem_of_getElem? hn')
      have hb : 0 ≤ n ∧ n < 256 := by
        simp [Lit.wf, IntKind.min, IntKind.max, IntKind.signed, IntKind.bits] at hwf
        omega
      rw [e]
      congr 1
      congr 1
      rw [UInt8.toNat_ofNat']
      omega
    · cases hn'
end Go.Proofs.YtdelppndoepkbaaDoor.Words
