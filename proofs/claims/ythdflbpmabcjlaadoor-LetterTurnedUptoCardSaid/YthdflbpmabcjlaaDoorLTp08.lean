/- Order: rows of events in memory (as layer 7 has them), and append onto rows of events. Order: heaps of lists, and merging: plain, no program. Order: the methods of the heap of lists: how they are found; compare, Len, Less. Order: Len, Less, Swap of the heap of lists. Order: Swap, Push, Pop of the heap of lists. Order: Push of the heap of lists. Order: Pop of the heap of lists: slices.Delete of the last. Order: container/heap: up, down. -/
import Derived.Laws.StructEq
import Derived.Deep.Cut
import Derived.Deep.RegionWith
import Derived.Deep.QuietTactic
import Derived.Deep.RegionHeld3
import Derived.BigRegion
import Derived.Deep.RegionLaw
import Derived.Deep.AppendLies
import Derived.Lib.SliceRun
import Derived.Test.YthdflbpmabcjlaaDoorLTp01
import Derived.Test.YthdflbpmabcjlaaDoorLTp03
import Derived.Test.YthdflbpmabcjlaaDoorLTp05
import Derived.Test.YthdflbpmabcjlaaDoorLTp07
namespace Go.Proofs.YthdflbpmabcjlaaDoor.Seg
open Go Go.RowKit Go.Proofs.YthdflbpmabcjlaaDoor.Words Go.Proofs.YthdflbpmabcjlaaDoor.Enc Go.Proofs.YthdflbpmabcjlaaDoor.Evt
set_option linter.unusedVariables false

/-- An event as it lies in a row: and where its text lies. -/
structure EvS where
  e : Ev
  A : Option Addr
  n : Nat
  c : Nat
def EvS.cells (r : EvS) : List Value := [.int .i64 r.e.writer, .int .u64 (r.e.seq : Int), .int .u64 (r.e.time : Int), .int .u8 (r.e.kind : Int), .string r.e.key, .slice r.A r.n r.c, .float .f64 r.e.num, .int .i64 r.e.node]
theorem EvS.cells_len (r : EvS) : r.cells.length = 8 := rfl
theorem EvS.one (r : EvS) : ∀ u ∈ r.cells, u.oneCell' = true := by
  intro u hu
  simp only [EvS.cells, List.mem_cons, List.not_mem_nil, or_false] at hu
  rcases hu with rfl | rfl | rfl | rfl | rfl | rfl | rfl | rfl <;> rfl
def rowsL : List EvS → List Value
  | [] => []
  | r :: S => r.cells ++ rowsL S
theorem rowsL_len : ∀ S : List EvS, (rowsL S).length = S.length * 8
  | [] => rfl
  | r :: S => by simp only [rowsL, List.length_append, List.length_cons, rowsL_len S, EvS.cells_len]; omega
theorem rowsL_append : ∀ S T : List EvS, rowsL (S ++ T) = rowsL S ++ rowsL T
  | [], T => rfl
  | r :: S, T => by simp [rowsL, rowsL_append S T]
theorem rowsL_one (S : List EvS) : ∀ u ∈ rowsL S, u.oneCell' = true := by
  induction S with
  | nil => intro u hu; cases hu
  | cons r S ih =>
    intro u hu
    rcases List.mem_append.1 hu with h | h
    · exact r.one u h
    · exact ih u h
theorem rowsL_get : ∀ (S : List EvS) (j k : Nat) (r : EvS), S[j]? = some r → k < 8 → (rowsL S)[8 * j + k]? = r.cells[k]?
  | [], j, k, r, h, _ => by simp at h
  | x :: S, 0, k, r, h, hk => by
    simp at h
    subst h
    rw [rowsL, List.getElem?_append_left (by rw [EvS.cells_len]; omega)]
    simp
  | x :: S, j + 1, k, r, h, hk => by
    rw [rowsL, List.getElem?_append_right (by rw [EvS.cells_len]; omega), EvS.cells_len, show 8 * (j + 1) + k - 8 = 8 * j + k by omega]
    exact rowsL_get S j k r (by simpa using h) hk
theorem rowsL_take : ∀ (S : List EvS) (k j : Nat) (v : Value), (rowsL (S.take k))[j]? = some v → (rowsL S)[j]? = some v
  | [], k, j, v, h => by simpa using h
  | r :: S, 0, j, v, h => by simp [rowsL] at h
  | r :: S, k + 1, j, v, h => by
    rw [List.take_succ_cons, rowsL] at h
    rw [rowsL]
    by_cases hj : j < 8
    · rw [List.getElem?_append_left (by rw [EvS.cells_len]; omega)] at h ⊢
      exact h
    · rw [List.getElem?_append_right (by rw [EvS.cells_len]; omega)] at h ⊢
      exact rowsL_take S k _ v h

/-- Rows of events lie at A. -/
def RawEv (w : World) (A : Option Addr) (S : List EvS) : Prop := 0 < S.length → ∃ b o, A = some ⟨b, o, none⟩ ∧ ∀ j v, (rowsL S)[j]? = some v → w.cell? ⟨b, o + j, none⟩ = some v
theorem RawEv.below {w w' : World} {A : Option Addr} {S : List EvS} (h : RawEv w A S) (hb : Below w.heap.size w w') : RawEv w' A S := by
  intro hn
  obtain ⟨b, o, hA, hc⟩ := h hn
  refine ⟨b, o, hA, fun j v hv => ?_⟩
  have := hc j v hv
  rw [hb.cell (World.block_lt_of_cell? _ _ this)]
  exact this
theorem RawEv.take {w : World} {A : Option Addr} {S : List EvS} (h : RawEv w A S) (k : Nat) : RawEv w A (S.take k) := by
  intro hn
  rw [List.length_take] at hn
  obtain ⟨b, o, hA, hc⟩ := h (by omega)
  exact ⟨b, o, hA, fun j v hv => hc j v (rowsL_take S k j v hv)⟩
theorem RawEv.at_ {w : World} {A : Option Addr} {S : List EvS} (h : RawEv w A S) {j : Nat} {r : EvS} (hj : S[j]? = some r) :
    ∃ b o, A = some ⟨b, o, none⟩ ∧ w.cell? ⟨b, o + 8 * j, none⟩ = some (.int .i64 r.e.writer) ∧ w.cell? ⟨b, o + 8 * j + 1, none⟩ = some (.int .u64 (r.e.seq : Int)) ∧ w.cell? ⟨b, o + 8 * j + 2, none⟩ = some (.int .u64 (r.e.time : Int)) ∧ w.cell? ⟨b, o + 8 * j + 3, none⟩ = some (.int .u8 (r.e.kind : Int)) ∧
      w.cell? ⟨b, o + 8 * j + 4, none⟩ = some (.string r.e.key) ∧ w.cell? ⟨b, o + 8 * j + 5, none⟩ = some (.slice r.A r.n r.c) ∧ w.cell? ⟨b, o + 8 * j + 6, none⟩ = some (.float .f64 r.e.num) ∧ w.cell? ⟨b, o + 8 * j + 7, none⟩ = some (.int .i64 r.e.node) := by
  obtain ⟨b, o, hA, hc⟩ := h (by have := (List.getElem?_eq_some_iff.1 hj).1; omega)
  refine ⟨b, o, hA, ?_, ?_, ?_, ?_, ?_, ?_, ?_, ?_⟩
  · exact hc (8 * j + 0) _ (rowsL_get S j 0 r hj (by omega))
  · exact hc (8 * j + 1) _ (rowsL_get S j 1 r hj (by omega))
  · exact hc (8 * j + 2) _ (rowsL_get S j 2 r hj (by omega))
  · exact hc (8 * j + 3) _ (rowsL_get S j 3 r hj (by omega))
  · exact hc (8 * j + 4) _ (rowsL_get S j 4 r hj (by omega))
  · exact hc (8 * j + 5) _ (rowsL_get S j 5 r hj (by omega))
  · exact hc (8 * j + 6) _ (rowsL_get S j 6 r hj (by omega))
  · exact hc (8 * j + 7) _ (rowsL_get S j 7 r hj (by omega))

def TextOk (B : List Nat) (w : World) (r : EvS) : Prop := Sees w r.A r.n r.e.text ∧ r.n ≤ r.c ∧ r.c ≤ 9223372036854775807 ∧ Out B r.A r.n
/-- The slice of n events at A shows R; it and the texts lie outside B. -/
def SeesEv (B : List Nat) (w : World) (A : Option Addr) (n : Nat) (R : List Ev) : Prop :=
  ∃ S : List EvS, S.map EvS.e = R ∧ S.length = n ∧ RawEv w A S ∧ Out B A n ∧ ∀ r ∈ S, TextOk B w r
theorem SeesEv.nil (B : List Nat) (w : World) (A : Option Addr) : SeesEv B w A 0 [] := ⟨[], rfl, rfl, fun h => absurd h (by simp), fun h => absurd h (by omega), fun r hr => by cases hr⟩
theorem SeesEv.len {B : List Nat} {w : World} {A : Option Addr} {n : Nat} {R : List Ev} (h : SeesEv B w A n R) : R.length = n := by
  obtain ⟨S, h1, h2, _⟩ := h
  rw [← h1, List.length_map, h2]
theorem TextOk.next {B B' : List Nat} {w w' : World} {r : EvS} (h : TextOk B w r) (hb : Beside B w w') (hB : ∀ k ∈ B', k ∈ B ∨ w.heap.size ≤ k) : TextOk B' w' r :=
  ⟨h.1.beside hb h.2.2.2, h.2.1, h.2.2.1, Out.next h.2.2.2 h.1 hB⟩
theorem SeesEv.next {B B' : List Nat} {w w' : World} {A : Option Addr} {n : Nat} {R : List Ev} (h : SeesEv B w A n R) (hb : Beside B w w') (hB : ∀ k ∈ B', k ∈ B ∨ w.heap.size ≤ k) : SeesEv B' w' A n R := by
  obtain ⟨S, h1, h2, h3, h4, h5⟩ := h
  refine ⟨S, h1, h2, fun hn => ?_, fun hn a ha hm => ?_, fun r hr => (h5 r hr).next hb hB⟩
  · obtain ⟨b, o, rfl, hc⟩ := h3 hn
    exact ⟨b, o, rfl, fun j v hv => hb.cell (hc j v hv) (h4 (by omega) ⟨b, o, none⟩ rfl)⟩
  · obtain ⟨b, o, rfl, hc⟩ := h3 (by omega)
    cases ha
    rcases hB _ hm with h | h
    · exact h4 hn _ rfl h
    · have h0 : 0 < (rowsL S).length := by rw [rowsL_len]; omega
      have := World.block_lt_of_cell? _ _ (hc 0 (rowsL S)[0] (List.getElem?_eq_getElem h0))
      simp at this h
      omega
theorem SeesEv.below {B : List Nat} {w w' : World} {A : Option Addr} {n : Nat} {R : List Ev} (h : SeesEv B w A n R) (hb : Below w.heap.size w w') : SeesEv B w' A n R :=
  h.next (Beside.of_below hb B) fun k hk => .inl hk
theorem SeesEv.take {B : List Nat} {w : World} {A : Option Addr} {n : Nat} {R : List Ev} (h : SeesEv B w A n R) {k : Nat} (hk : k ≤ n) : SeesEv B w A k (R.take k) := by
  obtain ⟨S, h1, h2, h3, h4, h5⟩ := h
  refine ⟨S.take k, by rw [List.map_take, h1], by rw [List.length_take]; omega, h3.take k, fun hn => h4 (by omega), fun r hr => h5 r (List.mem_of_mem_take hr)⟩
theorem SeesEv.get {B : List Nat} {w : World} {A : Option Addr} {n : Nat} {R : List Ev} (h : SeesEv B w A n R) {j : Nat} (hj : j < n) :
    ∃ (b o : Nat) (r : EvS), A = some ⟨b, o, none⟩ ∧ R[j]? = some r.e ∧ TextOk B w r ∧ w.cell? ⟨b, o + 8 * j, none⟩ = some (.int .i64 r.e.writer) ∧ w.cell? ⟨b, o + 8 * j + 1, none⟩ = some (.int .u64 (r.e.seq : Int)) ∧ w.cell? ⟨b, o + 8 * j + 2, none⟩ = some (.int .u64 (r.e.time : Int)) ∧ w.cell? ⟨b, o + 8 * j + 3, none⟩ = some (.int .u8 (r.e.kind : Int)) ∧
      w.cell? ⟨b, o + 8 * j + 4, none⟩ = some (.string r.e.key) ∧ w.cell? ⟨b, o + 8 * j + 5, none⟩ = some (.slice r.A r.n r.c) ∧ w.cell? ⟨b, o + 8 * j + 6, none⟩ = some (.float .f64 r.e.num) ∧ w.cell? ⟨b, o + 8 * j + 7, none⟩ = some (.int .i64 r.e.node) := by
  obtain ⟨S, h1, h2, h3, h4, h5⟩ := h
  have hj' : j < S.length := by omega
  obtain ⟨b, o, hA, hc⟩ := h3.at_ (List.getElem?_eq_getElem hj')
  exact ⟨b, o, S[j], hA, by rw [← h1, List.getElem?_map, List.getElem?_eq_getElem hj']; rfl, h5 _ (List.getElem_mem hj'), hc⟩
/-- What is owned above all of B. -/
theorem RawEv.of_own {w : World} {base : Nat} {A : Option Addr} {n c : Nat} {S : List EvS} (h : w.ownsRow base 52 8 (.slice A n c) n (rowsL S)) : RawEv w A S := by
  intro hn
  have hl := h.1
  rw [rowsL_len] at hl
  rcases h.2 with ⟨hv, h0⟩ | ⟨g, cap, cur, hv, _⟩
  · omega
  · injection hv with hA
    subst hA
    exact ⟨g, 0, rfl, fun j v hv => by rw [← add_plain]; exact h.cells (g := g) rfl j _ hv⟩
theorem own_at8 {w : World} {base size : Nat} {e : TypeId} {A : Option Addr} {n c : Nat} {xs : List Value} (h : w.ownsRow base e size (.slice A n c) n xs) (hn : 0 < n) : ∃ g, A = some ⟨g, 0, none⟩ ∧ base ≤ g := by
  rcases h.2 with ⟨hv, rfl⟩ | ⟨g, cap, cur, hv, hb, _⟩
  · omega
  · injection hv with h1
    exact ⟨g, h1, hb⟩
theorem own_cap8 {w : World} {base size : Nat} {e : TypeId} {A : Option Addr} {n c : Nat} {xs : List Value} (h : w.ownsRow base e size (.slice A n c) n xs) : n ≤ c ∧ c ≤ 9223372036854775807 := by
  rcases h.2 with ⟨hv, rfl⟩ | ⟨g, cap, cur, hv, _, _, hc, hm, _⟩
  · injection hv with _ _ h3
    omega
  · injection hv with _ _ h3
    subst h3
    unfold maxLen at hm
    omega
theorem own_below8 {w w' : World} {base B size : Nat} {e : TypeId} {v : Value} {n : Nat} {xs : List Value} (h : w.ownsRow base e size v n xs) (hb : Below B w w') (hB : w.heap.size ≤ B) : w'.ownsRow base e size v n xs := by
  refine ⟨h.1, ?_⟩
  rcases h.2 with hn | ⟨g, cap, cur, hv, hg, hh, r⟩
  · exact .inl hn
  · exact .inr ⟨g, cap, cur, hv, hg, by rw [hb.block g (by have := (Array.getElem?_eq_some_iff.1 hh).1; omega)]; exact hh, r⟩
theorem own_shape8 {w : World} {base size : Nat} {e : TypeId} {v : Value} {n : Nat} {xs : List Value} (h : w.ownsRow base e size v n xs) : ∃ A c, v = .slice A n c ∧ n ≤ c := by
  rcases h.2 with ⟨rfl, rfl⟩ | ⟨g, cap, cur, rfl, _, _, hc, _⟩
  · exact ⟨none, 0, rfl, Nat.le_refl _⟩
  · exact ⟨_, cap, rfl, hc⟩
theorem SeesEv.of_own {B : List Nat} {w : World} {base : Nat} {A : Option Addr} {n c : Nat} {S : List EvS} (h : w.ownsRow base 52 8 (.slice A n c) n (rowsL S)) (hB : ∀ k ∈ B, k < base) (ht : ∀ r ∈ S, TextOk B w r) : SeesEv B w A n (S.map EvS.e) := by
  have hl := h.1
  rw [rowsL_len] at hl
  refine ⟨S, rfl, by omega, RawEv.of_own h, fun hn a ha hm => ?_, ht⟩
  obtain ⟨g, rfl, hg⟩ := own_at8 h hn
  cases ha
  have := hB _ hm
  simp at this
  omega
end Go.Proofs.YthdflbpmabcjlaaDoor.Seg

/- slices.Grow of nil, Concat and Clip of events; append of events: their contracts. -/
namespace Go.Proofs.YthdflbpmabcjlaaDoor.Seg
open Go Go.RowKit Go.Proofs.YthdflbpmabcjlaaDoor.Words Go.Proofs.YthdflbpmabcjlaaDoor.Enc Go.Proofs.YthdflbpmabcjlaaDoor.Evt Go.Proofs.YthdflbpmabcjlaaDoor.Made
set_option linter.unusedVariables false

def zeroEv : Value := .agg #[.int .i64 0, .int .u64 0, .int .u64 0, .int .u8 0, .string ⟨#[]⟩, .slice none 0 0, .float .f64 0, .int .i64 0]
theorem infoE : (Tryd.prog.info? 52).map (fun i => (i.zero, i.size, i.bytes)) = some (some zeroEv, 8, 88) := by kernel_rfl
theorem own_nil8 (w : World) (base : Nat) (e : TypeId) : w.ownsRow base e 8 (.slice none 0 0) 0 (rowsL []) := World.ownsRow_nil w base e 8

section
variable {P : Program}
/-- append of events onto a row that the call owns. -/
theorem run_appE {w : World} (base : Nat) (t ty e : TypeId) (i : TypeInfo) (z : Value) (ht : P.underlying t = some (.slice e)) (hi : P.info? e = some i) (hz : i.zero = some z)
    (hsize : i.size = 8) (hby : i.bytes = 88) (hzs : z.cells.size = 8)
    (A : Option Addr) (n c : Nat) (T : List EvS) (hown : w.ownsRow base e 8 (.slice A n c) n (rowsL T))
    (S : Option Addr) (m k : Nat) (q : List EvS) (hq : q.length = m) (hs : RawEv w S q) (h63 : n + m ≤ 1000000000000) (hbase : base ≤ w.heap.size) :
    ∃ A' c' w', (Builtin.append_ #[t, t] ty #[.slice A n c, .slice S m k]).run P w = .ok (.slice A' (n + m) c') w' ∧ w'.ownsRow base e 8 (.slice A' (n + m) c') (n + m) (rowsL (T ++ q)) ∧ Below base w w' := by
  have hmx : n + m ≤ maxLen := by unfold maxLen; omega
  cases S with
  | none =>
    have hm : m = 0 := by
      rcases Nat.eq_zero_or_pos m with h0 | h0
      · exact h0
      · obtain ⟨b, o, h, _⟩ := hs (by omega)
        cases h
    subst hm
    have hq0 : q = [] := List.eq_nil_of_length_eq_zero hq
    subst hq0
    refine ⟨A, c, w, ?_, by simpa using hown, Below.refl _ _⟩
    rcases hown.2 with ⟨hv, rfl⟩ | ⟨g, cap, cur, hv, _, _, hnc, _⟩
    · injection hv with h1 h2 h3
      subst h1; subst h3
      simp [Builtin.append_, run_underlying ht, sizeOf, typeInfo, hi, Builtin.lenOf, Builtin.firstCells]
    · injection hv with h1 h2 h3
      subst h1; subst h3
      simp [Builtin.append_, run_underlying ht, sizeOf, typeInfo, hi, Builtin.lenOf, Builtin.firstCells, hnc, storeCells]
  | some ad =>
    have hcells : ∀ j u, (rowsL q)[j]? = some u → w.cell? (ad.add j) = some u := by
      intro j u hu
      have hj : j < (rowsL q).length := (List.getElem?_eq_some_iff.1 hu).1
      rw [rowsL_len] at hj
      obtain ⟨b, o, h, hc⟩ := hs (by omega)
      injection h with h
      subst h
      rw [add_plain]
      exact hc j u hu
    obtain ⟨v', w', hrun, h2, h3, _⟩ := run_append_own (P := P) w base t ty e i z 8 88 ht hi hz hsize hby hzs (by decide) (.slice A n c) n (rowsL T) hown ad m k (rowsL q) (by rw [rowsL_len, hq]) hcells (rowsL_one q) hmx (by omega) hbase
    rw [← rowsL_append] at h2
    have hlt : ∀ g, Value.ownBlock (.slice A n c) = some g → base ≤ g := fun g hg => (hown.lt g hg).1
    have hB : Below base w w' := (Below.refl base w).grown h3 hbase hlt
    obtain ⟨A', c', rfl⟩ : ∃ A' c', v' = .slice A' (n + m) c' := by
      rcases h2.2 with ⟨rfl, h0⟩ | ⟨g, cap, cur, rfl, _⟩
      · exact ⟨none, 0, by rw [h0]⟩
      · exact ⟨_, cap, rfl⟩
    exact ⟨A', c', w', hrun, h2, hB⟩

theorem wpList_appE {w : World} {ops : Array Oper} {rest : List Oper} {o : Oper} {a : Act} {Q : Exit → Act → World → Prop} (hgd : o.guard = none) (s x : Operand) (t : TypeId)
    (ho : o.op = .call { callee := .builtin .append, args := #[s, x], argTypes := #[t, t] })
    (base : Nat) (e : TypeId) (i : TypeInfo) (z : Value) (ht : P.underlying t = some (.slice e)) (hi : P.info? e = some i) (hz : i.zero = some z)
    (hsize : i.size = 8) (hby : i.bytes = 88) (hzs : z.cells.size = 8)
    (A : Option Addr) (n c : Nat) (T : List EvS) (hs : a.eval s = .slice A n c) (hown : w.ownsRow base e 8 (.slice A n c) n (rowsL T))
    (S : Option Addr) (m k : Nat) (q : List EvS) (hx : a.eval x = .slice S m k) (hl : q.length = m) (hq : RawEv w S q) (h63 : n + m ≤ 1000000000000) (hbase : base ≤ w.heap.size)
    (h : ∀ A' c' w', w'.ownsRow base e 8 (.slice A' (n + m) c') (n + m) (rowsL (T ++ q)) → Below base w w' → wpList P ops Q rest (a.put o.dst (.slice A' (n + m) c')) w') : wpList P ops Q (o :: rest) a w :=
  wpList_plain hgd fun K hK => by
    obtain ⟨A', c', w', hrun, h2, h3⟩ := run_appE (P := P) base t o.type e i z ht hi hz hsize hby hzs A n c T hown S m k q hl hq h63 hbase
    unfold Oper.wp execOp
    simp only [ho, resolve, invoke, builtin, Sem.run_bind, Sem.run_pure, Result.andThen_ok, List.map_toArray, List.map_cons, List.map_nil, hs, hx, hrun]
    exact hK _ _ (h A' c' w' h2 h3)
end

end Go.Proofs.YthdflbpmabcjlaaDoor.Seg
namespace Go.Proofs.YthdflbpmabcjlaaDoor.Ord
open Go Go.RowKit Go.Proofs.YthdflbpmabcjlaaDoor.Words Go.Proofs.YthdflbpmabcjlaaDoor.Enc Go.Proofs.YthdflbpmabcjlaaDoor.Evt Go.Proofs.YthdflbpmabcjlaaDoor.Seg
set_option linter.unusedVariables false
set_option linter.unusedSimpArgs false

section
variable {α : Type} {le : α → α → Prop}
/-- No place of the first n is ahead of its parent. -/
def Heaped (le : α → α → Prop) (f : Nat → α) (n : Nat) : Prop := ∀ k, 0 < k → k < n → le (f ((k - 1) / 2)) (f k)
def swp (f : Nat → α) (i j : Nat) : Nat → α := fun k => if k = i then f j else if k = j then f i else f k
def UpInv (le : α → α → Prop) (f : Nat → α) (n j : Nat) : Prop :=
  (∀ k, 0 < k → k < n → k ≠ j → le (f ((k - 1) / 2)) (f k)) ∧ (0 < j → ∀ k, 0 < k → k < n → (k - 1) / 2 = j → le (f ((j - 1) / 2)) (f k))
theorem UpInv.stop {f : Nat → α} {n j : Nat} (h : UpInv le f n j) (hs : j = 0 ∨ le (f ((j - 1) / 2)) (f j)) : Heaped le f n := fun k h1 h2 => by
  by_cases e : k = j
  · subst e
    rcases hs with rfl | h
    · omega
    · exact h
  · exact h.1 k h1 h2 e
theorem UpInv.go (tr : ∀ a b c, le a b → le b c → le a c) {f : Nat → α} {n j : Nat} (h : UpInv le f n j) (hj : 0 < j) (hjn : j < n) (hl : le (f j) (f ((j - 1) / 2))) :
    UpInv le (swp f ((j - 1) / 2) j) n ((j - 1) / 2) := by
  generalize hp : (j - 1) / 2 = p at hl ⊢
  have hpj : p < j := by omega
  refine ⟨fun k h1 h2 h3 => ?_, fun h0 k h1 h2 h3 => ?_⟩
  · by_cases e : k = j
    · subst e
      rw [hp]
      simp only [swp, if_pos rfl, if_neg h3]
      simpa using hl
    · have hk := h.1 k h1 h2 e
      by_cases e1 : (k - 1) / 2 = p
      · rw [e1] at hk ⊢
        simp only [swp, if_pos rfl, if_neg h3, if_neg e]
        simpa using tr _ _ _ hl hk
      · by_cases e2 : (k - 1) / 2 = j
        · have := h.2 hj k h1 h2 e2
          rw [hp] at this
          rw [e2]
          simp only [swp, if_neg (show ¬ j = p by omega), if_pos rfl, if_neg h3, if_neg e]
          simpa using this
        · simp only [swp, if_neg e1, if_neg e2, if_neg h3, if_neg e]
          exact hk
  · have hq : ¬ (p - 1) / 2 = p := by omega
    have hq2 : ¬ (p - 1) / 2 = j := by omega
    have hb := h.1 p h0 (by omega) (by omega)
    by_cases e : k = j
    · subst e
      simp only [swp, if_neg hq, if_neg hq2, if_neg (show ¬ k = p by omega), if_pos rfl]
      simpa using hb
    · have hk := h.1 k h1 h2 e
      rw [h3] at hk
      simp only [swp, if_neg hq, if_neg hq2, if_neg (show ¬ k = p by omega), if_neg e]
      exact tr _ _ _ hb hk
def DownInv (le : α → α → Prop) (f : Nat → α) (n i : Nat) : Prop :=
  (∀ k, 0 < k → k < n → (k - 1) / 2 ≠ i → le (f ((k - 1) / 2)) (f k)) ∧ (0 < i → ∀ k, 0 < k → k < n → (k - 1) / 2 = i → le (f ((i - 1) / 2)) (f k))
theorem DownInv.stop {f : Nat → α} {n i : Nat} (h : DownInv le f n i) (hs : ∀ k, 0 < k → k < n → (k - 1) / 2 = i → le (f i) (f k)) : Heaped le f n := fun k h1 h2 => by
  by_cases e : (k - 1) / 2 = i
  · rw [e]; exact hs k h1 h2 e
  · exact h.1 k h1 h2 e
theorem DownInv.go {f : Nat → α} {n i j : Nat} (h : DownInv le f n i) (hj : 0 < j) (hjn : j < n) (hji : (j - 1) / 2 = i) (hl : le (f j) (f i))
    (hm : ∀ k, 0 < k → k < n → (k - 1) / 2 = i → le (f j) (f k)) : DownInv le (swp f i j) n j := by
  have hij : i < j := by omega
  refine ⟨fun k h1 h2 h3 => ?_, fun _ k h1 h2 h3 => ?_⟩
  · by_cases e : k = j
    · subst e
      rw [hji]
      simp only [swp, if_pos rfl, if_neg (show ¬ k = i by omega)]
      simpa using hl
    · by_cases e1 : (k - 1) / 2 = i
      · have := hm k h1 h2 e1
        rw [e1]
        simp only [swp, if_pos rfl, if_neg (show ¬ k = i by omega), if_neg e]
        simpa using this
      · by_cases e2 : k = i
        · subst e2
          have := h.2 h1 j hj hjn hji
          simp only [swp, if_neg (show ¬ (k - 1) / 2 = k by omega), if_neg (show ¬ (k - 1) / 2 = j by omega), if_pos rfl]
          simpa using this
        · simp only [swp, if_neg e1, if_neg h3, if_neg e2, if_neg e]
          exact h.1 k h1 h2 e1
  · have := h.1 k h1 h2 (by omega)
    rw [h3] at this
    rw [hji]
    simp only [swp, if_pos rfl, if_neg (show ¬ k = i by omega), if_neg (show ¬ k = j by omega)]
    simpa using this
theorem Heaped.root (rf : ∀ a, le a a) (tr : ∀ a b c, le a b → le b c → le a c) {f : Nat → α} {n : Nat} (h : Heaped le f n) : ∀ k, k < n → le (f 0) (f k) := by
  intro k
  induction k using Nat.strongRecOn with
  | _ k ih =>
    intro hk
    by_cases e : k = 0
    · subst e; exact rf _
    · exact tr _ _ _ (ih ((k - 1) / 2) (by omega) (by omega)) (h k (by omega) hk)
/-- Two places of a list change. -/
def swL (l : List α) (d : α) (i j : Nat) : List α := (l.set i (l.getD j d)).set j (l.getD i d)
theorem swL_len (l : List α) (d : α) (i j : Nat) : (swL l d i j).length = l.length := by simp [swL]
theorem swL_at (l : List α) (d : α) (i j : Nat) (hi : i < l.length) (hj : j < l.length) (k : Nat) : (swL l d i j).getD k d = swp (fun k => l.getD k d) i j k := by
  unfold swL swp
  by_cases e : k = j
  · subst e
    simp only [List.getD_eq_getElem?_getD, List.getElem?_set, List.length_set]
    rw [if_pos trivial, if_pos hj]
    by_cases e2 : k = i
    · subst e2; simp
    · rw [if_neg e2]; simp
  · by_cases e2 : k = i
    · subst e2
      simp only [List.getD_eq_getElem?_getD, List.getElem?_set, List.length_set]
      rw [if_neg (fun h => e h.symm), if_pos trivial, if_pos hi]
      simp
    · simp only [List.getD_eq_getElem?_getD, List.getElem?_set, List.length_set]
      rw [if_neg (fun h => e h.symm), if_neg (fun h => e2 h.symm), if_neg e2, if_neg e]
theorem swL_perm (l : List α) (d : α) (i j : Nat) (hi : i < l.length) (hj : j < l.length) : (swL l d i j).Perm l := by
  have h := Array.swap_perm (xs := l.toArray) (i := i) (j := j) (by simpa using hi) (by simpa using hj)
  rw [Array.perm_iff_toList_perm, Array.toList_swap] at h
  unfold swL
  simpa [List.getD_eq_getElem?_getD, List.getElem?_eq_getElem hi, List.getElem?_eq_getElem hj] using h
end

/-- An event doesn't stand behind another one. -/
def evLe (a b : EvS) : Prop := a.e.time < b.e.time ∨ (a.e.time = b.e.time ∧ a.e.writer ≤ b.e.writer)
theorem evLe_refl (a : EvS) : evLe a a := .inr ⟨rfl, Int.le_refl _⟩
theorem evLe_trans (a b c : EvS) (h1 : evLe a b) (h2 : evLe b c) : evLe a c := by unfold evLe at *; omega
/-- A list of the heap: where it lies, how much room it has, what it has. -/
structure HV where
  A : Option Addr
  c : Nat
  S : List EvS
instance : Inhabited HV := ⟨⟨none, 0, []⟩⟩
def HV.val (h : HV) : Value := .slice h.A h.S.length h.c
def noEv : EvS := ⟨⟨0, 0, 0, 0, ⟨#[]⟩, [], 0, 0⟩, none, 0, 0⟩
def HV.one (h : HV) : EvS := h.S.headD noEv
def hvLe (a b : HV) : Prop := evLe a.one b.one
theorem hvLe_refl (a : HV) : hvLe a a := evLe_refl _
theorem hvLe_trans (a b c : HV) (h1 : hvLe a b) (h2 : hvLe b c) : hvLe a c := evLe_trans _ _ _ h1 h2
def noHV : HV := ⟨none, 0, []⟩
def HV.at_ (hs : List HV) : Nat → HV := fun k => hs.getD k noHV
/-- A heap of lists that are not empty. -/
structure Heap (hs : List HV) : Prop where
  ord : Heaped hvLe (HV.at_ hs) hs.length
  ne : ∀ h ∈ hs, h.S ≠ []
def flat (hs : List HV) : List EvS := hs.flatMap HV.S
def Rises (l : List EvS) : Prop := l.Pairwise evLe
theorem one_mem {h : HV} (hn : h.S ≠ []) : h.one ∈ h.S := by
  unfold HV.one
  cases hS : h.S with
  | nil => exact absurd hS hn
  | cons a l => exact List.mem_cons_self
/-- The first of the first list is the first of all. -/
theorem Heap.least {hs : List HV} (h : Heap hs) (hr : ∀ x ∈ hs, Rises x.S) : ∀ e ∈ flat hs, evLe (HV.at_ hs 0).one e := by
  intro e he
  obtain ⟨x, hx, hex⟩ := List.mem_flatMap.1 he
  obtain ⟨k, hk, rfl⟩ := List.getElem_of_mem hx
  have h0 := h.ord.root hvLe_refl hvLe_trans k hk
  have hk2 : HV.at_ hs k = hs[k] := by simp [HV.at_, List.getD_eq_getElem?_getD, List.getElem?_eq_getElem hk]
  rw [hk2] at h0
  refine evLe_trans _ _ _ h0 ?_
  have hp := hr _ hx
  unfold Rises at hp
  unfold HV.one
  cases hS : hs[k].S with
  | nil => rw [hS] at hex; cases hex
  | cons a l =>
    rw [hS] at hex hp
    rcases List.mem_cons.1 hex with rfl | hm
    · exact evLe_refl _
    · exact (List.pairwise_cons.1 hp).1 _ hm
end Go.Proofs.YthdflbpmabcjlaaDoor.Ord
namespace Go.Proofs.YthdflbpmabcjlaaDoor.Ord
open Go Go.RowKit Go.Proofs.YthdflbpmabcjlaaDoor.Words Go.Proofs.YthdflbpmabcjlaaDoor.Enc Go.Proofs.YthdflbpmabcjlaaDoor.Evt Go.Proofs.YthdflbpmabcjlaaDoor.Seg
set_option linter.unusedVariables false
set_option linter.unusedSimpArgs false

/-- A list lies below block B. -/
def Lies (B : Nat) (w : World) (h : HV) : Prop := (h.S.length ≤ h.c ∧ h.c ≤ 9223372036854775807) ∧ (0 < h.S.length → ∃ b o, b < B ∧ h.A = some ⟨b, o, none⟩ ∧ ∀ j v, (rowsL h.S)[j]? = some v → w.cell? ⟨b, o + j, none⟩ = some v)
theorem Lies.below {B : Nat} {w w' : World} {h : HV} (hl : Lies B w h) (hb : Below B w w') : Lies B w' h := ⟨hl.1, fun hn => by
  obtain ⟨b, o, h1, h2, h3⟩ := hl.2 hn
  exact ⟨b, o, h1, h2, fun j v hv => by rw [hb.cell h1]; exact h3 j v hv⟩⟩
theorem Lies.raw {B : Nat} {w : World} {h : HV} (hl : Lies B w h) : RawEv w h.A h.S := fun hn => by
  obtain ⟨b, o, h1, h2, h3⟩ := hl.2 hn
  exact ⟨b, o, h2, h3⟩
/-- The blocks that a heap's calls turn: the variable's, the row's. -/
def mine (p : Nat) (A : Option Addr) : List Nat := p :: (A.map fun a => a.block).toList
/-- The variable at block p has the heads hs, in a row of its own above B. -/
structure HeadsAt (B p : Nat) (T : TypeId) (A : Option Addr) (c : Nat) (hs : List HV) (w : World) : Prop where
  box : w.heap[p]? = some (.cells #[.slice A hs.length c] T (0, 0))
  own : w.ownsRow B 34 1 (.slice A hs.length c) hs.length (hs.map HV.val)
  apart : ∀ a, A = some a → a.block ≠ p
  low : B ≤ p
  lie : ∀ h ∈ hs, Lies B w h
theorem HeadsAt.cell {B p : Nat} {T : TypeId} {A : Option Addr} {c : Nat} {hs : List HV} {w : World} (h : HeadsAt B p T A c hs w) : w.cell? ⟨p, 0, none⟩ = some (.slice A hs.length c) := by
  rw [cell_of_row w p _ _ _ _ h.box]; rfl
theorem HeadsAt.below {B p : Nat} {T : TypeId} {A : Option Addr} {c : Nat} {hs : List HV} {w w' : World} (h : HeadsAt B p T A c hs w) (hb : Below w.heap.size w w') : HeadsAt B p T A c hs w' :=
  ⟨(hb.block p (Array.getElem?_eq_some_iff.1 h.box).1).trans h.box, own_below8 h.own hb (Nat.le_refl _), h.apart, h.low, fun x hx => (h.lie x hx).below (hb.mono (by have := h.low; have := (Array.getElem?_eq_some_iff.1 h.box).1; omega))⟩

/-- Does a stand ahead of b? -/
def lessB (a b : EvS) : Bool := decide (cmpS a.e.time a.e.writer b.e.time b.e.writer < 0)
theorem lessB_yes {a b : EvS} (h : lessB a b = true) : evLe a b := by
  have h := of_decide_eq_true h
  unfold cmpS cmpI at h
  unfold evLe
  repeat' split at h
  all_goals omega
theorem lessB_no {a b : EvS} (h : lessB a b = false) : evLe b a := by
  have h := of_decide_eq_false h
  unfold cmpS cmpI at h
  unfold evLe
  repeat' split at h
  all_goals omega

end Go.Proofs.YthdflbpmabcjlaaDoor.Ord
namespace Go.Proofs.YthdflbpmabcjlaaDoor.Ord
open Go Go.RowKit Go.Proofs.YthdflbpmabcjlaaDoor.Words Go.Proofs.YthdflbpmabcjlaaDoor.Enc Go.Proofs.YthdflbpmabcjlaaDoor.Evt Go.Proofs.YthdflbpmabcjlaaDoor.Seg
set_option linter.unusedVariables false
set_option linter.unusedSimpArgs false

theorem at_mem {hs : List HV} {k : Nat} (hk : k < hs.length) : HV.at_ hs k ∈ hs := by
  unfold HV.at_
  rw [List.getD_eq_getElem?_getD, List.getElem?_eq_getElem hk]
  exact List.getElem_mem hk
theorem HeadsAt.get {B p : Nat} {T : TypeId} {A : Option Addr} {c : Nat} {hs : List HV} {w : World} (h : HeadsAt B p T A c hs w) (hn : 0 < hs.length) :
    ∃ g, A = some ⟨g, 0, none⟩ ∧ B ≤ g ∧ g ≠ p ∧ ∀ k, k < hs.length → w.cell? ⟨g, k, none⟩ = some (HV.at_ hs k).val := by
  obtain ⟨g, rfl, hg⟩ := own_at8 h.own hn
  refine ⟨g, rfl, hg, h.apart _ rfl, fun k hk => ?_⟩
  have := h.own.cells (g := g) rfl k (HV.at_ hs k).val (by
    unfold HV.at_
    rw [List.getD_eq_getElem?_getD, List.getElem?_map, List.getElem?_eq_getElem hk]; rfl)
  rw [add_plain] at this
  simpa using this
theorem Lies.first {B : Nat} {w : World} {h : HV} (hl : Lies B w h) (hn : h.S ≠ []) : ∃ b o, b < B ∧ h.A = some ⟨b, o, none⟩ ∧ w.cell? ⟨b, o, none⟩ = some (.int .i64 h.one.e.writer) ∧ w.cell? ⟨b, o + 1, none⟩ = some (.int .u64 (h.one.e.seq : Int)) ∧ w.cell? ⟨b, o + 2, none⟩ = some (.int .u64 (h.one.e.time : Int)) ∧ w.cell? ⟨b, o + 3, none⟩ = some (.int .u8 (h.one.e.kind : Int)) ∧ w.cell? ⟨b, o + 4, none⟩ = some (.string h.one.e.key) ∧ w.cell? ⟨b, o + 5, none⟩ = some (.slice h.one.A h.one.n h.one.c) ∧ w.cell? ⟨b, o + 6, none⟩ = some (.float .f64 h.one.e.num) ∧ w.cell? ⟨b, o + 7, none⟩ = some (.int .i64 h.one.e.node) := by
  have hn' : 0 < h.S.length := by
    cases hS : h.S with
    | nil => exact absurd hS hn
    | cons a l => simp
  obtain ⟨b, o, h1, h2, h3⟩ := hl.2 hn'
  refine ⟨b, o, h1, h2, ?_⟩
  have h0 : h.S[0]? = some h.one := by
    unfold HV.one
    cases hS : h.S with
    | nil => exact absurd hS hn
    | cons a l => simp
  obtain ⟨b', o', e, k⟩ := RawEv.at_ (S := h.S) (A := some ⟨b, o, none⟩) (w := w) (fun _ => ⟨b, o, rfl, h3⟩) h0
  cases e
  simpa using k

end Go.Proofs.YthdflbpmabcjlaaDoor.Ord
namespace Go.Proofs.YthdflbpmabcjlaaDoor.Ord
open Go Go.RowKit Go.Proofs.YthdflbpmabcjlaaDoor.Words Go.Proofs.YthdflbpmabcjlaaDoor.Enc Go.Proofs.YthdflbpmabcjlaaDoor.Evt Go.Proofs.YthdflbpmabcjlaaDoor.Seg
set_option linter.unusedVariables false
set_option linter.unusedSimpArgs false

theorem HeadsAt.set {B p g : Nat} {T : TypeId} {c : Nat} {hs : List HV} {w : World} (h : HeadsAt B p T (some ⟨g, 0, none⟩) c hs w) (k : Nat) (hk : k < hs.length) (x : HV) (hx : Lies B w x) :
    HeadsAt B p T (some ⟨g, 0, none⟩) c (hs.set k x) (w.setCell ⟨g, k, none⟩ x.val) ∧ Below B w (w.setCell ⟨g, k, none⟩ x.val) ∧ (w.setCell ⟨g, k, none⟩ x.val).heap.size = w.heap.size := by
  obtain ⟨hb, ho, ha, hlo, hl⟩ := h
  have hgp : g ≠ p := ha _ rfl
  rcases ho.2 with ⟨hv, h0⟩ | ⟨g', cap, cur, hv, hbg, hh, h1, h2, h3, h4⟩
  · cases hv
  · have hbg' : B ≤ g := by injection hv with e1 _ _; injection e1 with e1; injection e1 with e1; omega
    obtain ⟨rfl, rfl⟩ : g' = g ∧ cap = c := by injection hv with e1 _ e3; injection e1 with e1; injection e1 with e1; exact ⟨e1.symm, e3.symm⟩
    have hB : Below B w (w.setCell ⟨g', k, none⟩ x.val) := (Below.refl B w).setCell hbg' _
    have hs : (w.setCell ⟨g', k, none⟩ x.val).heap.size = w.heap.size := by simp
    refine ⟨⟨?_, ⟨by simp, .inr ⟨g', cap, cur.setIfInBounds k x.val, by simp, hbg, heapSame hh, by simpa using h1, h2, by simpa using h3, ?_⟩⟩, ha, hlo, fun y hy => ?_⟩, hB, hs⟩
    · rw [heapOther hgp.symm]
      simpa using hb
    · rw [Array.toList_setIfInBounds, List.length_set, List.take_set, h4, List.map_set]
    · rcases List.mem_or_eq_of_mem_set hy with hy | rfl
      · exact (hl y hy).below hB
      · exact hx.below hB
theorem HeadsAt.swap {B p g : Nat} {T : TypeId} {c : Nat} {hs : List HV} {w : World} (h : HeadsAt B p T (some ⟨g, 0, none⟩) c hs w) (i j : Nat) (hi : i < hs.length) (hj : j < hs.length) :
    HeadsAt B p T (some ⟨g, 0, none⟩) c (swL hs noHV i j) ((w.setCell ⟨g, i, none⟩ (HV.at_ hs j).val).setCell ⟨g, j, none⟩ (HV.at_ hs i).val) ∧ Below B w ((w.setCell ⟨g, i, none⟩ (HV.at_ hs j).val).setCell ⟨g, j, none⟩ (HV.at_ hs i).val) ∧ ((w.setCell ⟨g, i, none⟩ (HV.at_ hs j).val).setCell ⟨g, j, none⟩ (HV.at_ hs i).val).heap.size = w.heap.size := by
  obtain ⟨h1, h2, h3⟩ := h.set i hi _ (h.lie _ (at_mem hj))
  obtain ⟨k1, k2, k3⟩ := h1.set j (by simpa using hj) (HV.at_ hs i) ((h.lie _ (at_mem hi)).below h2)
  exact ⟨k1, h2.trans k2, k3.trans h3⟩
theorem HeadsAt.drew {B p : Nat} {T : TypeId} {A : Option Addr} {c : Nat} {hs : List HV} {w : World} (h : HeadsAt B p T A c hs w) : HeadsAt B p T A c hs w.drew := h.below (Below.refl _ _).drew
end Go.Proofs.YthdflbpmabcjlaaDoor.Ord
namespace Go.Proofs.YthdflbpmabcjlaaDoor.Ord
open Go Go.RowKit Go.Proofs.YthdflbpmabcjlaaDoor.Words Go.Proofs.YthdflbpmabcjlaaDoor.Enc Go.Proofs.YthdflbpmabcjlaaDoor.Evt Go.Proofs.YthdflbpmabcjlaaDoor.Seg
set_option linter.unusedVariables false
set_option linter.unusedSimpArgs false

@[go_sem] theorem as_list (v : Value) (w : World) : (Instr.typeAssert (.iface 34 v) 20 34 false).run Tryd.prog w = .ok v w := by kernel_rfl
theorem HeadsAt.fin {B p : Nat} {T : TypeId} {A : Option Addr} {c : Nat} {hs : List HV} {w W W2 : World} (h : HeadsAt B p T A c hs w) (hB : B ≤ w.heap.size) (x : HV) (hx : Lies B w x) (hW : Below w.heap.size w W) {g' cap' : Nat}
    (hown : W2.ownsRow B 34 1 (.slice (some ⟨g', 0, none⟩) (hs.length + 1) cap') (hs.length + 1) (hs.map HV.val ++ [x.val])) (hg : W.grownBy W2 (Value.slice A hs.length c).ownBlock) (hat : (Value.slice A hs.length c).ownBlock = some g' ∨ w.heap.size ≤ g') :
    W2.heap[p]? = some (.cells #[.slice A hs.length c] T (0, 0)) ∧ HeadsAt B p T (some ⟨g', 0, none⟩) cap' (hs ++ [x]) (W2.setCell ⟨p, 0, none⟩ (.slice (some ⟨g', 0, none⟩) (hs.length + 1) cap')) ∧ Below B w (W2.setCell ⟨p, 0, none⟩ (.slice (some ⟨g', 0, none⟩) (hs.length + 1) cap')) := by
  have hp := (Array.getElem?_eq_some_iff.1 h.box).1
  have hne : (Value.slice A hs.length c).ownBlock ≠ some p := by
    cases A with
    | none => simp [Value.ownBlock]
    | some a => simpa [Value.ownBlock] using h.apart a rfl
  have hWp := (hW.block p hp).trans h.box
  have h2 : W2.heap[p]? = some (.cells #[.slice A hs.length c] T (0, 0)) := (hg.block p (by have := hW.size; omega) (fun e => hne e.symm)).trans hWp
  have hgp : g' ≠ p := by
    rcases hat with h | h
    · intro e; exact hne (by rw [h, e])
    · omega
  have hlt : ∀ k, (Value.slice A hs.length c).ownBlock = some k → B ≤ k := fun k hk => (h.own.lt k hk).1
  have hb2 : Below B w W2 := (hW.mono hB).trans ((Below.refl B W).grown hg (by have := hW.size; omega) hlt)
  have hb3 : Below B w (W2.setCell ⟨p, 0, none⟩ (.slice (some ⟨g', 0, none⟩) (hs.length + 1) cap')) := hb2.setCell h.low _
  refine ⟨h2, ⟨?_, ?_, fun a ha => by cases ha; exact hgp, h.low, fun y hy => ?_⟩, hb3⟩
  · have := heapSame (i := 0) (v := .slice (some ⟨g', 0, none⟩) (hs.length + 1) cap') h2
    rw [this]
    simp
  · rcases hown.2 with ⟨hv, _⟩ | ⟨g, cap, cur, hv, hbg, hh, r⟩
    · cases hv
    · have e1 : g' = g := by injection hv with e1 _ _; injection e1 with e1; injection e1
      subst e1
      simp only [List.length_append, List.length_cons, List.length_nil, List.map_append, List.map_cons, List.map_nil, Nat.zero_add]
      exact ⟨hown.1, .inr ⟨g', cap, cur, hv, hbg, (heapOther hgp).trans hh, r⟩⟩
  · rcases List.mem_append.1 hy with hy | hy
    · exact (h.lie y hy).below hb3
    · rw [List.mem_singleton.1 hy]; exact hx.below hb3

end Go.Proofs.YthdflbpmabcjlaaDoor.Ord
namespace Go.Proofs.YthdflbpmabcjlaaDoor.Ord
open Go Go.RowKit Go.Proofs.YthdflbpmabcjlaaDoor.Words Go.Proofs.YthdflbpmabcjlaaDoor.Enc Go.Proofs.YthdflbpmabcjlaaDoor.Evt Go.Proofs.YthdflbpmabcjlaaDoor.Seg
set_option linter.unusedVariables false
set_option linter.unusedSimpArgs false

theorem HeadsAt.cut {B p g : Nat} {T : TypeId} {c n : Nat} {hs : List HV} {w : World} (h : HeadsAt B p T (some ⟨g, 0, none⟩) c hs w) (hn : hs.length = n + 1) :
    HeadsAt B p T (some ⟨g, 0, none⟩) c (hs.take n) ((w.drew.setCell ⟨g, n, none⟩ (.slice none 0 0)).setCell ⟨p, 0, none⟩ (.slice (some ⟨g, 0, none⟩) n c)) ∧
    Below B w ((w.drew.setCell ⟨g, n, none⟩ (.slice none 0 0)).setCell ⟨p, 0, none⟩ (.slice (some ⟨g, 0, none⟩) n c)) := by
  have hgp := h.apart _ rfl
  obtain ⟨g', hv, hbg, _⟩ := h.get (by omega)
  injection hv with e1
  injection e1 with e1
  subst e1
  have hB : Below B w ((w.drew.setCell ⟨g, n, none⟩ (.slice none 0 0)).setCell ⟨p, 0, none⟩ (.slice (some ⟨g, 0, none⟩) n c)) := ((Below.refl B w).drew.setCell hbg _).setCell h.low _
  refine ⟨?_, hB⟩
  have hl : (hs.take n).length = n := by rw [List.length_take]; omega
  rcases h.own.2 with ⟨hv, _⟩ | ⟨g', cap, cur, hv, hbg', hh, h1, h2, h3, h4⟩
  · cases hv
  · obtain ⟨rfl, rfl⟩ : g' = g ∧ cap = c := by injection hv with e1 _ e3; injection e1 with e1; injection e1 with e1; exact ⟨e1.symm, e3.symm⟩
    have hx := h.box
    refine ⟨?_, ?_, fun a ha => by cases ha; exact hgp, h.low, fun y hy => (h.lie y (List.mem_of_mem_take hy)).below hB⟩
    · rw [hl]
      have : (w.drew.setCell ⟨g', n, none⟩ (.slice none 0 0)).heap[p]? = some (.cells #[.slice (some ⟨g', 0, none⟩) hs.length cap] T (0, 0)) := (heapOther (Ne.symm hgp)).trans hx
      rw [heapSame this]
      simp
    · rw [hl]
      have hq : ((w.drew.setCell ⟨g', n, none⟩ (.slice none 0 0)).setCell ⟨p, 0, none⟩ (.slice (some ⟨g', 0, none⟩) n cap)).heap[g']? = some (.cells (cur.setIfInBounds n (.slice none 0 0)) 34 (0, 0)) := by
        rw [heapOther hgp]
        exact heapSame (w := w.drew) hh
      refine ⟨by simp; omega, .inr ⟨g', cap, _, rfl, hbg, hq, by omega, h2, by simpa using h3, ?_⟩⟩
      rw [Array.toList_setIfInBounds, Nat.mul_one, List.take_set, List.map_take, ← h4, List.take_take, hn, Nat.mul_one, Nat.min_eq_left (by omega)]
      exact List.set_eq_of_length_le (by rw [List.length_take]; omega)

end Go.Proofs.YthdflbpmabcjlaaDoor.Ord
namespace Go.Proofs.YthdflbpmabcjlaaDoor.Ord
open Go Go.RowKit Go.Proofs.YthdflbpmabcjlaaDoor.Words Go.Proofs.YthdflbpmabcjlaaDoor.Enc Go.Proofs.YthdflbpmabcjlaaDoor.Evt Go.Proofs.YthdflbpmabcjlaaDoor.Seg
set_option linter.unusedVariables false
set_option linter.unusedSimpArgs false

/-- What stands while a heap is mended. -/
structure Mends (B p : Nat) (T : TypeId) (A : Option Addr) (c n : Nat) (hs0 : List HV) (w0 : World) (hs : List HV) (w : World) : Prop where
  at_ : HeadsAt B p T A c hs w
  perm : hs.Perm hs0
  len : hs.length = n
  ne : ∀ x ∈ hs, x.S ≠ []
  below : Below B w0 w
  beside : Beside (mine p A) w0 w
theorem Mends.next {B p : Nat} {T : TypeId} {A : Option Addr} {c n : Nat} {hs0 hs : List HV} {w0 w w' : World} (h : Mends B p T A c n hs0 w0 hs w) (hat : HeadsAt B p T A c hs w') (hb : Below w.heap.size w w') : Mends B p T A c n hs0 w0 hs w' :=
  ⟨hat, h.perm, h.len, h.ne, h.below.trans (hb.mono (by have := h.at_.low; have := (Array.getElem?_eq_some_iff.1 h.at_.box).1; omega)), h.beside.below hb⟩
theorem Mends.swap {B p : Nat} {T : TypeId} {A : Option Addr} {c n : Nat} {hs0 hs : List HV} {w0 w w' : World} (h : Mends B p T A c n hs0 w0 hs w) {i j : Nat} (hi : i < n) (hj : j < n) (hat : HeadsAt B p T A c (swL hs noHV i j) w') (hb : Below B w w') (hbs : Beside (mine p A) w w') : Mends B p T A c n hs0 w0 (swL hs noHV i j) w' :=
  have hp := swL_perm hs noHV i j (by rw [h.len]; exact hi) (by rw [h.len]; exact hj)
  ⟨hat, hp.trans h.perm, by rw [swL_len, h.len], fun x hx => h.ne x (hp.mem_iff.1 hx), h.below.trans hb, h.beside.trans hbs fun x hx => .inl hx⟩
theorem at_swap {hs : List HV} {i j : Nat} (hi : i < hs.length) (hj : j < hs.length) : HV.at_ (swL hs noHV i j) = swp (HV.at_ hs) i j := funext fun k => swL_at hs noHV i j hi hj k

end Go.Proofs.YthdflbpmabcjlaaDoor.Ord
