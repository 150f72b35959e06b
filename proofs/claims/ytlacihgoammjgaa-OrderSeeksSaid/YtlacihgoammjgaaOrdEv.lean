/- Order: rows of events in memory (as layer 7 has them), and append onto rows of events. -/
import Derived.Test.YtlacihgoammjgaaBEvent
import Derived.Test.YtlacihgoammjgaaBGround
import Derived.Test.YtlacihgoammjgaaBPlain
import Derived.Laws.StructEq
import Derived.Deep.Cut
namespace Go.Proofs.Ytlacihgoammjgaa.Seg
open Go Go.RowKit Go.Proofs.Ytlacihgoammjgaa.Words Go.Proofs.Ytlacihgoammjgaa.Enc Go.Proofs.Ytlacihgoammjgaa.Evt
set_option linter.unusedVariables false

/-- An event as it lies in a row: and where its text lies. -/
structure EvS where
  e : Ev
  A : Option Addr
  n : Nat
  c : Nat
def EvS.cells (r : EvS) : List Value := [.int .i64 r.e.writer, .int .u64 (r.e.seq : Int), .int .u64 (r.e.time : Int), .int .u8 (r.e.kind : Int), .string r.e.key, .slice r.A r.n r.c, .float .f64 r.e.num, .int .i64 r.e.node]
theorem EvS.cells_len (r : EvS) : r.cells.length = 8 := rfl
theorem EvS.one (r : EvS) : ∀ u ∈ r.cells, u.oneCell' = true := by
  intro u hu
  simp only [EvS.cells, List.mem_cons, List.not_mem_nil, or_false] at hu
  rcases hu with rfl | rfl | rfl | rfl | rfl | rfl | rfl | rfl <;> rfl
def rowsL : List EvS → List Value
  | [] => []
  | r :: S => r.cells ++ rowsL S
theorem rowsL_len : ∀ S : List EvS, (rowsL S).length = S.length * 8
  | [] => rfl
  | r :: S => by simp only [rowsL, List.length_append, List.length_cons, rowsL_len S, EvS.cells_len]; omega
theorem rowsL_append : ∀ S T : List EvS, rowsL (S ++ T) = rowsL S ++ rowsL T
  | [], T => rfl
  | r :: S, T => by simp [rowsL, rowsL_append S T]
theorem rowsL_one (S : List EvS) : ∀ u ∈ rowsL S, u.oneCell' = true := by
  induction S with
  | nil => intro u hu; cases hu
  | cons r S ih =>
    intro u hu
    rcases List.mem_append.1 hu with h | h
    · exact r.one u h
    · exact ih u h
theorem rowsL_get : ∀ (S : List EvS) (j k : Nat) (r : EvS), S[j]? = some r → k < 8 → (rowsL S)[8 * j + k]? = r.cells[k]?
  | [], j, k, r, h, _ => by simp at h
  | x :: S, 0, k, r, h, hk => by
    simp at h
    subst h
    rw [rowsL, List.getElem?_append_left (by rw [EvS.cells_len]; omega)]
    simp
  | x :: S, j + 1, k, r, h, hk => by
    rw [rowsL, List.getElem?_append_right (by rw [EvS.cells_len]; omega), EvS.cells_len, show 8 * (j + 1) + k - 8 = 8 * j + k by omega]
    exact rowsL_get S j k r (by simpa using h) hk
theorem rowsL_take : ∀ (S : List EvS) (k j : Nat) (v : Value), (rowsL (S.take k))[j]? = some v → (rowsL S)[j]? = some v
  | [], k, j, v, h => by simpa using h
  | r :: S, 0, j, v, h => by simp [rowsL] at h
  | r :: S, k + 1, j, v, h => by
    rw [List.take_succ_cons, rowsL] at h
    rw [rowsL]
    by_cases hj : j < 8
    · rw [List.getElem?_append_left (by rw [EvS.cells_len]; omega)] at h ⊢
      exact h
    · rw [List.getElem?_append_right (by rw [EvS.cells_len]; omega)] at h ⊢
      exact rowsL_take S k _ v h

/-- Rows of events lie at A. -/
def RawEv (w : World) (A : Option Addr) (S : List EvS) : Prop := 0 < S.length → ∃ b o, A = some ⟨b, o, none⟩ ∧ ∀ j v, (rowsL S)[j]? = some v → w.cell? ⟨b, o + j, none⟩ = some v
theorem RawEv.below {w w' : World} {A : Option Addr} {S : List EvS} (h : RawEv w A S) (hb : Below w.heap.size w w') : RawEv w' A S := by
  intro hn
  obtain ⟨b, o, hA, hc⟩ := h hn
  refine ⟨b, o, hA, fun j v hv => ?_⟩
  have := hc j v hv
  rw [hb.cell (World.block_lt_of_cell? _ _ this)]
  exact this
theorem RawEv.take {w : World} {A : Option Addr} {S : List EvS} (h : RawEv w A S) (k : Nat) : RawEv w A (S.take k) := by
  intro hn
  rw [List.length_take] at hn
  obtain ⟨b, o, hA, hc⟩ := h (by omega)
  exact ⟨b, o, hA, fun j v hv => hc j v (rowsL_take S k j v hv)⟩
theorem RawEv.at_ {w : World} {A : Option Addr} {S : List EvS} (h : RawEv w A S) {j : Nat} {r : EvS} (hj : S[j]? = some r) :
    ∃ b o, A = some ⟨b, o, none⟩ ∧ w.cell? ⟨b, o + 8 * j, none⟩ = some (.int .i64 r.e.writer) ∧ w.cell? ⟨b, o + 8 * j + 1, none⟩ = some (.int .u64 (r.e.seq : Int)) ∧ w.cell? ⟨b, o + 8 * j + 2, none⟩ = some (.int .u64 (r.e.time : Int)) ∧ w.cell? ⟨b, o + 8 * j + 3, none⟩ = some (.int .u8 (r.e.kind : Int)) ∧
      w.cell? ⟨b, o + 8 * j + 4, none⟩ = some (.string r.e.key) ∧ w.cell? ⟨b, o + 8 * j + 5, none⟩ = some (.slice r.A r.n r.c) ∧ w.cell? ⟨b, o + 8 * j + 6, none⟩ = some (.float .f64 r.e.num) ∧ w.cell? ⟨b, o + 8 * j + 7, none⟩ = some (.int .i64 r.e.node) := by
  obtain ⟨b, o, hA, hc⟩ := h (by have := (List.getElem?_eq_some_iff.1 hj).1; omega)
  refine ⟨b, o, hA, ?_, ?_, ?_, ?_, ?_, ?_, ?_, ?_⟩
  · exact hc (8 * j + 0) _ (rowsL_get S j 0 r hj (by omega))
  · exact hc (8 * j + 1) _ (rowsL_get S j 1 r hj (by omega))
  · exact hc (8 * j + 2) _ (rowsL_get S j 2 r hj (by omega))
  · exact hc (8 * j + 3) _ (rowsL_get S j 3 r hj (by omega))
  · exact hc (8 * j + 4) _ (rowsL_get S j 4 r hj (by omega))
  · exact hc (8 * j + 5) _ (rowsL_get S j 5 r hj (by omega))
  · exact hc (8 * j + 6) _ (rowsL_get S j 6 r hj (by omega))
  · exact hc (8 * j + 7) _ (rowsL_get S j 7 r hj (by omega))

def TextOk (B : List Nat) (w : World) (r : EvS) : Prop := Sees w r.A r.n r.e.text ∧ r.n ≤ r.c ∧ r.c ≤ 9223372036854775807 ∧ Out B r.A r.n
/-- The slice of n events at A shows R; it and the texts lie outside B. -/
def SeesEv (B : List Nat) (w : World) (A : Option Addr) (n : Nat) (R : List Ev) : Prop :=
  ∃ S : List EvS, S.map EvS.e = R ∧ S.length = n ∧ RawEv w A S ∧ Out B A n ∧ ∀ r ∈ S, TextOk B w r
theorem SeesEv.nil (B : List Nat) (w : World) (A : Option Addr) : SeesEv B w A 0 [] := ⟨[], rfl, rfl, fun h => absurd h (by simp), fun h => absurd h (by omega), fun r hr => by cases hr⟩
theorem SeesEv.len {B : List Nat} {w : World} {A : Option Addr} {n : Nat} {R : List Ev} (h : SeesEv B w A n R) : R.length = n := by
  obtain ⟨S, h1, h2, _⟩ := h
  rw [← h1, List.length_map, h2]
theorem TextOk.next {B B' : List Nat} {w w' : World} {r : EvS} (h : TextOk B w r) (hb : Beside B w w') (hB : ∀ k ∈ B', k ∈ B ∨ w.heap.size ≤ k) : TextOk B' w' r :=
  ⟨h.1.beside hb h.2.2.2, h.2.1, h.2.2.1, Out.next h.2.2.2 h.1 hB⟩
theorem SeesEv.next {B B' : List Nat} {w w' : World} {A : Option Addr} {n : Nat} {R : List Ev} (h : SeesEv B w A n R) (hb : Beside B w w') (hB : ∀ k ∈ B', k ∈ B ∨ w.heap.size ≤ k) : SeesEv B' w' A n R := by
  obtain ⟨S, h1, h2, h3, h4, h5⟩ := h
  refine ⟨S, h1, h2, fun hn => ?_, fun hn a ha hm => ?_, fun r hr => (h5 r hr).next hb hB⟩
  · obtain ⟨b, o, rfl, hc⟩ := h3 hn
    exact ⟨b, o, rfl, fun j v hv => hb.cell (hc j v hv) (h4 (by omega) ⟨b, o, none⟩ rfl)⟩
  · obtain ⟨b, o, rfl, hc⟩ := h3 (by omega)
    cases ha
    rcases hB _ hm with h | h
    · exact h4 hn _ rfl h
    · have h0 : 0 < (rowsL S).length := by rw [rowsL_len]; omega
      have := World.block_lt_of_cell? _ _ (hc 0 (rowsL S)[0] (List.getElem?_eq_getElem h0))
      simp at this h
      omega
theorem SeesEv.below {B : List Nat} {w w' : World} {A : Option Addr} {n : Nat} {R : List Ev} (h : SeesEv B w A n R) (hb : Below w.heap.size w w') : SeesEv B w' A n R :=
  h.next (Beside.of_below hb B) fun k hk => .inl hk
theorem SeesEv.take {B : List Nat} {w : World} {A : Option Addr} {n : Nat} {R : List Ev} (h : SeesEv B w A n R) {k : Nat} (hk : k ≤ n) : SeesEv B w A k (R.take k) := by
  obtain ⟨S, h1, h2, h3, h4, h5⟩ := h
  refine ⟨S.take k, by rw [List.map_take, h1], by rw [List.length_take]; omega, h3.take k, fun hn => h4 (by omega), fun r hr => h5 r (List.mem_of_mem_take hr)⟩
theorem SeesEv.get {B : List Nat} {w : World} {A : Option Addr} {n : Nat} {R : List Ev} (h : SeesEv B w A n R) {j : Nat} (hj : j < n) :
    ∃ (b o : Nat) (r : EvS), A = some ⟨b, o, none⟩ ∧ R[j]? = some r.e ∧ TextOk B w r ∧ w.cell? ⟨b, o + 8 * j, none⟩ = some (.int .i64 r.e.writer) ∧ w.cell? ⟨b, o + 8 * j + 1, none⟩ = some (.int .u64 (r.e.seq : Int)) ∧ w.cell? ⟨b, o + 8 * j + 2, none⟩ = some (.int .u64 (r.e.time : Int)) ∧ w.cell? ⟨b, o + 8 * j + 3, none⟩ = some (.int .u8 (r.e.kind : Int)) ∧
      w.cell? ⟨b, o + 8 * j + 4, none⟩ = some (.string r.e.key) ∧ w.cell? ⟨b, o + 8 * j + 5, none⟩ = some (.slice r.A r.n r.c) ∧ w.cell? ⟨b, o + 8 * j + 6, none⟩ = some (.float .f64 r.e.num) ∧ w.cell? ⟨b, o + 8 * j + 7, none⟩ = some (.int .i64 r.e.node) := by
  obtain ⟨S, h1, h2, h3, h4, h5⟩ := h
  have hj' : j < S.length := by omega
  obtain ⟨b, o, hA, hc⟩ := h3.at_ (List.getElem?_eq_getElem hj')
  exact ⟨b, o, S[j], hA, by rw [← h1, List.getElem?_map, List.getElem?_eq_getElem hj']; rfl, h5 _ (List.getElem_mem hj'), hc⟩
/-- What is owned above all of B. -/
theorem RawEv.of_own {w : World} {base : Nat} {A : Option Addr} {n c : Nat} {S : List EvS} (h : w.ownsRow base 34 8 (.slice A n c) n (rowsL S)) : RawEv w A S := by
  intro hn
  have hl := h.1
  rw [rowsL_len] at hl
  rcases h.2 with ⟨hv, h0⟩ | ⟨g, cap, cur, hv, _⟩
  · omega
  · injection hv with hA
    subst hA
    exact ⟨g, 0, rfl, fun j v hv => by rw [← add_plain]; exact h.cells (g := g) rfl j _ hv⟩
theorem own_at8 {w : World} {base size : Nat} {e : TypeId} {A : Option Addr} {n c : Nat} {xs : List Value} (h : w.ownsRow base e size (.slice A n c) n xs) (hn : 0 < n) : ∃ g, A = some ⟨g, 0, none⟩ ∧ base ≤ g := by
  rcases h.2 with ⟨hv, rfl⟩ | ⟨g, cap, cur, hv, hb, _⟩
  · omega
  · injection hv with h1
    exact ⟨g, h1, hb⟩
theorem own_cap8 {w : World} {base size : Nat} {e : TypeId} {A : Option Addr} {n c : Nat} {xs : List Value} (h : w.ownsRow base e size (.slice A n c) n xs) : n ≤ c ∧ c ≤ 9223372036854775807 := by
  rcases h.2 with ⟨hv, rfl⟩ | ⟨g, cap, cur, hv, _, _, hc, hm, _⟩
  · injection hv with _ _ h3
    omega
  · injection hv with _ _ h3
    subst h3
    unfold maxLen at hm
    omega
theorem own_below8 {w w' : World} {base B size : Nat} {e : TypeId} {v : Value} {n : Nat} {xs : List Value} (h : w.ownsRow base e size v n xs) (hb : Below B w w') (hB : w.heap.size ≤ B) : w'.ownsRow base e size v n xs := by
  refine ⟨h.1, ?_⟩
  rcases h.2 with hn | ⟨g, cap, cur, hv, hg, hh, r⟩
  · exact .inl hn
  · exact .inr ⟨g, cap, cur, hv, hg, by rw [hb.block g (by have := (Array.getElem?_eq_some_iff.1 hh).1; omega)]; exact hh, r⟩
theorem own_shape8 {w : World} {base size : Nat} {e : TypeId} {v : Value} {n : Nat} {xs : List Value} (h : w.ownsRow base e size v n xs) : ∃ A c, v = .slice A n c ∧ n ≤ c := by
  rcases h.2 with ⟨rfl, rfl⟩ | ⟨g, cap, cur, rfl, _, _, hc, _⟩
  · exact ⟨none, 0, rfl, Nat.le_refl _⟩
  · exact ⟨_, cap, rfl, hc⟩
theorem SeesEv.of_own {B : List Nat} {w : World} {base : Nat} {A : Option Addr} {n c : Nat} {S : List EvS} (h : w.ownsRow base 34 8 (.slice A n c) n (rowsL S)) (hB : ∀ k ∈ B, k < base) (ht : ∀ r ∈ S, TextOk B w r) : SeesEv B w A n (S.map EvS.e) := by
  have hl := h.1
  rw [rowsL_len] at hl
  refine ⟨S, rfl, by omega, RawEv.of_own h, fun hn a ha hm => ?_, ht⟩
  obtain ⟨g, rfl, hg⟩ := own_at8 h hn
  cases ha
  have := hB _ hm
  simp at this
  omega
end Go.Proofs.Ytlacihgoammjgaa.Seg

/- slices.Grow of nil, Concat and Clip of events; append of events: their contracts. -/
namespace Go.Proofs.Ytlacihgoammjgaa.Seg
open Go Go.RowKit Go.Proofs.Ytlacihgoammjgaa.Words Go.Proofs.Ytlacihgoammjgaa.Enc Go.Proofs.Ytlacihgoammjgaa.Evt Go.Proofs.Ytlacihgoammjgaa.Made
set_option linter.unusedVariables false

def zeroEv : Value := .agg #[.int .i64 0, .int .u64 0, .int .u64 0, .int .u8 0, .string ⟨#[]⟩, .slice none 0 0, .float .f64 0, .int .i64 0]
theorem infoE : (Try.prog.info? 34).map (fun i => (i.zero, i.size, i.bytes)) = some (some zeroEv, 8, 88) := by kernel_rfl
theorem zeroEv_cells : zeroEv.cells.size = 8 := rfl
theorem own_nil8 (w : World) (base : Nat) (e : TypeId) : w.ownsRow base e 8 (.slice none 0 0) 0 (rowsL []) := World.ownsRow_nil w base e 8

section
variable {P : Program}
/-- append of events onto a row that the call owns. -/
theorem run_appE {w : World} (base : Nat) (t ty e : TypeId) (i : TypeInfo) (z : Value) (ht : P.underlying t = some (.slice e)) (hi : P.info? e = some i) (hz : i.zero = some z)
    (hsize : i.size = 8) (hby : i.bytes = 88) (hzs : z.cells.size = 8)
    (A : Option Addr) (n c : Nat) (T : List EvS) (hown : w.ownsRow base e 8 (.slice A n c) n (rowsL T))
    (S : Option Addr) (m k : Nat) (q : List EvS) (hq : q.length = m) (hs : RawEv w S q) (h63 : n + m ≤ 1000000000000) (hbase : base ≤ w.heap.size) :
    ∃ A' c' w', (Builtin.append_ #[t, t] ty #[.slice A n c, .slice S m k]).run P w = .ok (.slice A' (n + m) c') w' ∧ w'.ownsRow base e 8 (.slice A' (n + m) c') (n + m) (rowsL (T ++ q)) ∧ Below base w w' := by
  have hmx : n + m ≤ maxLen := by unfold maxLen; omega
  cases S with
  | none =>
    have hm : m = 0 := by
      rcases Nat.eq_zero_or_pos m with h0 | h0
      · exact h0
      · obtain ⟨b, o, h, _⟩ := hs (by omega)
        cases h
    subst hm
    have hq0 : q = [] := List.eq_nil_of_length_eq_zero hq
    subst hq0
    refine ⟨A, c, w, ?_, by simpa using hown, Below.refl _ _⟩
    rcases hown.2 with ⟨hv, rfl⟩ | ⟨g, cap, cur, hv, _, _, hnc, _⟩
    · injection hv with h1 h2 h3
      subst h1; subst h3
      simp [Builtin.append_, run_underlying ht, sizeOf, typeInfo, hi, Builtin.lenOf, Builtin.firstCells]
    · injection hv with h1 h2 h3
      subst h1; subst h3
      simp [Builtin.append_, run_underlying ht, sizeOf, typeInfo, hi, Builtin.lenOf, Builtin.firstCells, hnc, storeCells]
  | some ad =>
    have hcells : ∀ j u, (rowsL q)[j]? = some u → w.cell? (ad.add j) = some u := by
      intro j u hu
      have hj : j < (rowsL q).length := (List.getElem?_eq_some_iff.1 hu).1
      rw [rowsL_len] at hj
      obtain ⟨b, o, h, hc⟩ := hs (by omega)
      injection h with h
      subst h
      rw [add_plain]
      exact hc j u hu
    obtain ⟨v', w', hrun, h2, h3, _⟩ := run_append_own (P := P) w base t ty e i z 8 88 ht hi hz hsize hby hzs (by decide) (.slice A n c) n (rowsL T) hown ad m k (rowsL q) (by rw [rowsL_len, hq]) hcells (rowsL_one q) hmx (by omega) hbase
    rw [← rowsL_append] at h2
    have hlt : ∀ g, Value.ownBlock (.slice A n c) = some g → base ≤ g := fun g hg => (hown.lt g hg).1
    have hB : Below base w w' := (Below.refl base w).grown h3 hbase hlt
    obtain ⟨A', c', rfl⟩ : ∃ A' c', v' = .slice A' (n + m) c' := by
      rcases h2.2 with ⟨rfl, h0⟩ | ⟨g, cap, cur, rfl, _⟩
      · exact ⟨none, 0, by rw [h0]⟩
      · exact ⟨_, cap, rfl⟩
    exact ⟨A', c', w', hrun, h2, hB⟩

theorem wpList_appE {w : World} {ops : Array Oper} {rest : List Oper} {o : Oper} {a : Act} {Q : Exit → Act → World → Prop} (hgd : o.guard = none) (s x : Operand) (t : TypeId)
    (ho : o.op = .call { callee := .builtin .append, args := #[s, x], argTypes := #[t, t] })
    (base : Nat) (e : TypeId) (i : TypeInfo) (z : Value) (ht : P.underlying t = some (.slice e)) (hi : P.info? e = some i) (hz : i.zero = some z)
    (hsize : i.size = 8) (hby : i.bytes = 88) (hzs : z.cells.size = 8)
    (A : Option Addr) (n c : Nat) (T : List EvS) (hs : a.eval s = .slice A n c) (hown : w.ownsRow base e 8 (.slice A n c) n (rowsL T))
    (S : Option Addr) (m k : Nat) (q : List EvS) (hx : a.eval x = .slice S m k) (hl : q.length = m) (hq : RawEv w S q) (h63 : n + m ≤ 1000000000000) (hbase : base ≤ w.heap.size)
    (h : ∀ A' c' w', w'.ownsRow base e 8 (.slice A' (n + m) c') (n + m) (rowsL (T ++ q)) → Below base w w' → wpList P ops Q rest (a.put o.dst (.slice A' (n + m) c')) w') : wpList P ops Q (o :: rest) a w :=
  wpList_plain hgd fun K hK => by
    obtain ⟨A', c', w', hrun, h2, h3⟩ := run_appE (P := P) base t o.type e i z ht hi hz hsize hby hzs A n c T hown S m k q hl hq h63 hbase
    unfold Oper.wp execOp
    simp only [ho, resolve, invoke, builtin, Sem.run_bind, Sem.run_pure, Result.andThen_ok, List.map_toArray, List.map_cons, List.map_nil, hs, hx, hrun]
    exact hK _ _ (h A' c' w' h2 h3)
end

end Go.Proofs.Ytlacihgoammjgaa.Seg
