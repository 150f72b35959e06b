/- The document's fold: its rows in memory; what it is made of. -/
import Derived.Test.YtjceeojbnpcpfaaGreatFolG
import Derived.Test.YtjceeojbnpcpfaaGreatVecAll
import Derived.Laws.OwnMore
import Derived.Lib.SliceRun
namespace Go.Proofs.YtjceeojbnpcpfaaGreat.Fol
open Go Go.RowKit Go.Proofs.YtjceeojbnpcpfaaGreat.Words Go.Proofs.YtjceeojbnpcpfaaGreat.Enc Go.Proofs.YtjceeojbnpcpfaaGreat.Q Go.Proofs.YtjceeojbnpcpfaaGreat.Evt
set_option linter.unusedVariables false
set_option linter.unusedSimpArgs false

/-- Cells behind a slice; they lie outside S. -/
def SeesV (w : World) (S : List Nat) (A : Option Addr) (vs : List Value) : Prop := vs ≠ [] → ∃ b o, A = some ⟨b, o, none⟩ ∧ b ∉ S ∧ ∀ j v, vs[j]? = some v → w.cell? ⟨b, o + j, none⟩ = some v
section
variable {w w' : World} {S : List Nat} {A : Option Addr} {vs : List Value}
theorem SeesV.nil : SeesV w S A [] := fun h => absurd rfl h
theorem SeesV.beside {S1 : List Nat} (h : SeesV w S A vs) (hb : Beside S1 w w') (hS : ∀ x ∈ S1, x ∈ S ∨ w.heap.size ≤ x) : SeesV w' S A vs := fun hn => by
  obtain ⟨b, o, hA, hbS, hc⟩ := h hn
  have hlt : b < w.heap.size := by
    obtain ⟨v, r, rfl⟩ := List.exists_cons_of_ne_nil hn
    exact World.block_lt_of_cell? _ _ (hc 0 v rfl)
  refine ⟨b, o, hA, hbS, fun j v hv => hb.cell (hc j v hv) fun hm => ?_⟩
  rcases hS b hm with h1 | h1
  · exact hbS h1
  · omega
theorem SeesV.below (h : SeesV w S A vs) (hb : Below w.heap.size w w') : SeesV w' S A vs := h.beside (S1 := []) (.of_below hb _) fun x hx => by cases hx
theorem SeesV.wider {S1 : List Nat} (h : SeesV w S A vs) (hS : ∀ x ∈ S1, x ∈ S ∨ w.heap.size ≤ x) : SeesV w S1 A vs := fun hn => by
  obtain ⟨b, o, hA, hbS, hc⟩ := h hn
  have hlt : b < w.heap.size := by
    obtain ⟨v, r, rfl⟩ := List.exists_cons_of_ne_nil hn
    exact World.block_lt_of_cell? _ _ (hc 0 v rfl)
  refine ⟨b, o, hA, fun hm => ?_, hc⟩
  rcases hS b hm with h1 | h1
  · exact hbS h1
  · omega
theorem SeesV.of_own {base : Nat} {e : TypeId} {size n c : Nat} (h : w.ownsRow base e size (.slice A n c) n vs) (hS : ∀ x ∈ S, x < base) : SeesV w S A vs := fun hn => by
  rcases h.2 with ⟨hv, h0⟩ | ⟨g, cap, cur, hv, hg, _⟩
  · subst h0
    have := h.1
    rw [Nat.zero_mul] at this
    exact absurd (List.eq_nil_of_length_eq_zero this) hn
  · injection hv with hA
    subst hA
    exact ⟨g, 0, rfl, fun hm => by have := hS g hm; omega, fun j u hu => by rw [← add_plain]; exact h.cells (g := g) rfl j _ hu⟩
theorem SeesV.take (h : SeesV w S A vs) (k : Nat) : SeesV w S A (vs.take k) := fun hn => by
  obtain ⟨b, o, hA, hbS, hc⟩ := h (fun e => hn (by rw [e]; simp))
  refine ⟨b, o, hA, hbS, fun j v hv => hc j v ?_⟩
  rw [List.getElem?_take] at hv
  split at hv
  · exact hv
  · cases hv
theorem SeesV.drop (h : SeesV w S A vs) (k : Nat) {A' : Option Addr} (hA' : ∀ b o, k < vs.length → A = some ⟨b, o, none⟩ → A' = some ⟨b, o + k, none⟩) : SeesV w S A' (vs.drop k) := fun hn => by
  have hk : k < vs.length := by
    rcases Nat.lt_or_ge k vs.length with h1 | h1
    · exact h1
    · exact absurd (List.drop_eq_nil_of_le h1) hn
  obtain ⟨b, o, hA, hbS, hc⟩ := h (fun e => by rw [e] at hk; simp at hk)
  refine ⟨b, o + k, hA' b o hk hA, hbS, fun j v hv => ?_⟩
  rw [Nat.add_assoc]
  exact hc _ v (by rw [← hv, List.getElem?_drop])
theorem SeesV.get (h : SeesV w S A vs) {j : Nat} {v : Value} (hv : vs[j]? = some v) : ∃ b o, A = some ⟨b, o, none⟩ ∧ w.cell? ⟨b, o + j, none⟩ = some v := by
  obtain ⟨b, o, hA, _, hc⟩ := h (fun e => by rw [e] at hv; cases hv)
  exact ⟨b, o, hA, hc j v hv⟩
end
section
variable {P : Program}
/-- append onto what the call owns, of cells that are seen. -/
theorem run_appV {w : World} {S : List Nat} (base : Nat) (t ty e : TypeId) (i : TypeInfo) (z : Value) (size bytes : Nat) (ht : P.underlying t = some (.slice e)) (hi : P.info? e = some i) (hz : i.zero = some z)
    (hsize : i.size = size) (hby : i.bytes = bytes) (hzs : z.cells.size = size) (hsz : 0 < size)
    (A : Option Addr) (n c : Nat) (xs : List Value) (hown : w.ownsRow base e size (.slice A n c) n xs)
    (B : Option Addr) (m k : Nat) (news : List Value) (hs : SeesV w S B news) (hl : news.length = m * size) (h1 : ∀ u ∈ news, u.oneCell' = true) (h63 : n + m ≤ maxLen) (hbytes : (n + m) * bytes ≤ 140737488355328) (hbase : base ≤ w.heap.size) :
    ∃ A' c' w', (Builtin.append_ #[t, t] ty #[.slice A n c, .slice B m k]).run P w = .ok (.slice A' (n + m) c') w' ∧ w'.ownsRow base e size (.slice A' (n + m) c') (n + m) (xs ++ news) ∧ Below base w w' := by
  cases B with
  | none =>
    have hm : m = 0 := by
      rcases Nat.eq_zero_or_pos m with h0 | h0
      · exact h0
      · have hp : 0 < m * size := Nat.mul_pos h0 hsz
        obtain ⟨b, o, h, _⟩ := hs (fun e => by rw [e] at hl; simp at hl; omega)
        cases h
    subst hm
    have hq : news = [] := List.eq_nil_of_length_eq_zero (by rw [hl, Nat.zero_mul])
    subst hq
    refine ⟨A, c, w, ?_, by simpa using hown, Below.refl _ _⟩
    rcases hown.2 with ⟨hv, rfl⟩ | ⟨g, cap, cur, hv, _, _, hnc, _⟩
    · injection hv with h1 h2 h3
      subst h1; subst h3
      simp [Builtin.append_, run_underlying ht, sizeOf, typeInfo, hi, Builtin.lenOf, Builtin.firstCells]
    · injection hv with h1 h2 h3
      subst h1; subst h3
      simp [Builtin.append_, run_underlying ht, sizeOf, typeInfo, hi, Builtin.lenOf, Builtin.firstCells, hnc, storeCells]
  | some ad =>
    have hcells : ∀ j u, news[j]? = some u → w.cell? (ad.add j) = some u := by
      intro j u hu
      obtain ⟨b, o, h, hc⟩ := hs.get hu
      injection h with h
      subst h
      rw [add_plain]
      exact hc
    obtain ⟨v', w', hrun, h2, h3, _⟩ := run_append_own (P := P) w base t ty e i z size bytes ht hi hz hsize hby hzs hsz (.slice A n c) n xs hown ad m k news hl hcells h1 h63 hbytes hbase
    have hB : Below base w w' := (Below.refl base w).grown h3 hbase fun g hg => (hown.lt g hg).1
    obtain ⟨A', c', rfl⟩ : ∃ A' c', v' = .slice A' (n + m) c' := by
      rcases h2.2 with ⟨rfl, h0⟩ | ⟨g, cap, cur, rfl, _⟩
      · exact ⟨none, 0, by rw [h0]⟩
      · exact ⟨_, cap, rfl⟩
    exact ⟨A', c', w', hrun, h2, hB⟩
theorem wpList_appV {w : World} {ops : Array Oper} {rest : List Oper} {o : Oper} {a : Act} {Q : Exit → Act → World → Prop} {S : List Nat} (hgd : o.guard = none) (s x : Operand) (t : TypeId)
    (ho : o.op = .call { callee := .builtin .append, args := #[s, x], argTypes := #[t, t] })
    (base : Nat) (e : TypeId) (i : TypeInfo) (z : Value) (size bytes : Nat) (ht : P.underlying t = some (.slice e)) (hi : P.info? e = some i) (hz : i.zero = some z)
    (hsize : i.size = size) (hby : i.bytes = bytes) (hzs : z.cells.size = size) (hsz : 0 < size)
    (A : Option Addr) (n c : Nat) (xs : List Value) (hs : a.eval s = .slice A n c) (hown : w.ownsRow base e size (.slice A n c) n xs)
    (B : Option Addr) (m k : Nat) (news : List Value) (hx : a.eval x = .slice B m k) (hq : SeesV w S B news) (hl : news.length = m * size) (h1 : ∀ u ∈ news, u.oneCell' = true) (h63 : n + m ≤ maxLen) (hbytes : (n + m) * bytes ≤ 140737488355328) (hbase : base ≤ w.heap.size)
    (h : ∀ A' c' w', w'.ownsRow base e size (.slice A' (n + m) c') (n + m) (xs ++ news) → Below base w w' → wpList P ops Q rest (a.put o.dst (.slice A' (n + m) c')) w') : wpList P ops Q (o :: rest) a w :=
  wpList_plain hgd fun _ hK => by
    obtain ⟨A', c', w', hrun, h2, h3⟩ := run_appV (P := P) base t o.type e i z size bytes ht hi hz hsize hby hzs hsz A n c xs hown B m k news hq hl h1 h63 hbytes hbase
    unfold Oper.wp execOp
    simp only [ho, resolve, invoke, builtin, Sem.run_bind, Sem.run_pure, Result.andThen_ok, List.map_toArray, List.map_cons, List.map_nil, hs, hx, hrun]
    exact hK _ _ (h A' c' w' h2 h3)
end

/-! ### quantities and truths -/
set_option maxRecDepth 100000 in
/-- The document's plain: some NaN for each. -/
theorem refPlain_any (x : Nat) (w : World) : Calls Tryz.prog 25 #[.float .f64 x] w fun e w' => ∃ r, e = .returned (.float .f64 r) ∧ qb r = qb x ∧ Below w.heap.size w w' := by
  cases hv : void x with
  | true =>
    obtain ⟨r, w1, hrun, hq, hb⟩ := sub_any x x 36 w
    rw [sub_void hv] at hq
    have hne : (FloatKind.f64.format.order x x != some .eq) = true := hv
    have hne2 : (FloatKind.f64.format.order x x == some .eq) = false := by simpa [bne] using hne
    go_enter Tryz.func25, Tryz.ntmps25
    go_wp2
    go_ret
    refine ⟨r, rfl, ?_, hb⟩
    rw [hq]
    simp [ob, qb, hv]
  | false =>
    have hne : (FloatKind.f64.format.order x x != some .eq) = false := hv
    have hne2 : (FloatKind.f64.format.order x x == some .eq) = true := by simpa [bne] using hne
    go_enter Tryz.func25, Tryz.ntmps25
    go_wp2
    go_ret
    exact ⟨x, rfl, rfl, Below.refl _ _⟩
theorem infoBool : (Tryz.prog.info? 4).map (fun i => (i.zero, i.size, i.bytes)) = some (some (.bool false), 1, 1) := by kernel_rfl
theorem bs_one (l : List Bool) : ∀ u ∈ bs l, u.oneCell' = true := by
  intro u hu
  obtain ⟨_, _, rfl⟩ := List.mem_map.1 hu
  rfl
theorem ownsRow_set {w : World} {base : Nat} {e : TypeId} {A : Option Addr} {n c : Nat} {xs : List Value} (h : w.ownsRow base e 1 (.slice A n c) n xs) {i : Nat} (hi : i < n) (v : Value) : ∃ g, A = some ⟨g, 0, none⟩ ∧ base ≤ g ∧ (∃ u, w.cell? ⟨g, i, none⟩ = some u) ∧ w.frozen? ⟨g, i, none⟩ = false ∧
    (w.setCell ⟨g, i, none⟩ v).ownsRow base e 1 (.slice A n c) n (xs.set i v) := by
  have hlen := h.1
  rcases h.2 with ⟨hv, h0⟩ | ⟨g, cap, cur, hv, hg, hh, h1, h2, h3, h4⟩
  · omega
  · injection hv with hA _ hc
    subst hA; subst hc
    have hil : i < cur.size := by omega
    refine ⟨g, rfl, hg, ⟨cur[i], ?_⟩, frozen_row0 hh, ?_⟩
    · rw [cell_of_row w g _ _ _ _ hh, Array.getElem?_eq_getElem hil]
    · refine ⟨by simp [hlen], .inr ⟨g, c, cur.setIfInBounds i v, rfl, hg, heapSame hh, h1, h2, by simpa using h3, ?_⟩⟩
      rw [Array.toList_setIfInBounds, List.take_set, h4]
set_option maxRecDepth 100000 in
set_option maxHeartbeats 1000000 in
/-- One more truth. -/
theorem refSet_any (A : Option Addr) (c : Nat) (l : List Bool) (i : Nat) (S : List Nat) (w : World) (hs : SeesV w S A (bs l)) (hl : l.length = 64) (hi : i < 64) :
    Calls Tryz.prog 28 #[.slice A 64 c, .int .i64 (i : Int)] w fun e w' => ∃ A' c', e = .returned (.slice A' 64 c') ∧ w'.ownsRow w.heap.size 4 1 (.slice A' 64 c') 64 (bs (l.set i true)) ∧ Below w.heap.size w w' := by
  obtain ⟨i0, hi0, hz, hsz, hby⟩ := info_parts infoBool
  have hlen : (bs l).length = 64 * 1 := by simp [bs, hl]
  have hone := bs_one l
  obtain ⟨q, hq⟩ : ∃ q, q = bs l := ⟨_, rfl⟩
  have hset : bs (l.set i true) = q.set i (.bool true) := by rw [hq]; simp [bs]
  rw [← hq] at hs hlen hone
  rw [hset]
  clear hq hset hl
  have hii : (i : Int) < 64 := by omega
  go_enter Tryz.func28, Tryz.ntmps28
  go_wp2_with (first | (at_builtin; refine wpList_appV rfl _ _ 27 rfl w.heap.size 4 i0 (.bool false) 1 1 Tryz.underlying27 hi0 hz hsz hby rfl (by decide) none 0 0 [] rfl (World.ownsRow_nil _ _ _ _) A 64 c q rfl hs hlen hone ?c1 ?c2 (Nat.le_refl _) ?_))
  case c1 => unfold maxLen; omega
  case c2 => omega
  intro A1 c1 w1 hown hb
  obtain ⟨g, rfl, hg, ⟨u, hu⟩, hf, hown2⟩ := ownsRow_set hown hi (.bool true)
  have HO := Lib.hid hown2
  have HB := Lib.hid hb
  clear hown hown2 hb hs hone hlen
  go_wp2
  go_ret
  exact ⟨_, _, rfl, HO.out, HB.out.setCell (by simpa using hg) _⟩
end Go.Proofs.YtjceeojbnpcpfaaGreat.Fol
