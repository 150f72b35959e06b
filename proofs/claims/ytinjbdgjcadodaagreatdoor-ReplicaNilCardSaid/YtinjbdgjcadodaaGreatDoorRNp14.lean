/- Texts of the law ReplicaNil, put together. -/
import Derived.Laws.StructEq
import Derived.Deep.Cut
import Derived.Test.YtinjbdgjcadodaaGreatDoorRNp01
import Derived.Test.YtinjbdgjcadodaaGreatDoorRNp03
import Derived.Test.YtinjbdgjcadodaaGreatDoorRNp05
import Derived.Test.YtinjbdgjcadodaaGreatDoorRNp09
import Derived.Test.YtinjbdgjcadodaaGreatDoorRNp13
set_option linter.unusedVariables false
set_option linter.unusedSimpArgs false
set_option maxRecDepth 100000
namespace Go.Proofs.YtinjbdgjcadodaaGreatDoor.Seg
open Go Go.RowKit Words Enc Evt
structure EvS where
 e : Ev
 A : Option Addr
 n : Nat
 c : Nat
def EvS.cells (r : EvS) : List Value := [.int .i64 r.e.writer, .int .u64 (r.e.seq : Int), .int .u64 (r.e.time : Int), .int .u8 (r.e.kind : Int), .string r.e.key, .slice r.A r.n r.c, .float .f64 r.e.num, .int .i64 r.e.node]
theorem EvS.cells_len (r : EvS) : r.cells.length = 8 := rfl
theorem EvS.one (r : EvS) : ∀ u ∈ r.cells, u.oneCell' = true := by
 intro u hu
 simp only [EvS.cells, List.mem_cons, List.not_mem_nil, or_false] at hu
 rcases hu with rfl | rfl | rfl | rfl | rfl | rfl | rfl | rfl <;> rfl
def rowsL : List EvS → List Value
 | [] => []
 | r :: S => r.cells ++ rowsL S
theorem rowsL_len : ∀ S : List EvS, (rowsL S).length = S.length * 8
 | [] => rfl
 | r :: S => by simp only [rowsL, List.length_append, List.length_cons, rowsL_len S, EvS.cells_len]; omega
theorem rowsL_append : ∀ S T : List EvS, rowsL (S ++ T) = rowsL S ++ rowsL T
 | [], T => rfl
 | r :: S, T => by simp [rowsL, rowsL_append S T]
theorem rowsL_one (S : List EvS) : ∀ u ∈ rowsL S, u.oneCell' = true := by
 induction S with
 | nil => intro u hu; cases hu
 | cons r S ih =>
   intro u hu
   rcases List.mem_append.1 hu with h | h
   ·exact r.one u h
   ·exact ih u h
theorem rowsL_get : ∀ (S : List EvS) (j k : Nat) (r : EvS), S[j]? = some r → k < 8 → (rowsL S)[8 * j + k]? = r.cells[k]?
 | [], j, k, r, h, _ => by simp at h
 | x :: S, 0, k, r, h, hk => by
   simp at h
   subst h
   rw [rowsL, List.getElem?_append_left (by rw [EvS.cells_len]; omega)]
   simp
 | x :: S, j + 1, k, r, h, hk => by
   rw [rowsL, List.getElem?_append_right (by rw [EvS.cells_len]; omega), EvS.cells_len, show 8 * (j + 1) + k - 8 = 8 * j + k by omega]
   exact rowsL_get S j k r (by simpa using h) hk
theorem rowsL_take : ∀ (S : List EvS) (k j : Nat) (v : Value), (rowsL (S.take k))[j]? = some v → (rowsL S)[j]? = some v
 | [], k, j, v, h => by simpa using h
 | r :: S, 0, j, v, h => by simp [rowsL] at h
 | r :: S, k + 1, j, v, h => by
   rw [List.take_succ_cons, rowsL] at h
   rw [rowsL]
   by_cases hj : j < 8
   ·rw [List.getElem?_append_left (by rw [EvS.cells_len]; omega)] at h ⊢
    exact h
   ·rw [List.getElem?_append_right (by rw [EvS.cells_len]; omega)] at h ⊢
    exact rowsL_take S k _ v h
def RawEv (w : World) (A : Option Addr) (S : List EvS) : Prop := 0 < S.length → ∃ b o, A = some ⟨b, o, none⟩ ∧ ∀ j v, (rowsL S)[j]? = some v → w.cell? ⟨b, o + j, none⟩ = some v
theorem RawEv.below {w w' : World} {A : Option Addr} {S : List EvS} (h : RawEv w A S) (hb : Below w.heap.size w w') : RawEv w' A S := by
 intro hn
 obtain ⟨b, o, hA, hc⟩ := h hn
 refine ⟨b, o, hA, fun j v hv => ?_⟩
 have := hc j v hv
 rw [hb.cell (World.block_lt_of_cell? _ _ this)]
 exact this
theorem RawEv.take {w : World} {A : Option Addr} {S : List EvS} (h : RawEv w A S) (k : Nat) : RawEv w A (S.take k) := by
 intro hn
 rw [List.length_take] at hn
 obtain ⟨b, o, hA, hc⟩ := h (by omega)
 exact ⟨b, o, hA, fun j v hv => hc j v (rowsL_take S k j v hv)⟩
theorem RawEv.at_ {w : World} {A : Option Addr} {S : List EvS} (h : RawEv w A S) {j : Nat} {r : EvS} (hj : S[j]? = some r) :
  ∃ b o, A = some ⟨b, o, none⟩ ∧ w.cell? ⟨b, o + 8 * j, none⟩ = some (.int .i64 r.e.writer) ∧ w.cell? ⟨b, o + 8 * j + 1, none⟩ = some (.int .u64 (r.e.seq : Int)) ∧ w.cell? ⟨b, o + 8 * j + 2, none⟩ = some (.int .u64 (r.e.time : Int)) ∧ w.cell? ⟨b, o + 8 * j + 3, none⟩ = some (.int .u8 (r.e.kind : Int)) ∧
    w.cell? ⟨b, o + 8 * j + 4, none⟩ = some (.string r.e.key) ∧ w.cell? ⟨b, o + 8 * j + 5, none⟩ = some (.slice r.A r.n r.c) ∧ w.cell? ⟨b, o + 8 * j + 6, none⟩ = some (.float .f64 r.e.num) ∧ w.cell? ⟨b, o + 8 * j + 7, none⟩ = some (.int .i64 r.e.node) := by
 obtain ⟨b, o, hA, hc⟩ := h (by have := (List.getElem?_eq_some_iff.1 hj).1; omega)
 refine ⟨b, o, hA, ?_, ?_, ?_, ?_, ?_, ?_, ?_, ?_⟩
 ·exact hc (8 * j + 0) _ (rowsL_get S j 0 r hj (by omega))
 ·exact hc (8 * j + 1) _ (rowsL_get S j 1 r hj (by omega))
 ·exact hc (8 * j + 2) _ (rowsL_get S j 2 r hj (by omega))
 ·exact hc (8 * j + 3) _ (rowsL_get S j 3 r hj (by omega))
 ·exact hc (8 * j + 4) _ (rowsL_get S j 4 r hj (by omega))
 ·exact hc (8 * j + 5) _ (rowsL_get S j 5 r hj (by omega))
 ·exact hc (8 * j + 6) _ (rowsL_get S j 6 r hj (by omega))
 ·exact hc (8 * j + 7) _ (rowsL_get S j 7 r hj (by omega))
def TextOk (B : List Nat) (w : World) (r : EvS) : Prop := Sees w r.A r.n r.e.text ∧ r.n ≤ r.c ∧ r.c ≤ 9223372036854775807 ∧ Out B r.A r.n
def SeesEv (B : List Nat) (w : World) (A : Option Addr) (n : Nat) (R : List Ev) : Prop :=
 ∃ S : List EvS, S.map EvS.e = R ∧ S.length = n ∧ RawEv w A S ∧ Out B A n ∧ ∀ r ∈ S, TextOk B w r
theorem SeesEv.nil (B : List Nat) (w : World) (A : Option Addr) : SeesEv B w A 0 [] := ⟨[], rfl, rfl, fun h => absurd h (by simp), fun h => absurd h (by omega), fun r hr => by cases hr⟩
theorem TextOk.next {B B' : List Nat} {w w' : World} {r : EvS} (h : TextOk B w r) (hb : Beside B w w') (hB : ∀ k ∈ B', k ∈ B ∨ w.heap.size ≤ k) : TextOk B' w' r :=
 ⟨h.1.beside hb h.2.2.2, h.2.1, h.2.2.1, Out.next h.2.2.2 h.1 hB⟩
theorem SeesEv.next {B B' : List Nat} {w w' : World} {A : Option Addr} {n : Nat} {R : List Ev} (h : SeesEv B w A n R) (hb : Beside B w w') (hB : ∀ k ∈ B', k ∈ B ∨ w.heap.size ≤ k) : SeesEv B' w' A n R := by
 obtain ⟨S, h1, h2, h3, h4, h5⟩ := h
 refine ⟨S, h1, h2, fun hn => ?_, fun hn a ha hm => ?_, fun r hr => (h5 r hr).next hb hB⟩
 ·obtain ⟨b, o, rfl, hc⟩ := h3 hn
  exact ⟨b, o, rfl, fun j v hv => hb.cell (hc j v hv) (h4 (by omega) ⟨b, o, none⟩ rfl)⟩
 ·obtain ⟨b, o, rfl, hc⟩ := h3 (by omega)
  cases ha
  rcases hB _ hm with h | h
  ·exact h4 hn _ rfl h
  ·have h0 : 0 < (rowsL S).length := by rw [rowsL_len]; omega
   have := World.block_lt_of_cell? _ _ (hc 0 (rowsL S)[0] (List.getElem?_eq_getElem h0))
   simp at this h
   omega
theorem SeesEv.below {B : List Nat} {w w' : World} {A : Option Addr} {n : Nat} {R : List Ev} (h : SeesEv B w A n R) (hb : Below w.heap.size w w') : SeesEv B w' A n R :=
 h.next (Beside.of_below hb B) fun k hk => .inl hk
theorem RawEv.of_own {w : World} {base : Nat} {A : Option Addr} {n c : Nat} {S : List EvS} (h : w.ownsRow base 38 8 (.slice A n c) n (rowsL S)) : RawEv w A S := by
 intro hn
 have hl := h.1
 rw [rowsL_len] at hl
 rcases h.2 with ⟨hv, h0⟩ | ⟨g, cap, cur, hv, _⟩
 ·omega
 ·injection hv with hA
  subst hA
  exact ⟨g, 0, rfl, fun j v hv => by rw [← add_plain]; exact h.cells (g := g) rfl j _ hv⟩
theorem own_at8 {w : World} {base size : Nat} {e : TypeId} {A : Option Addr} {n c : Nat} {xs : List Value} (h : w.ownsRow base e size (.slice A n c) n xs) (hn : 0 < n) : ∃ g, A = some ⟨g, 0, none⟩ ∧ base ≤ g := by
 rcases h.2 with ⟨hv, rfl⟩ | ⟨g, cap, cur, hv, hb, _⟩
 ·omega
 ·injection hv with h1
  exact ⟨g, h1, hb⟩
theorem own_cap8 {w : World} {base size : Nat} {e : TypeId} {A : Option Addr} {n c : Nat} {xs : List Value} (h : w.ownsRow base e size (.slice A n c) n xs) : n ≤ c ∧ c ≤ 9223372036854775807 := by
 rcases h.2 with ⟨hv, rfl⟩ | ⟨g, cap, cur, hv, _, _, hc, hm, _⟩
 ·injection hv with _ _ h3
  omega
 ·injection hv with _ _ h3
  subst h3
  unfold maxLen at hm
  omega
theorem own_below8 {w w' : World} {base B size : Nat} {e : TypeId} {v : Value} {n : Nat} {xs : List Value} (h : w.ownsRow base e size v n xs) (hb : Below B w w') (hB : w.heap.size ≤ B) : w'.ownsRow base e size v n xs := by
 refine ⟨h.1, ?_⟩
 rcases h.2 with hn | ⟨g, cap, cur, hv, hg, hh, r⟩
 ·exact .inl hn
 ·exact .inr ⟨g, cap, cur, hv, hg, by rw [hb.block g (by have := (Array.getElem?_eq_some_iff.1 hh).1; omega)]; exact hh, r⟩
theorem own_shape8 {w : World} {base size : Nat} {e : TypeId} {v : Value} {n : Nat} {xs : List Value} (h : w.ownsRow base e size v n xs) : ∃ A c, v = .slice A n c ∧ n ≤ c := by
 rcases h.2 with ⟨rfl, rfl⟩ | ⟨g, cap, cur, rfl, _, _, hc, _⟩
 ·exact ⟨none, 0, rfl, Nat.le_refl _⟩
 ·exact ⟨_, cap, rfl, hc⟩
theorem SeesEv.of_own {B : List Nat} {w : World} {base : Nat} {A : Option Addr} {n c : Nat} {S : List EvS} (h : w.ownsRow base 38 8 (.slice A n c) n (rowsL S)) (hB : ∀ k ∈ B, k < base) (ht : ∀ r ∈ S, TextOk B w r) : SeesEv B w A n (S.map EvS.e) := by
 have hl := h.1
 rw [rowsL_len] at hl
 refine ⟨S, rfl, by omega, RawEv.of_own h, fun hn a ha hm => ?_, ht⟩
 obtain ⟨g, rfl, hg⟩ := own_at8 h hn
 cases ha
 have := hB _ hm
 simp at this
 omega
end Go.Proofs.YtinjbdgjcadodaaGreatDoor.Seg
namespace Go.Proofs.YtinjbdgjcadodaaGreatDoor.Seg
open Go Go.RowKit Words Enc Evt Go.Proofs.YtinjbdgjcadodaaGreatDoor.Made
def zeroEv : Value := .agg #[.int .i64 0, .int .u64 0, .int .u64 0, .int .u8 0, .string ⟨#[]⟩, .slice none 0 0, .float .f64 0, .int .i64 0]
theorem infoE : (Tryz.prog.info? 38).map (fun i => (i.zero, i.size, i.bytes)) = some (some zeroEv, 8, 88) := by kernel_rfl
theorem zeroEv_cells : zeroEv.cells.size = 8 := rfl
theorem own_nil8 (w : World) (base : Nat) (e : TypeId) : w.ownsRow base e 8 (.slice none 0 0) 0 (rowsL []) := World.ownsRow_nil w base e 8
section
variable {P : Program}
theorem run_appE {w : World} (base : Nat) (t ty e : TypeId) (i : TypeInfo) (z : Value) (ht : P.underlying t = some (.slice e)) (hi : P.info? e = some i) (hz : i.zero = some z)
  (hsize : i.size = 8) (hby : i.bytes = 88) (hzs : z.cells.size = 8)
  (A : Option Addr) (n c : Nat) (T : List EvS) (hown : w.ownsRow base e 8 (.slice A n c) n (rowsL T))
  (S : Option Addr) (m k : Nat) (q : List EvS) (hq : q.length = m) (hs : RawEv w S q) (h63 : n + m ≤ 1000000000000) (hbase : base ≤ w.heap.size) :
  ∃ A' c' w', (Builtin.append_ #[t, t] ty #[.slice A n c, .slice S m k]).run P w = .ok (.slice A' (n + m) c') w' ∧ w'.ownsRow base e 8 (.slice A' (n + m) c') (n + m) (rowsL (T ++ q)) ∧ Below base w w' := by
 have hmx : n + m ≤ maxLen := by unfold maxLen; omega
 cases S with
 | none =>
   have hm : m = 0 := by
    rcases Nat.eq_zero_or_pos m with h0 | h0
    ·exact h0
    ·obtain ⟨b, o, h, _⟩ := hs (by omega)
     cases h
   subst hm
   have hq0 : q = [] := List.eq_nil_of_length_eq_zero hq
   subst hq0
   refine ⟨A, c, w, ?_, by simpa using hown, Below.refl _ _⟩
   rcases hown.2 with ⟨hv, rfl⟩ | ⟨g, cap, cur, hv, _, _, hnc, _⟩
   ·injection hv with h1 h2 h3
    subst h1; subst h3
    simp [Builtin.append_, run_underlying ht, sizeOf, typeInfo, hi, Builtin.lenOf, Builtin.firstCells]
   ·injection hv with h1 h2 h3
    subst h1; subst h3
    simp [Builtin.append_, run_underlying ht, sizeOf, typeInfo, hi, Builtin.lenOf, Builtin.firstCells, hnc, storeCells]
 | some ad =>
   have hcells : ∀ j u, (rowsL q)[j]? = some u → w.cell? (ad.add j) = some u := by
    intro j u hu
    have hj : j < (rowsL q).length := (List.getElem?_eq_some_iff.1 hu).1
    rw [rowsL_len] at hj
    obtain ⟨b, o, h, hc⟩ := hs (by omega)
    injection h with h
    subst h
    rw [add_plain]
    exact hc j u hu
   obtain ⟨v', w', hrun, h2, h3, _⟩ := run_append_own (P := P) w base t ty e i z 8 88 ht hi hz hsize hby hzs (by decide) (.slice A n c) n (rowsL T) hown ad m k (rowsL q) (by rw [rowsL_len, hq]) hcells (rowsL_one q) hmx (by omega) hbase
   rw [← rowsL_append] at h2
   have hlt : ∀ g, Value.ownBlock (.slice A n c) = some g → base ≤ g := fun g hg => (hown.lt g hg).1
   have hB : Below base w w' := (Below.refl base w).grown h3 hbase hlt
   obtain ⟨A', c', rfl⟩ : ∃ A' c', v' = .slice A' (n + m) c' := by
    rcases h2.2 with ⟨rfl, h0⟩ | ⟨g, cap, cur, rfl, _⟩
    ·exact ⟨none, 0, by rw [h0]⟩
    ·exact ⟨_, cap, rfl⟩
   exact ⟨A', c', w', hrun, h2, hB⟩
theorem wpList_appE {w : World} {ops : Array Oper} {rest : List Oper} {o : Oper} {a : Act} {Q : Exit → Act → World → Prop} (hgd : o.guard = none) (s x : Operand) (t : TypeId)
  (ho : o.op = .call { callee := .builtin .append, args := #[s, x], argTypes := #[t, t] })
  (base : Nat) (e : TypeId) (i : TypeInfo) (z : Value) (ht : P.underlying t = some (.slice e)) (hi : P.info? e = some i) (hz : i.zero = some z)
  (hsize : i.size = 8) (hby : i.bytes = 88) (hzs : z.cells.size = 8)
  (A : Option Addr) (n c : Nat) (T : List EvS) (hs : a.eval s = .slice A n c) (hown : w.ownsRow base e 8 (.slice A n c) n (rowsL T))
  (S : Option Addr) (m k : Nat) (q : List EvS) (hx : a.eval x = .slice S m k) (hl : q.length = m) (hq : RawEv w S q) (h63 : n + m ≤ 1000000000000) (hbase : base ≤ w.heap.size)
  (h : ∀ A' c' w', w'.ownsRow base e 8 (.slice A' (n + m) c') (n + m) (rowsL (T ++ q)) → Below base w w' → wpList P ops Q rest (a.put o.dst (.slice A' (n + m) c')) w') : wpList P ops Q (o :: rest) a w :=
 wpList_plain hgd fun K hK => by
  obtain ⟨A', c', w', hrun, h2, h3⟩ := run_appE (P := P) base t o.type e i z ht hi hz hsize hby hzs A n c T hown S m k q hl hq h63 hbase
  unfold Oper.wp execOp
  simp only [ho, resolve, invoke, builtin, Sem.run_bind, Sem.run_pure, Result.andThen_ok, List.map_toArray, List.map_cons, List.map_nil, hs, hx, hrun]
  exact hK _ _ (h A' c' w' h2 h3)
end
def NewEv (base : Nat) (S : List EvS) (w : World) (e : Ending) (w' : World) : Prop :=
 ∃ A c, e = .returned (.slice A S.length c) ∧ w'.ownsRow base 38 8 (.slice A S.length c) S.length (rowsL S) ∧ Below base w w'
theorem growE (m : Nat) (w : World) (hm : m ≤ 1000000000) :
  Calls Tryz.prog 306 #[.slice none 0 0, .int .i64 (m : Int)] w (NewEv w.heap.size [] w) := by
 obtain ⟨i, hi, hz, hsz, hby⟩ := info_parts infoE
 by_cases h0 : m = 0
 ·subst h0
  go_enter Tryz.func306, Tryz.ntmps306
  go_wp2
  go_ret
  exact ⟨none, 0, rfl, own_nil8 _ _ _, Below.refl _ _⟩
 ·have hm0 : (0 : Int) < (m : Int) := by omega
  have hm1 : decide ((m : Int) < 0) = false := by simp
  go_enter Tryz.func306, Tryz.ntmps306
  have hr := Lib.run_append_nil_zeros (P := Tryz.prog) w 26 3 26 38 i zeroEv .i64 .i64 Tryz.underlying26 Tryz.underlying3 hi hz m (by omega) (by omega) (by omega) (by rw [hby]; omega)
  have hge := grownCap_ge w m 0 38
  have hgm := grownCap_le_maxLen w m 0 38 (by unfold maxLen; omega)
  generalize grownCap w m 0 38 = G at hr hge hgm
  obtain ⟨Z, hZ⟩ : ∃ Z, Z = Builtin.zeroCells zeroEv.cells m ++ Builtin.zeroCells zeroEv.cells (G - m) := ⟨_, rfl⟩
  rw [← hZ] at hr
  have hZs : Z.size = G * 8 := by
   rw [hZ, Array.size_append, size_zeroCells, size_zeroCells, zeroEv_cells]
   omega
  clear hZ
  have HR := Lib.hid hr
  clear hr
  have hgm2 : G ≤ 9223372036854775807 := by unfold maxLen at hgm; exact hgm
  go_wp2_with (first | (at_builtin; refine Lib.wpList_append_run w rfl _ _ _ _ rfl _ _ rfl rfl _ _ HR.out ?_))
  go_wp2
  go_ret
  exact ⟨_, G, rfl, ⟨rfl, .inr ⟨w.heap.size, G, Z, rfl, Nat.le_refl _, heap_alloc_new w.drew _, Nat.zero_le _, hgm, by omega, rfl⟩⟩, ((Below.refl _ _).drew).alloc (Nat.le_refl _) _⟩
def TwoEv (w : World) (A : Option Addr) (S1 S2 : List EvS) : Prop :=
 ∃ b o A1 c1 A2 c2, A = some ⟨b, o, none⟩ ∧ w.cell? ⟨b, o, none⟩ = some (.slice A1 S1.length c1) ∧ w.cell? ⟨b, o + 1, none⟩ = some (.slice A2 S2.length c2) ∧ RawEv w A1 S1 ∧ RawEv w A2 S2
theorem TwoEv.below {w w' : World} {A : Option Addr} {S1 S2 : List EvS} (h : TwoEv w A S1 S2) (hb : Below w.heap.size w w') : TwoEv w' A S1 S2 := by
 obtain ⟨b, o, A1, c1, A2, c2, hA, h1, h2, h3, h4⟩ := h
 refine ⟨b, o, A1, c1, A2, c2, hA, ?_, ?_, h3.below hb, h4.below hb⟩
 ·rw [hb.cell (World.block_lt_of_cell? _ _ h1)]; exact h1
 ·rw [hb.cell (World.block_lt_of_cell? _ _ h2)]; exact h2
set_option maxHeartbeats 1000000 in
theorem concatE (A : Option Addr) (c : Nat) (S1 S2 : List EvS) (w : World) (hs : TwoEv w A S1 S2) (h1 : S1.length ≤ 100000000) (h2 : S2.length ≤ 100000000) :
  Calls Tryz.prog 254 #[.slice A 2 c] w (NewEv w.heap.size (S1 ++ S2) w) := by
 obtain ⟨i, hi, hz, hsz, hby⟩ := info_parts infoE
 have hsz0 := hs
 obtain ⟨b, o, A1, c1, A2, c2, rfl, k1, k2, r1, r2⟩ := hs
 obtain ⟨m1, hm1⟩ : ∃ m, m = S1.length := ⟨_, rfl⟩
 obtain ⟨m2, hm2⟩ : ∃ m, m = S2.length := ⟨_, rfl⟩
 rw [← hm1] at k1 h1
 rw [← hm2] at k2 h2
 have hn1 : decide ((m1 : Int) < 0) = false := by simp
 have hn2 : decide ((m1 : Int) + (m2 : Int) < 0) = false := by simp; omega
 have HM1 := Lib.hid hm1
 have HM2 := Lib.hid hm2
 clear hm1 hm2
 go_enter Tryz.func254, Tryz.ntmps254
 go_wp2_with fail
 go_loopw [3, 11] (fun s a W => ((a = .int .i64 0 ∧ s = .int .i64 0) ∨ (a = .int .i64 1 ∧ s = .int .i64 (m1 : Int)) ∨ (a = .int .i64 2 ∧ s = .int .i64 ((m1 + m2 : Nat) : Int))) ∧ w = W) (fun _ a _ => 2 - (intOf a).toNat)
 case atStart => exact ⟨.inl ⟨rfl, rfl⟩, rfl⟩
 case round =>
  obtain ⟨hc, rfl⟩ := hrel
  rcases hc with ⟨rfl, rfl⟩ | ⟨rfl, rfl⟩ | ⟨rfl, rfl⟩
  ·go_wp2
   go_roundw
   case rel => exact ⟨.inr (.inl ⟨rfl, rfl⟩), trivial⟩
   case measure => simp [intOf]
  ·go_wp2
   go_roundw
   case rel => exact ⟨.inr (.inr ⟨rfl, by simp⟩), trivial⟩
   case measure => simp [intOf]
  ·go_wp2_with fail
   refine (growE (m1 + m2) w (by omega)).mono ?_
   rintro e w1 ⟨A3, c3, rfl, hown, hb⟩
   have q1 : w1.cell? ⟨b, o, none⟩ = some (.slice A1 m1 c1) := by rw [hb.cell (World.block_lt_of_cell? _ _ k1)]; exact k1
   have q2 : w1.cell? ⟨b, o + 1, none⟩ = some (.slice A2 m2 c2) := by rw [hb.cell (World.block_lt_of_cell? _ _ k2)]; exact k2
   have s1 := r1.below hb
   have s2 := r2.below hb
   have hsize := hb.size
   have BB : Hid (∀ W : World, Below w.heap.size w W → W.cell? ⟨b, o, none⟩ = some (.slice A1 m1 c1) ∧ W.cell? ⟨b, o + 1, none⟩ = some (.slice A2 m2 c2) ∧ RawEv W A1 S1 ∧ RawEv W A2 S2) := Lib.hid fun W hW => ⟨by rw [hW.cell (World.block_lt_of_cell? _ _ k1)]; exact k1, by rw [hW.cell (World.block_lt_of_cell? _ _ k2)]; exact k2, r1.below hW, r2.below hW⟩
   clear k1 k2 q1 q2 s1 s2 r1 r2 hn1 hn2
   go_wp2_with fail
   go_loopw [6, 27] (fun s a W => ∃ (T : List EvS) (n : Nat) (A4 : Option Addr) (c4 : Nat), ((a = .int .i64 0 ∧ T = [] ∧ n = 0) ∨ (a = .int .i64 1 ∧ T = S1 ∧ n = m1) ∨ (a = .int .i64 2 ∧ T = S1 ++ S2 ∧ n = m1 + m2)) ∧ s = .slice A4 n c4 ∧ W.ownsRow w.heap.size 38 8 (.slice A4 n c4) n (rowsL T) ∧ Below w.heap.size w W) (fun _ a _ => 2 - (intOf a).toNat)
   case atStart => exact ⟨[], 0, A3, c3, .inl ⟨rfl, rfl, rfl⟩, rfl, hown, hb⟩
   case round =>
    obtain ⟨T, n, A4, c4, hc, rfl, hown4, hb4⟩ := hrel
    obtain ⟨q1, q2, s1, s2⟩ := BB.out _ hb4
    have hsz4 := hb4.size
    rcases hc with ⟨rfl, rfl, rfl⟩ | ⟨rfl, rfl, rfl⟩ | ⟨rfl, rfl, rfl⟩
    ·go_wp2_with (first | (at_builtin; refine wpList_appE rfl _ _ 26 rfl w.heap.size 38 i zeroEv Tryz.underlying26 hi hz hsz hby rfl A4 0 c4 [] rfl hown4 A1 m1 c1 S1 rfl HM1.out.symm s1 (by omega) hsz4 ?_))
     intro A5 c5 w5 hown5 hb5
     go_wp2
     go_roundw
     case rel => exact ⟨S1, m1, A5, c5, .inr (.inl ⟨rfl, rfl, rfl⟩), by simp, by simpa using hown5, hb4.trans hb5⟩
     case measure => simp [intOf]
    ·go_wp2_with (first | (at_builtin; refine wpList_appE rfl _ _ 26 rfl w.heap.size 38 i zeroEv Tryz.underlying26 hi hz hsz hby rfl A4 _ c4 _ rfl hown4 A2 m2 c2 S2 rfl HM2.out.symm s2 (by omega) hsz4 ?_))
     intro A5 c5 w5 hown5 hb5
     go_wp2
     go_roundw
     case rel => exact ⟨_, _, A5, c5, .inr (.inr ⟨rfl, rfl, rfl⟩), rfl, hown5, hb4.trans hb5⟩
     case measure => simp [intOf]
    ·have HO := Lib.hid hown4
     clear hown4 q1 q2 s1 s2
     go_wp2
     go_ret
     have h1 := HM1.out
     have h2 := HM2.out
     subst h1
     subst h2
     exact ⟨A4, c4, by rw [List.length_append]; rfl, by rw [List.length_append]; exact HO.out, hb4⟩
theorem clipE (A : Option Addr) (n c : Nat) (w : World) (hc : n ≤ c) : Calls Tryz.prog 201 #[.slice A n c] w fun e w' => e = .returned (.slice A n n) ∧ w' = w := by
 cases A with
 | none =>
   go_enter Tryz.func201, Tryz.ntmps201
   go_wp2
   go_ret
   exact ⟨rfl, rfl⟩
 | some a =>
   go_enter Tryz.func201, Tryz.ntmps201
   go_wp2
   go_ret
   exact ⟨rfl, rfl⟩
def segV (x : Int) (u : Nat) (A : Option Addr) (n c : Nat) (z : Nat) : Value := .agg #[.int .i64 x, .int .u64 (u : Int), .slice A n c, .int .i64 (z : Int)]
def segR (x : Int) (u : Nat) (A : Option Addr) (n c : Nat) (z : Nat) : Array Value := #[.int .i64 x, .int .u64 (u : Int), .slice A n c, .int .i64 (z : Int)]
theorem next_any (x : Int) (u : Nat) (A : Option Addr) (n c z : Nat) (w : World) (h : u + n < 18446744073709551616) :
  Calls Tryz.prog 65 #[segV x u A n c z] w fun e w' => e = .returned (.int .u64 ((u + n : Nat) : Int)) ∧ Below w.heap.size w w' := by
 unfold segV
 have hb := (Below.refl w.heap.size w).alloc (Nat.le_refl _) (.cells #[.int .i64 x, .int .u64 (u : Int), .slice A n c, .int .i64 (z : Int)] 134)
 obtain ⟨s0, s1, s2, s3⟩ := b4cells (heap_alloc_new w (.cells #[.int .i64 x, .int .u64 (u : Int), .slice A n c, .int .i64 (z : Int)] 134))
 have hw : IntKind.u64.wrap ((u : Int) + (n : Int)) = ((u + n : Nat) : Int) := by rw [IntKind.wrap_u64]; omega
 have hn : (n : Int) < 18446744073709551616 := by omega
 go_enter Tryz.func65, Tryz.ntmps65
 go_wp2
 go_ret
 exact ⟨by simp, hb⟩
set_option maxHeartbeats 1000000 in
theorem follows_at (x : Int) (u : Nat) (A : Option Addr) (n c z : Nat) (e : Ev) (B : Option Addr) (m k : Nat) (w : World) (hlt : u + n < 18446744073709551616) (hwx : e.writer = x) :
  Calls Tryz.prog 252 #[segV x u A n c z, e.val B m k] w fun e' w' => e' = .returned (.bool (decide (e.seq = u + n))) ∧ Below w.heap.size w w' := by
 show Calls _ _ #[.agg (segR x u A n c z), .agg (e.row B m k)] _ _
 unfold segR Ev.row
 have hwr : (e.writer == x) = true := by simpa using hwx
 clear hwx
 have hsq : ((e.seq : Int) == (u : Int) + (n : Int)) = decide (e.seq = u + n) := by rw [Bool.eq_iff_iff]; simp; omega
 go_enter Tryz.func252, Tryz.ntmps252
 go_wp2_with fail
 generalize hW1 : (w.alloc (.cells #[.int .i64 x, .int .u64 (u : Int), .slice A n c, .int .i64 (z : Int)] 134)).alloc (.cells #[.int .i64 e.writer, .int .u64 (e.seq : Int), .int .u64 (e.time : Int), .int .u8 (e.kind : Int), .string e.key, .slice B m k, .float .f64 e.num, .int .i64 e.node] 38) = W1
 have hb0 : Below w.heap.size w W1.drew := by rw [← hW1]; exact (((Below.refl _ _).alloc (Nat.le_refl _) _).alloc (by simp) _).drew
 have HC : Hid (∀ W, Below W1.drew.heap.size W1.drew W → (W.cell? ⟨w.heap.size, 0, none⟩ = some (.int .i64 x) ∧ W.cell? ⟨w.heap.size, 1, none⟩ = some (.int .u64 (u : Int)) ∧ W.cell? ⟨w.heap.size, 2, none⟩ = some (.slice A n c) ∧ W.cell? ⟨w.heap.size, 3, none⟩ = some (.int .i64 (z : Int))) ∧
   (W.cell? ⟨w.heap.size + 1, 0, none⟩ = some (.int .i64 e.writer) ∧ W.cell? ⟨w.heap.size + 1, 1, none⟩ = some (.int .u64 (e.seq : Int)) ∧ W.cell? ⟨w.heap.size + 1, 2, none⟩ = some (.int .u64 (e.time : Int)) ∧ W.cell? ⟨w.heap.size + 1, 3, none⟩ = some (.int .u8 (e.kind : Int)) ∧ W.cell? ⟨w.heap.size + 1, 4, none⟩ = some (.string e.key) ∧ W.cell? ⟨w.heap.size + 1, 5, none⟩ = some (.slice B m k) ∧ W.cell? ⟨w.heap.size + 1, 6, none⟩ = some (.float .f64 e.num) ∧ W.cell? ⟨w.heap.size + 1, 7, none⟩ = some (.int .i64 e.node)) ∧ True) := Lib.hid (by
  intro W hW
  have h1 : W1.heap[w.heap.size]? = some (.cells (segR x u A n c z) 134 (0, 0)) := by
   rw [← hW1, Below.heap_alloc _ _ _ (by simp)]; exact heap_alloc_new w _
  have h2 : W1.heap[w.heap.size + 1]? = some (.cells (e.row B m k) 38 (0, 0)) := by
   rw [← hW1]
   have := heap_alloc_new (w.alloc (.cells #[.int .i64 x, .int .u64 (u : Int), .slice A n c, .int .i64 (z : Int)] 134)) (.cells (e.row B m k) 38)
   unfold Ev.row at this ⊢
   simpa using this
  have hz : w.heap.size + 1 < W1.heap.size := (Array.getElem?_eq_some_iff.1 h2).1
  exact ⟨b4cells ((hW.block w.heap.size (by show _ < W1.heap.size; omega)).trans h1), box8 ((hW.block (w.heap.size + 1) (by show _ < W1.heap.size; omega)).trans h2), trivial⟩)
 clear hW1
 refine Facts.wp_region_preds (n := 17) (by kernel_rfl) (by kernel_rfl) rfl [Facts.Pred.is (Value.pointer (some ⟨w.heap.size + 1, 0, none⟩)), Facts.Pred.is (Value.int .i64 e.writer), Facts.Pred.is (Value.pointer (some ⟨w.heap.size, 0, none⟩)), Facts.Pred.is (Value.int .i64 x), Facts.Pred.is (Value.bool true), Facts.Pred.is (Value.bool true), Facts.Pred.is (Value.pointer (some ⟨w.heap.size + 1, 1, none⟩)), Facts.Pred.is (Value.int .u64 (e.seq : Int)), Facts.Pred.is (segV x u A n c z), Facts.Pred.is (Value.int .u64 ((u + n : Nat) : Int)), Facts.Pred.is (Value.bool (decide (e.seq = u + n))), Facts.Pred.is (Value.bool (decide (e.seq = u + n))), Facts.Pred.is (Value.bool (decide (e.seq = u + n)))] ?_ ?_
 ·refine ⟨?_, ?_, ?_, ?_, ?_, ?_, ?_, ?_, ?_, ?_, ?_, ?_, ?_, trivial⟩
  ·refine Facts.step_is (Value.pointer (some ⟨w.heap.size + 1, 0, none⟩)) fun a W hR hold hnew => ?_
   have f3 : a.tmps.getD 3 undef = Value.pointer (some ⟨w.heap.size + 1, 0, none⟩) := hold 3 (by kernel_rfl)
   refine ⟨Facts.wanted_free rfl, ?_, fun _ => rfl⟩; simp [go_sem, Act.eval, f3]
  ·refine Facts.step_is (Value.int .i64 e.writer) fun a W hR hold hnew => ?_
   have f5 : a.tmps.getD 5 undef = Value.pointer (some ⟨w.heap.size + 1, 0, none⟩) := hnew 0 5 (by kernel_rfl)
   obtain ⟨q0, q1, q2⟩ := HC.out W hR
   obtain ⟨s0, s1, s2, s3⟩ := q0
   obtain ⟨k0, k1, k2, k3, k4, k5, k6, k7⟩ := q1
   refine ⟨Facts.wanted_free rfl, ?_, fun _ => rfl⟩; simp [go_sem, Act.eval, f5, k0]
  ·refine Facts.step_is (Value.pointer (some ⟨w.heap.size, 0, none⟩)) fun a W hR hold hnew => ?_
   have f2 : a.tmps.getD 2 undef = Value.pointer (some ⟨w.heap.size, 0, none⟩) := hold 2 (by kernel_rfl)
   refine ⟨Facts.wanted_free rfl, ?_, fun _ => rfl⟩; simp [go_sem, Act.eval, f2]
  ·refine Facts.step_is (Value.int .i64 x) fun a W hR hold hnew => ?_
   have f7 : a.tmps.getD 7 undef = Value.pointer (some ⟨w.heap.size, 0, none⟩) := hnew 2 7 (by kernel_rfl)
   obtain ⟨q0, q1, q2⟩ := HC.out W hR
   obtain ⟨s0, s1, s2, s3⟩ := q0
   obtain ⟨k0, k1, k2, k3, k4, k5, k6, k7⟩ := q1
   refine ⟨Facts.wanted_free rfl, ?_, fun _ => rfl⟩; simp [go_sem, Act.eval, f7, s0]
  ·refine Facts.step_is (Value.bool true) fun a W hR hold hnew => ?_
   have f6 : a.tmps.getD 6 undef = Value.int .i64 e.writer := hnew 1 6 (by kernel_rfl)
   have f8 : a.tmps.getD 8 undef = Value.int .i64 x := hnew 3 8 (by kernel_rfl)
   refine ⟨Facts.wanted_free rfl, ?_, fun _ => rfl⟩; simp [go_sem, Act.eval, f6, f8, hwr]
  ·refine Facts.step_is (Value.bool true) fun a W hR hold hnew => ?_
   have f9 : a.tmps.getD 9 undef = Value.bool true := hnew 4 9 (by kernel_rfl)
   refine ⟨Facts.wanted_free rfl, ?_, fun _ => rfl⟩; simp [go_sem, Act.eval, f9]
  ·refine Facts.step_is (Value.pointer (some ⟨w.heap.size + 1, 1, none⟩)) fun a W hR hold hnew => ?_
   have f3 : a.tmps.getD 3 undef = Value.pointer (some ⟨w.heap.size + 1, 0, none⟩) := hold 3 (by kernel_rfl)
   have g10 : a.tmps.getD 10 undef = .bool true := hnew 5 10 (by kernel_rfl)
   refine ⟨Facts.wanted_by rfl (by kernel_rfl) g10, ?_, fun _ => rfl⟩
   simp [go_sem, Act.eval, f3]
  ·refine Facts.step_is (Value.int .u64 (e.seq : Int)) fun a W hR hold hnew => ?_
   have f11 : a.tmps.getD 11 undef = Value.pointer (some ⟨w.heap.size + 1, 1, none⟩) := hnew 6 11 (by kernel_rfl)
   have g10 : a.tmps.getD 10 undef = .bool true := hnew 5 10 (by kernel_rfl)
   obtain ⟨q0, q1, q2⟩ := HC.out W hR
   obtain ⟨s0, s1, s2, s3⟩ := q0
   obtain ⟨k0, k1, k2, k3, k4, k5, k6, k7⟩ := q1
   refine ⟨Facts.wanted_by rfl (by kernel_rfl) g10, ?_, fun _ => rfl⟩
   simp [go_sem, Act.eval, f11, k1]
  ·refine Facts.step_is (segV x u A n c z) fun a W hR hold hnew => ?_
   have f2 : a.tmps.getD 2 undef = Value.pointer (some ⟨w.heap.size, 0, none⟩) := hold 2 (by kernel_rfl)
   have g10 : a.tmps.getD 10 undef = .bool true := hnew 5 10 (by kernel_rfl)
   obtain ⟨q0, q1, q2⟩ := HC.out W hR
   obtain ⟨s0, s1, s2, s3⟩ := q0
   obtain ⟨k0, k1, k2, k3, k4, k5, k6, k7⟩ := q1
   refine ⟨Facts.wanted_by rfl (by kernel_rfl) g10, ?_, fun _ => rfl⟩
   simp [go_sem, Act.eval, f2, s0, s1, s2, s3, segV]
  ·-- 9: Op.call { value (Operand.func 17), args := #[t13], argTypes
   refine Facts.step_call fun a W hR hold hnew => ?_
   have f13 : a.tmps.getD 13 undef = segV x u A n c z := hnew 8 13 (by kernel_rfl); have g10 : a.tmps.getD 10 undef = .bool true := hnew 5 10 (by kernel_rfl)
   refine ⟨Facts.wanted_by rfl (by kernel_rfl) g10, 65, #[segV x u A n c z], by simp [go_sem, Act.eval, f13], ?_⟩
   refine (next_any x u A n c z W hlt).mono ?_
   rintro e' w7 ⟨rfl, hb7⟩
   exact ⟨_, rfl, hb7, rfl⟩
  ·refine Facts.step_is (Value.bool (decide (e.seq = u + n))) fun a W hR hold hnew => ?_
   have f12 : a.tmps.getD 12 undef = Value.int .u64 (e.seq : Int) := hnew 7 12 (by kernel_rfl)
   have f14 : a.tmps.getD 14 undef = Value.int .u64 ((u + n : Nat) : Int) := hnew 9 14 (by kernel_rfl)
   have g10 : a.tmps.getD 10 undef = .bool true := hnew 5 10 (by kernel_rfl)
   refine ⟨Facts.wanted_by rfl (by kernel_rfl) g10, ?_, fun _ => rfl⟩
   simp [go_sem, Act.eval, f12, f14, hsq]
  ·refine Facts.step_is (Value.bool (decide (e.seq = u + n))) fun a W hR hold hnew => ?_
   have f10 : a.tmps.getD 10 undef = Value.bool true := hnew 5 10 (by kernel_rfl)
   have f15 : a.tmps.getD 15 undef = Value.bool (decide (e.seq = u + n)) := hnew 10 15 (by kernel_rfl)
   refine ⟨Facts.wanted_free rfl, ?_, fun _ => rfl⟩; simp [go_sem, Act.eval, f10, f15]
  ·refine Facts.step_is (Value.bool (decide (e.seq = u + n))) fun a W hR hold hnew => ?_
   have f16 : a.tmps.getD 16 undef = Value.bool (decide (e.seq = u + n)) := hnew 11 16 (by kernel_rfl)
   refine ⟨Facts.wanted_free rfl, ?_, fun _ => rfl⟩; simp [go_sem, Act.eval, f16]
 ·intro a w3 hR' hsize hdef hnew hold
  have f4 : a.tmps.getD 4 undef = Value.bool (decide (e.seq = u + n)) := hnew 12 4 (by kernel_rfl)
  obtain ⟨tm, df⟩ := a
  simp only [] at hdef hsize f4
  obtain ⟨xq, hxq, hlit⟩ := Facts.lits tm hsize Facts.idx17 Facts.idx17_eq
  rw [hxq] at f4
  simp only [Facts.idx17, List.map_cons, List.map_nil, f4] at hlit
  clear f4 hsize hnew hold hxq
  subst hlit
  subst hdef
  try simp only []
  have b1 := hb0.trans (hR'.mono hb0.size)
  clear hR' hb0 HC
  go_wp2
  go_ret
  exact ⟨rfl, b1⟩
set_option maxHeartbeats 1000000 in
theorem follows_off (x : Int) (u : Nat) (A : Option Addr) (n c z : Nat) (e : Ev) (B : Option Addr) (m k : Nat) (w : World) (hlt : u + n < 18446744073709551616) (hwx : e.writer ≠ x) :
  Calls Tryz.prog 252 #[segV x u A n c z, e.val B m k] w fun e' w' => e' = .returned (.bool false) ∧ Below w.heap.size w w' := by
 show Calls _ _ #[.agg (segR x u A n c z), .agg (e.row B m k)] _ _
 unfold segR Ev.row
 have hwr : (e.writer == x) = false := by simpa using hwx
 clear hwx
 go_enter Tryz.func252, Tryz.ntmps252
 go_wp2_with fail
 generalize hW1 : (w.alloc (.cells #[.int .i64 x, .int .u64 (u : Int), .slice A n c, .int .i64 (z : Int)] 134)).alloc (.cells #[.int .i64 e.writer, .int .u64 (e.seq : Int), .int .u64 (e.time : Int), .int .u8 (e.kind : Int), .string e.key, .slice B m k, .float .f64 e.num, .int .i64 e.node] 38) = W1
 have hb0 : Below w.heap.size w W1.drew := by rw [← hW1]; exact (((Below.refl _ _).alloc (Nat.le_refl _) _).alloc (by simp) _).drew
 have HC : Hid (∀ W, Below W1.drew.heap.size W1.drew W → (W.cell? ⟨w.heap.size, 0, none⟩ = some (.int .i64 x) ∧ W.cell? ⟨w.heap.size, 1, none⟩ = some (.int .u64 (u : Int)) ∧ W.cell? ⟨w.heap.size, 2, none⟩ = some (.slice A n c) ∧ W.cell? ⟨w.heap.size, 3, none⟩ = some (.int .i64 (z : Int))) ∧
   (W.cell? ⟨w.heap.size + 1, 0, none⟩ = some (.int .i64 e.writer) ∧ W.cell? ⟨w.heap.size + 1, 1, none⟩ = some (.int .u64 (e.seq : Int)) ∧ W.cell? ⟨w.heap.size + 1, 2, none⟩ = some (.int .u64 (e.time : Int)) ∧ W.cell? ⟨w.heap.size + 1, 3, none⟩ = some (.int .u8 (e.kind : Int)) ∧ W.cell? ⟨w.heap.size + 1, 4, none⟩ = some (.string e.key) ∧ W.cell? ⟨w.heap.size + 1, 5, none⟩ = some (.slice B m k) ∧ W.cell? ⟨w.heap.size + 1, 6, none⟩ = some (.float .f64 e.num) ∧ W.cell? ⟨w.heap.size + 1, 7, none⟩ = some (.int .i64 e.node)) ∧ True) := Lib.hid (by
  intro W hW
  have h1 : W1.heap[w.heap.size]? = some (.cells (segR x u A n c z) 134 (0, 0)) := by
   rw [← hW1, Below.heap_alloc _ _ _ (by simp)]; exact heap_alloc_new w _
  have h2 : W1.heap[w.heap.size + 1]? = some (.cells (e.row B m k) 38 (0, 0)) := by
   rw [← hW1]
   have := heap_alloc_new (w.alloc (.cells #[.int .i64 x, .int .u64 (u : Int), .slice A n c, .int .i64 (z : Int)] 134)) (.cells (e.row B m k) 38)
   unfold Ev.row at this ⊢
   simpa using this
  have hz : w.heap.size + 1 < W1.heap.size := (Array.getElem?_eq_some_iff.1 h2).1
  exact ⟨b4cells ((hW.block w.heap.size (by show _ < W1.heap.size; omega)).trans h1), box8 ((hW.block (w.heap.size + 1) (by show _ < W1.heap.size; omega)).trans h2), trivial⟩)
 clear hW1
 refine Facts.wp_region_preds (n := 17) (by kernel_rfl) (by kernel_rfl) rfl [Facts.Pred.is (Value.pointer (some ⟨w.heap.size + 1, 0, none⟩)), Facts.Pred.is (Value.int .i64 e.writer), Facts.Pred.is (Value.pointer (some ⟨w.heap.size, 0, none⟩)), Facts.Pred.is (Value.int .i64 x), Facts.Pred.is (Value.bool false), Facts.Pred.is (Value.bool false), Facts.Pred.any, Facts.Pred.any, Facts.Pred.any, Facts.Pred.any, Facts.Pred.any, Facts.Pred.is (Value.bool false), Facts.Pred.is (Value.bool false)] ?_ ?_
 ·refine ⟨?_, ?_, ?_, ?_, ?_, ?_, ?_, ?_, ?_, ?_, ?_, ?_, ?_, trivial⟩
  ·refine Facts.step_is (Value.pointer (some ⟨w.heap.size + 1, 0, none⟩)) fun a W hR hold hnew => ?_
   have f3 : a.tmps.getD 3 undef = Value.pointer (some ⟨w.heap.size + 1, 0, none⟩) := hold 3 (by kernel_rfl)
   refine ⟨Facts.wanted_free rfl, ?_, fun _ => rfl⟩; simp [go_sem, Act.eval, f3]
  ·refine Facts.step_is (Value.int .i64 e.writer) fun a W hR hold hnew => ?_
   have f5 : a.tmps.getD 5 undef = Value.pointer (some ⟨w.heap.size + 1, 0, none⟩) := hnew 0 5 (by kernel_rfl)
   obtain ⟨q0, q1, q2⟩ := HC.out W hR
   obtain ⟨s0, s1, s2, s3⟩ := q0
   obtain ⟨k0, k1, k2, k3, k4, k5, k6, k7⟩ := q1
   refine ⟨Facts.wanted_free rfl, ?_, fun _ => rfl⟩; simp [go_sem, Act.eval, f5, k0]
  ·refine Facts.step_is (Value.pointer (some ⟨w.heap.size, 0, none⟩)) fun a W hR hold hnew => ?_
   have f2 : a.tmps.getD 2 undef = Value.pointer (some ⟨w.heap.size, 0, none⟩) := hold 2 (by kernel_rfl)
   refine ⟨Facts.wanted_free rfl, ?_, fun _ => rfl⟩; simp [go_sem, Act.eval, f2]
  ·refine Facts.step_is (Value.int .i64 x) fun a W hR hold hnew => ?_
   have f7 : a.tmps.getD 7 undef = Value.pointer (some ⟨w.heap.size, 0, none⟩) := hnew 2 7 (by kernel_rfl)
   obtain ⟨q0, q1, q2⟩ := HC.out W hR
   obtain ⟨s0, s1, s2, s3⟩ := q0
   obtain ⟨k0, k1, k2, k3, k4, k5, k6, k7⟩ := q1
   refine ⟨Facts.wanted_free rfl, ?_, fun _ => rfl⟩; simp [go_sem, Act.eval, f7, s0]
  ·refine Facts.step_is (Value.bool false) fun a W hR hold hnew => ?_
   have f6 : a.tmps.getD 6 undef = Value.int .i64 e.writer := hnew 1 6 (by kernel_rfl)
   have f8 : a.tmps.getD 8 undef = Value.int .i64 x := hnew 3 8 (by kernel_rfl)
   refine ⟨Facts.wanted_free rfl, ?_, fun _ => rfl⟩; simp [go_sem, Act.eval, f6, f8, hwr]
  ·refine Facts.step_is (Value.bool false) fun a W hR hold hnew => ?_
   have f9 : a.tmps.getD 9 undef = Value.bool false := hnew 4 9 (by kernel_rfl)
   refine ⟨Facts.wanted_free rfl, ?_, fun _ => rfl⟩; simp [go_sem, Act.eval, f9]
  ·-- 6: Op.fieldAddr 46 t3 1
   refine Sht.step_skip (fun a W hnew => ?_) (fun _ => trivial)
   have g10 : a.tmps.getD 10 undef = .bool false := hnew 5 10 (by kernel_rfl)
   exact Sht.wanted_not rfl (by kernel_rfl) g10
  ·-- 7: Op.load 22 t11
   refine Sht.step_skip (fun a W hnew => ?_) (fun _ => trivial)
   have g10 : a.tmps.getD 10 undef = .bool false := hnew 5 10 (by kernel_rfl)
   exact Sht.wanted_not rfl (by kernel_rfl) g10
  ·-- 8: Op.load 29 t2
   refine Sht.step_skip (fun a W hnew => ?_) (fun _ => trivial)
   have g10 : a.tmps.getD 10 undef = .bool false := hnew 5 10 (by kernel_rfl)
   exact Sht.wanted_not rfl (by kernel_rfl) g10
  ·-- 9: Op.call { value (Operand.func 17), args := #[t13], argTypes
   refine Sht.step_skip (fun a W hnew => ?_) (fun _ => trivial)
   have g10 : a.tmps.getD 10 undef = .bool false := hnew 5 10 (by kernel_rfl)
   exact Sht.wanted_not rfl (by kernel_rfl) g10
  ·-- 10: Op.binOp BinOp.eql 22 t12 t14 22
   refine Sht.step_skip (fun a W hnew => ?_) (fun _ => trivial)
   have g10 : a.tmps.getD 10 undef = .bool false := hnew 5 10 (by kernel_rfl)
   exact Sht.wanted_not rfl (by kernel_rfl) g10
  ·refine Facts.step_is (Value.bool false) fun a W hR hold hnew => ?_
   have f10 : a.tmps.getD 10 undef = Value.bool false := hnew 5 10 (by kernel_rfl)
   refine ⟨Facts.wanted_free rfl, ?_, fun _ => rfl⟩; simp [go_sem, Act.eval, f10]
  ·refine Facts.step_is (Value.bool false) fun a W hR hold hnew => ?_
   have f16 : a.tmps.getD 16 undef = Value.bool false := hnew 11 16 (by kernel_rfl)
   refine ⟨Facts.wanted_free rfl, ?_, fun _ => rfl⟩; simp [go_sem, Act.eval, f16]
 ·intro a w3 hR' hsize hdef hnew hold
  have f4 : a.tmps.getD 4 undef = Value.bool false := hnew 12 4 (by kernel_rfl)
  obtain ⟨tm, df⟩ := a
  simp only [] at hdef hsize f4
  obtain ⟨xq, hxq, hlit⟩ := Facts.lits tm hsize Facts.idx17 Facts.idx17_eq
  rw [hxq] at f4
  simp only [Facts.idx17, List.map_cons, List.map_nil, f4] at hlit
  clear f4 hsize hnew hold hxq
  subst hlit
  subst hdef
  try simp only []
  have b1 := hb0.trans (hR'.mono hb0.size)
  clear hR' hb0 HC
  go_wp2
  go_ret
  exact ⟨rfl, b1⟩
theorem follows_any (x : Int) (u : Nat) (A : Option Addr) (n c z : Nat) (e : Ev) (B : Option Addr) (m k : Nat) (w : World) (hlt : u + n < 18446744073709551616) :
  Calls Tryz.prog 252 #[segV x u A n c z, e.val B m k] w fun e' w' => e' = .returned (.bool (decide (e.writer = x ∧ e.seq = u + n))) ∧ Below w.heap.size w w' := by
 by_cases h : e.writer = x
 ·have h2 : decide (e.writer = x ∧ e.seq = u + n) = decide (e.seq = u + n) := by simp [h]
  rw [h2]
  exact follows_at x u A n c z e B m k w hlt h
 ·have h2 : decide (e.writer = x ∧ e.seq = u + n) = false := by simp [h]
  rw [h2]
  exact follows_off x u A n c z e B m k w hlt h
end Go.Proofs.YtinjbdgjcadodaaGreatDoor.Seg
namespace Go.Proofs.YtinjbdgjcadodaaGreatDoor.Seg
open Go Go.RowKit Words Enc Evt Go.Proofs.YtinjbdgjcadodaaGreatDoor.Made Dsk Sht
theorem titleO_any (x u : Nat) (hx : x < 9223372036854775808) (w : World) :
  Calls Tryz.prog 250 #[.int .i64 (x : Int), .int .u64 (u : Int)] w fun e w' => e = .returned (titleV 115 x u) ∧ Below w.heap.size w w' := by
 have hw : IntKind.u64.wrap (x : Int) = (x : Int) := by rw [IntKind.wrap_u64]; omega
 have hb := (Below.refl w.heap.size w).alloc (Nat.le_refl _) (.cells #[.int .u8 0, .int .u64 0, .int .u64 0] 244)
 have hg := heap_alloc_new w (.cells #[.int .u8 0, .int .u64 0, .int .u64 0] 244)
 have d0 : (w.alloc (.cells #[.int .u8 0, .int .u64 0, .int .u64 0] 244)).cell? ⟨w.heap.size, 0, none⟩ = some (.int .u8 0) := by rw [cell_of_row _ w.heap.size _ _ _ _ hg]; rfl
 have d1 : (w.alloc (.cells #[.int .u8 0, .int .u64 0, .int .u64 0] 244)).cell? ⟨w.heap.size, 1, none⟩ = some (.int .u64 0) := by rw [cell_of_row _ w.heap.size _ _ _ _ hg]; rfl
 have d2 : (w.alloc (.cells #[.int .u8 0, .int .u64 0, .int .u64 0] 244)).cell? ⟨w.heap.size, 2, none⟩ = some (.int .u64 0) := by rw [cell_of_row _ w.heap.size _ _ _ _ hg]; rfl
 have f0 := frozen_row0 (i := 0) hg
 have f1 := frozen_row0 (i := 1) hg
 have f2 := frozen_row0 (i := 2) hg
 have HB := Lib.hid hb
 clear hg hb
 go_enter Tryz.func250, Tryz.ntmps250
 go_wp2
 refine bodyPost_ret (v := titleV 115 x u) (by simp [results, Tryz.results250, go_sem, titleV]) rfl ⟨rfl, (Below.refl _ _).alloc (Nat.le_refl _) _⟩
theorem empty_any (x u : Nat) (hx : x < 9223372036854775808) (hu : u < 18446744073709551616) (w : World) (T : Chk.Tabs w) :
  Calls Tryz.prog 251 #[.int .i64 (x : Int), .int .u64 (u : Int)] w fun e w' => e = .returned (segV (x : Int) u none 0 0 (headL 115 x u).length) ∧ Below w.heap.size w w' := by
 have hb := (Below.refl w.heap.size w).alloc (Nat.le_refl _) (.cells #[.int .i64 0, .int .u64 0, .slice none 0 0, .int .i64 0] 134)
 have hg := heap_alloc_new w (.cells #[.int .i64 0, .int .u64 0, .slice none 0 0, .int .i64 0] 134)
 have hhead := fun W hT => head_any 115 x u W hT (by omega) hu
 obtain ⟨H, hH⟩ : ∃ H, H = (headL 115 x u).length := ⟨_, rfl⟩
 rw [← hH]
 rw [← hH] at hhead
 clear hH
 go_enter Tryz.func251, Tryz.ntmps251
 go_wp2_with fail
 refine (titleO_any x u hx _).mono ?_
 rintro e w1 ⟨rfl, hb1⟩
 have b1 := hb.trans (hb1.mono hb.size)
 go_wp2_with fail
 refine (hhead w1 (T.below b1)).mono ?_
 rintro e w2 ⟨A2, c2, rfl, hown, hb2⟩
 have b2 := b1.trans (hb2.mono b1.size)
 have hlt : w.heap.size < w1.heap.size := Nat.lt_of_lt_of_le (by simp) hb1.size
 have g2 := (hb2.block w.heap.size hlt).trans ((hb1.block w.heap.size (by simp)).trans hg)
 obtain ⟨s0, s1, s2, s3⟩ := b4cells g2
 have f0 := frozen_row0 (i := 0) g2
 have f1 := frozen_row0 (i := 1) g2
 have f2 := frozen_row0 (i := 2) g2
 have f3 := frozen_row0 (i := 3) g2
 have HB := Lib.hid b2
 clear hhead hb hg hb1 hb2 b1 b2 hown g2 hlt
 go_wp2
 refine bodyPost_ret (v := segV (x : Int) u none 0 0 H) (by simp [results, Tryz.results251, go_sem, segV, s0, s1, s2, s3]) rfl ⟨rfl, ?_⟩
 exact (((HB.out.setCell (by simp) _).setCell (by simp) _).setCell (by simp) _).setCell (by simp) _
theorem disk_box {w : World} {d : Nat} {S : List Nat} {files : List File} {h : Hd} (hd : Disk w d S files h) {p : Addr} (v : Value) (hp : p.block ∉ S) : Disk (w.setCell p v) d S files h :=
 hd.beside ((Beside.refl [p.block] w).setCell (by simp) v) (fun x hx => by simp at hx; rw [hx]; exact hp)
def TabsOn (S : List Nat) (w : World) : Prop := ∀ W, Beside S w W → Chk.Tabs W ∧ STabs W
theorem TabsOn.next {S S1 : List Nat} {w w1 : World} (h : TabsOn S w) (hb : Beside S w w1) (hs : ∀ k ∈ S1, k ∈ S ∨ w.heap.size ≤ k) : TabsOn S1 w1 := fun W hW => h W (hb.trans hW hs)
theorem TabsOn.below {S : List Nat} {w w1 : World} (h : TabsOn S w) (hb : Below w.heap.size w w1) : TabsOn S w1 := h.next (Beside.of_below hb S) fun k hk => .inl hk
theorem TabsOn.of {S : List Nat} {w0 w : World} (T : Chk.Tabs w0) (ST : STabs w0) (b : Below w0.heap.size w0 w) (hS : ∀ k ∈ S, w0.heap.size ≤ k) : TabsOn S w := fun W hW =>
 ⟨T.below (Below.beside b hW b.size hS), ST.below (Below.beside b hW b.size hS)⟩
set_option maxHeartbeats 1000000 in
theorem create_ok (d : Nat) (S : List Nat) (files files' : List File) (h h' : Hd) (x u : Nat) (w : World) (TT : TabsOn S w) (hx : x < 64) (hu0 : 0 < u) (hu : u < 18446744073709551616) (hd : Disk w d S files h) (hf : h.fits) (hac : h.acts < 999999999999)
  (ht : sumA files ≤ 1000000000000) (ht2 : sumA (appF h (nameL (x : Int) u) (headL 115 x u) files) ≤ 1000000000000) (hfs : files.length < 1000000000000) (hr : beginR h (nameL (x : Int) u) (headL 115 x u) files = (0, files', h')) :
  Calls Tryz.prog 190 #[.pointer (some ⟨d, 0, none⟩), .int .i64 (x : Int), .int .u64 (u : Int)] w fun e w' => e = .returned (.tuple #[segV (x : Int) u none 0 0 (headL 115 x u).length, .int .i64 0]) ∧ Dsk.Next S w d files' h' w' := by
 obtain ⟨T, ST⟩ := TT w (Beside.refl _ _)
 have e1 : decide ((x : Int) < 0) = false := by simp
 have e2 : decide ((64 : Int) ≤ (x : Int)) = false := by simp; omega
 have e3 : ((u : Int) == 0) = false := by rw [beq_eq_false_iff_ne]; omega
 have hb := (Below.refl w.heap.size w).alloc (Nat.le_refl _) (.cells #[.int .i64 0, .int .u64 0, .slice none 0 0, .int .i64 0] 134)
 have hg := heap_alloc_new w (.cells #[.int .i64 0, .int .u64 0, .slice none 0 0, .int .i64 0] 134)
 have hname := fun W hT => name_any (x : Int) u (by omega) (by omega) hu W hT
 have htit := fun W => titleO_any x u (by omega) W
 have hemp := fun W hT => empty_any x u (by omega) hu W hT
 have hbeg := fun W hT hd' => Sht.begin_any d S files h (nameL (x : Int) u) 115 x u W hT (by omega) hu hd' hf hac (name_ok (by omega)) ht ht2 hfs
 rw [hr] at hbeg
 have hS : ∀ k ∈ S, k < w.heap.size := hd.lt
 obtain ⟨H, hH⟩ : ∃ H, H = (headL 115 x u).length := ⟨_, rfl⟩
 rw [← hH]
 rw [← hH] at hemp
 generalize nameL (x : Int) u = NM at hname hbeg
 clear hH hr ht2
 unfold titleV at htit hbeg
 go_enter Tryz.func190, Tryz.ntmps190
 go_wp2_with fail
 refine (hname _ (ST.below hb)).mono ?_
 rintro e w1 ⟨rfl, hb1⟩
 have b1 := hb.trans (hb1.mono hb.size)
 go_wp2_with fail
 refine (htit w1).mono ?_
 rintro e w2 ⟨rfl, hb2⟩
 have b2 := b1.trans (hb2.mono b1.size)
 go_wp2_with fail
 refine (hbeg w2 (T.below b2) (hd.below b2)).mono ?_
 rintro e w3 ⟨rfl, S3, hd3, hb3, hs3⟩
 have hz0 : w.heap.size < w2.heap.size := Nat.lt_of_lt_of_le (by simp) (Nat.le_trans hb1.size hb2.size)
 have g2 := (hb2.block w.heap.size (Nat.lt_of_lt_of_le (by simp) hb1.size)).trans ((hb1.block w.heap.size (by simp)).trans hg)
 have hnS : w.heap.size ∉ S := fun hm => by have := hS _ hm; omega
 have g3 := (hb3.block w.heap.size hz0 hnS).trans g2
 have BB : Hid (Beside S w w3) := Lib.hid ((Beside.of_below b2 S).trans hb3 fun k hk => .inl hk)
 have HS3 : Hid (∀ k ∈ S3, k ∈ S ∨ w2.heap.size ≤ k) := Lib.hid hs3
 have T3 := (TT w3 BB.out).1
 have hz3 := hb3.size
 clear hb1 hb2 b1 b2 hb3 hs3 g2 hbeg htit hname hb hg e1 e2 e3
 go_wp2_with fail
 refine (hemp w3 T3).mono ?_
 rintro e w4 ⟨rfl, hb4⟩
 have g4 := (hb4.block w.heap.size (by omega)).trans g3
 obtain ⟨s0, s1, s2, s3⟩ := b4cells g4
 have f0 := frozen_row0 (i := 0) g4
 have f1 := frozen_row0 (i := 1) g4
 have f2 := frozen_row0 (i := 2) g4
 have f3 := frozen_row0 (i := 3) g4
 have DD : Hid (Disk w4 d S3 files' h') := Lib.hid (hd3.below hb4)
 have B4 : Hid (Beside S w w4) := Lib.hid (BB.out.below hb4)
 unfold segV
 clear hemp hd3 hb4 g3 g4 T3
 go_wp2
 refine bodyPost_ret (v := .tuple #[segV (x : Int) u none 0 0 H, .int .i64 0]) (by simp [results, Tryz.results190, go_sem, segV, s0, s1, s2, s3]) rfl ⟨rfl, S3, ?_, ?_, fun k hk => ?_⟩
 ·have hn : w.heap.size ∉ S3 := fun hm => by
   rcases HS3.out _ hm with h | h
   ·exact hnS h
   ·omega
  exact disk_box (disk_box (disk_box (disk_box DD.out _ hn) _ hn) _ hn) _ hn
 ·exact (((B4.out.setNew (by simp) _).setNew (by simp) _).setNew (by simp) _).setNew (by simp) _
 ·rcases HS3.out k hk with h | h
  ·exact .inl h
  ·exact .inr (by omega)
end Go.Proofs.YtinjbdgjcadodaaGreatDoor.Seg
