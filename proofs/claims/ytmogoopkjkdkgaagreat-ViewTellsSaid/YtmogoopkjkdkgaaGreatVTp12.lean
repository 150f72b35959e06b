/- Package fold: Have, Members, the mask of a set. The document's fold: its rows in memory; what it is made of. Order: heaps of lists, and merging: plain, no program. Order: the methods of the heap of lists: how they are found; compare, Len, Less. -/
import Derived.Laws.OwnMore
import Derived.Lib.SliceRun
import Derived.Deep.RegionWith
import Derived.Deep.QuietTactic
import Derived.Deep.RegionHeld3
import Derived.Test.YtmogoopkjkdkgaaGreatVTp06
import Derived.Test.YtmogoopkjkdkgaaGreatVTp10
import Derived.Test.YtmogoopkjkdkgaaGreatVTp11
namespace Go.Proofs.YtmogoopkjkdkgaaGreat.Fol
open Go Go.RowKit Go.Proofs.YtmogoopkjkdkgaaGreat.Words Go.Proofs.YtmogoopkjkdkgaaGreat.Enc Go.Proofs.YtmogoopkjkdkgaaGreat.Q Go.Proofs.YtmogoopkjkdkgaaGreat.Evt Go.Maps Go.Sort Go.Shelf
set_option linter.unusedVariables false
set_option linter.unusedSimpArgs false

theorem FoldAt.seesH {S : List Nat} {d mb : Nat} {F : Fo} {w : World} (h : FoldAt w S d mb F) : Vec.SeesU w (some ⟨d, 129, none⟩) 64 F.H := ⟨h.ok.h, fun _ => ⟨d, 129, rfl, fun j x hj => by
  have hj64 : j < 64 := by have h1 := (List.getElem?_eq_some_iff.1 hj).1; have h2 := h.ok.h; omega
  have h3 := h.cH hj64
  rw [show F.H.getD j 0 = x by simp [List.getD, hj]] at h3
  exact h3⟩⟩
set_option maxRecDepth 100000 in
theorem have_any (S : List Nat) (d mb : Nat) (F : Fo) (w : World) (h : FoldAt w S d mb F) :
    Calls Tryz.prog 30 #[.pointer (some ⟨d, 0, none⟩)] w (Vec.Trims w F.H 64) := by
  have TR := Lib.hid (Vec.trim_at (some ⟨d, 129, none⟩) 64 64 F.H w h.seesH (by omega) (by omega) (by omega))
  have c0 := h.c0
  have hlt := h.lt
  have hr := h.row
  unfold Vec.Trims at *
  obtain ⟨K, hK⟩ : ∃ K, K = Vec.trimN F.H 64 := ⟨_, rfl⟩
  rw [← hK] at TR ⊢
  clear h hK
  go_enter Tryz.func30, Tryz.ntmps30
  go_wp2_with fail
  refine TR.out.mono ?_
  rintro e w2 ⟨R, rc, rfl, h1, h2⟩
  have FIN := Lib.hid (And.intro h1 h2)
  clear h1 h2 TR
  go_wp2
  go_ret
  exact ⟨_, _, rfl, FIN.out⟩

def memL (F : Fo) : Nat → List Nat
  | 0 => []
  | j + 1 => memL F j ++ if memB F (j : Int) = true then [j] else []
def nodesV (l : List Nat) : List Value := l.map fun x : Nat => Value.int .i64 (x : Int)
theorem infoInt : (Tryz.prog.info? 3).map (fun i => (i.zero, i.size, i.bytes)) = some (some (.int .i64 0), 1, 8) := by kernel_rfl
set_option maxRecDepth 100000 in
set_option maxHeartbeats 1000000 in
theorem members_any (S : List Nat) (d mb : Nat) (F : Fo) (w : World) (h : FoldAt w S d mb F) :
    Calls Tryz.prog 39 #[.pointer (some ⟨d, 0, none⟩)] w fun e w' => ∃ A c, e = .returned (.slice A (memL F 64).length c) ∧ w'.ownsRow w.heap.size 3 1 (.slice A (memL F 64).length c) (memL F 64).length (nodesV (memL F 64)) ∧ Below w.heap.size w w' := by
  obtain ⟨i, hi, hz, hsz, hby⟩ := info_parts infoInt
  have H := Lib.hid h
  obtain ⟨ML, hML⟩ : ∃ ML, ML = memL F 64 := ⟨_, rfl⟩
  rw [← hML]
  have HML := Lib.hid hML
  clear h hML
  go_enter Tryz.func39, Tryz.ntmps39
  go_wp2_with fail
  go_loopw [3, 5] (fun a3 a5 wr => ∃ (j : Nat) (A : Option Addr) (m c : Nat), a5 = .int .i64 (j : Int) ∧ a3 = .slice A m c ∧ j ≤ 64 ∧ m ≤ j ∧ Hid (m = (memL F j).length) ∧ Hid (wr.ownsRow w.heap.size 3 1 (.slice A m c) m (nodesV (memL F j))) ∧ Hid (Below w.heap.size w wr)) (fun a3 a5 _ => 64 - (intOf a5).toNat)
  case atStart => exact ⟨0, none, 0, 0, rfl, rfl, by omega, by omega, Lib.hid rfl, Lib.hid (World.ownsRow_nil _ _ _ _), Lib.hid (Below.refl _ _)⟩
  case round =>
    obtain ⟨j, A, m, c, rfl, rfl, hj, hmj, HM, HO, HB⟩ := hrel
    by_cases h1 : j < 64
    · have hd : decide ((j : Int) < 64) = true := decide_eq_true (by omega)
      have MB := Lib.hid (member_any (j : Int) wr (H.out.below HB.out))
      obtain ⟨x, hx⟩ : ∃ x, x = memB F (j : Int) := ⟨_, rfl⟩
      rw [← hx] at MB
      have HX := Lib.hid hx
      clear hx
      cases x with
      | true =>
        go_wp2_with fail
        refine MB.out.mono ?_
        rintro e w1 ⟨rfl, hb1⟩
        have hb0 := HB.out
        have o1 := Own.below HO.out hb1 (Nat.le_refl _)
        have hs1 := hb0.size
        have hs2 := hb1.size
        have o2 := World.ownsRow.alloc o1 (.cells #[.int .i64 (j : Int)] 3)
        have HL : Hid (memL F (j + 1) = memL F j ++ [j]) := Lib.hid (by rw [memL, if_pos HX.out.symm])
        have HB1 := Lib.hid hb1
        clear hb1 MB hb0 o1
        go_wp2_with (first | (at_builtin; (refine wpList_append_own _ rfl _ _ 47 rfl w.heap.size 3 i (.int .i64 0) 1 8 Tryz.underlying47 hi hz hsz hby rfl (by decide) (.slice A m c) m (nodesV (memL F j)) rfl o2 ⟨w1.heap.size, 0, none⟩ 1 1 [.int .i64 (j : Int)] rfl rfl ?c1 ?c2 ?c3 ?c4 ?c5 ?_)))
        case c1 =>
          intro j u hj
          match j, hj with
          | 0, hj => simp at hj; subst hj; simp [Addr.add]
        case c2 => intro u hu; simp at hu; subst hu; rfl
        case c3 => unfold maxLen; omega
        case c4 => omega
        case c5 => simp; omega
        intro v' w3 hown3 hgrow _
        have hb3 : Below w.heap.size (w1.alloc (.cells #[.int .i64 (j : Int)] 3)) w3 := (Below.refl _ _).grown hgrow (by simp; omega) (fun g hg => by have := (o2.lt g hg).1; omega)
        have HB3 := Lib.hid ((HB.out.trans (HB1.out.mono hs1)).trans (((Below.refl _ _).alloc (by omega) _).trans hb3))
        obtain ⟨A3, c3, rfl, _⟩ := Own.shape hown3
        have HO3 := Lib.hid hown3
        clear hown3 hb3 hgrow o2
        go_wp2
        go_roundw
        case rel => exact ⟨j + 1, A3, m + 1, c3, by simp, rfl, by omega, by omega, Lib.hid (by rw [HL.out, List.length_append, ← HM.out]; rfl), Lib.hid (by rw [HL.out]; simpa [nodesV] using HO3.out), HB3⟩
        case measure => simp [intOf]; omega
      | false =>
        go_wp2_with fail
        refine MB.out.mono ?_
        rintro e w1 ⟨rfl, hb1⟩
        have hs1 := HB.out.size
        have HO1 := Lib.hid (Own.below HO.out hb1 (Nat.le_refl _))
        have HB1 := Lib.hid (HB.out.trans (hb1.mono hs1))
        have HL : Hid (memL F (j + 1) = memL F j) := Lib.hid (by rw [memL, if_neg (by rw [← HX.out]; simp)]; simp)
        clear hb1 MB
        go_wp2
        go_roundw
        case rel => exact ⟨j + 1, A, m, c, by simp, rfl, by omega, by omega, Lib.hid (by rw [HL.out]; exact HM.out), Lib.hid (by rw [HL.out]; exact HO1.out), HB1⟩
        case measure => simp [intOf]; omega
    · have hd : decide ((j : Int) < 64) = false := decide_eq_false (by omega)
      obtain rfl : j = 64 := by omega
      go_wp2
      go_ret
      have hm := HM.out
      have ho := HO.out
      rw [← HML.out] at hm ho
      subst hm
      exact ⟨A, c, rfl, ho, HB.out⟩
end Go.Proofs.YtmogoopkjkdkgaaGreat.Fol
namespace Go.Proofs.YtmogoopkjkdkgaaGreat.Fol
open Go Go.RowKit Go.Proofs.YtmogoopkjkdkgaaGreat.Words Go.Proofs.YtmogoopkjkdkgaaGreat.Enc Go.Proofs.YtmogoopkjkdkgaaGreat.Q Go.Proofs.YtmogoopkjkdkgaaGreat.Evt
set_option linter.unusedVariables false
set_option linter.unusedSimpArgs false

/-- Cells behind a slice; they lie outside S. -/
def SeesV (w : World) (S : List Nat) (A : Option Addr) (vs : List Value) : Prop := vs ≠ [] → ∃ b o, A = some ⟨b, o, none⟩ ∧ b ∉ S ∧ ∀ j v, vs[j]? = some v → w.cell? ⟨b, o + j, none⟩ = some v
section
variable {w w' : World} {S : List Nat} {A : Option Addr} {vs : List Value}
theorem SeesV.nil : SeesV w S A [] := fun h => absurd rfl h
theorem SeesV.beside {S1 : List Nat} (h : SeesV w S A vs) (hb : Beside S1 w w') (hS : ∀ x ∈ S1, x ∈ S ∨ w.heap.size ≤ x) : SeesV w' S A vs := fun hn => by
  obtain ⟨b, o, hA, hbS, hc⟩ := h hn
  have hlt : b < w.heap.size := by
    obtain ⟨v, r, rfl⟩ := List.exists_cons_of_ne_nil hn
    exact World.block_lt_of_cell? _ _ (hc 0 v rfl)
  refine ⟨b, o, hA, hbS, fun j v hv => hb.cell (hc j v hv) fun hm => ?_⟩
  rcases hS b hm with h1 | h1
  · exact hbS h1
  · omega
theorem SeesV.below (h : SeesV w S A vs) (hb : Below w.heap.size w w') : SeesV w' S A vs := h.beside (S1 := []) (.of_below hb _) fun x hx => by cases hx
theorem SeesV.wider {S1 : List Nat} (h : SeesV w S A vs) (hS : ∀ x ∈ S1, x ∈ S ∨ w.heap.size ≤ x) : SeesV w S1 A vs := fun hn => by
  obtain ⟨b, o, hA, hbS, hc⟩ := h hn
  have hlt : b < w.heap.size := by
    obtain ⟨v, r, rfl⟩ := List.exists_cons_of_ne_nil hn
    exact World.block_lt_of_cell? _ _ (hc 0 v rfl)
  refine ⟨b, o, hA, fun hm => ?_, hc⟩
  rcases hS b hm with h1 | h1
  · exact hbS h1
  · omega
theorem SeesV.of_own {base : Nat} {e : TypeId} {size n c : Nat} (h : w.ownsRow base e size (.slice A n c) n vs) (hS : ∀ x ∈ S, x < base) : SeesV w S A vs := fun hn => by
  rcases h.2 with ⟨hv, h0⟩ | ⟨g, cap, cur, hv, hg, _⟩
  · subst h0
    have := h.1
    rw [Nat.zero_mul] at this
    exact absurd (List.eq_nil_of_length_eq_zero this) hn
  · injection hv with hA
    subst hA
    exact ⟨g, 0, rfl, fun hm => by have := hS g hm; omega, fun j u hu => by rw [← add_plain]; exact h.cells (g := g) rfl j _ hu⟩
theorem SeesV.take (h : SeesV w S A vs) (k : Nat) : SeesV w S A (vs.take k) := fun hn => by
  obtain ⟨b, o, hA, hbS, hc⟩ := h (fun e => hn (by rw [e]; simp))
  refine ⟨b, o, hA, hbS, fun j v hv => hc j v ?_⟩
  rw [List.getElem?_take] at hv
  split at hv
  · exact hv
  · cases hv
theorem SeesV.drop (h : SeesV w S A vs) (k : Nat) {A' : Option Addr} (hA' : ∀ b o, k < vs.length → A = some ⟨b, o, none⟩ → A' = some ⟨b, o + k, none⟩) : SeesV w S A' (vs.drop k) := fun hn => by
  have hk : k < vs.length := by
    rcases Nat.lt_or_ge k vs.length with h1 | h1
    · exact h1
    · exact absurd (List.drop_eq_nil_of_le h1) hn
  obtain ⟨b, o, hA, hbS, hc⟩ := h (fun e => by rw [e] at hk; simp at hk)
  refine ⟨b, o + k, hA' b o hk hA, hbS, fun j v hv => ?_⟩
  rw [Nat.add_assoc]
  exact hc _ v (by rw [← hv, List.getElem?_drop])
theorem SeesV.get (h : SeesV w S A vs) {j : Nat} {v : Value} (hv : vs[j]? = some v) : ∃ b o, A = some ⟨b, o, none⟩ ∧ w.cell? ⟨b, o + j, none⟩ = some v := by
  obtain ⟨b, o, hA, _, hc⟩ := h (fun e => by rw [e] at hv; cases hv)
  exact ⟨b, o, hA, hc j v hv⟩
end
section
variable {P : Program}
/-- append onto what the call owns, of cells that are seen. -/
theorem run_appV {w : World} {S : List Nat} (base : Nat) (t ty e : TypeId) (i : TypeInfo) (z : Value) (size bytes : Nat) (ht : P.underlying t = some (.slice e)) (hi : P.info? e = some i) (hz : i.zero = some z)
    (hsize : i.size = size) (hby : i.bytes = bytes) (hzs : z.cells.size = size) (hsz : 0 < size)
    (A : Option Addr) (n c : Nat) (xs : List Value) (hown : w.ownsRow base e size (.slice A n c) n xs)
    (B : Option Addr) (m k : Nat) (news : List Value) (hs : SeesV w S B news) (hl : news.length = m * size) (h1 : ∀ u ∈ news, u.oneCell' = true) (h63 : n + m ≤ maxLen) (hbytes : (n + m) * bytes ≤ 140737488355328) (hbase : base ≤ w.heap.size) :
    ∃ A' c' w', (Builtin.append_ #[t, t] ty #[.slice A n c, .slice B m k]).run P w = .ok (.slice A' (n + m) c') w' ∧ w'.ownsRow base e size (.slice A' (n + m) c') (n + m) (xs ++ news) ∧ Below base w w' := by
  cases B with
  | none =>
    have hm : m = 0 := by
      rcases Nat.eq_zero_or_pos m with h0 | h0
      · exact h0
      · have hp : 0 < m * size := Nat.mul_pos h0 hsz
        obtain ⟨b, o, h, _⟩ := hs (fun e => by rw [e] at hl; simp at hl; omega)
        cases h
    subst hm
    have hq : news = [] := List.eq_nil_of_length_eq_zero (by rw [hl, Nat.zero_mul])
    subst hq
    refine ⟨A, c, w, ?_, by simpa using hown, Below.refl _ _⟩
    rcases hown.2 with ⟨hv, rfl⟩ | ⟨g, cap, cur, hv, _, _, hnc, _⟩
    · injection hv with h1 h2 h3
      subst h1; subst h3
      simp [Builtin.append_, run_underlying ht, sizeOf, typeInfo, hi, Builtin.lenOf, Builtin.firstCells]
    · injection hv with h1 h2 h3
      subst h1; subst h3
      simp [Builtin.append_, run_underlying ht, sizeOf, typeInfo, hi, Builtin.lenOf, Builtin.firstCells, hnc, storeCells]
  | some ad =>
    have hcells : ∀ j u, news[j]? = some u → w.cell? (ad.add j) = some u := by
      intro j u hu
      obtain ⟨b, o, h, hc⟩ := hs.get hu
      injection h with h
      subst h
      rw [add_plain]
      exact hc
    obtain ⟨v', w', hrun, h2, h3, _⟩ := run_append_own (P := P) w base t ty e i z size bytes ht hi hz hsize hby hzs hsz (.slice A n c) n xs hown ad m k news hl hcells h1 h63 hbytes hbase
    have hB : Below base w w' := (Below.refl base w).grown h3 hbase fun g hg => (hown.lt g hg).1
    obtain ⟨A', c', rfl⟩ : ∃ A' c', v' = .slice A' (n + m) c' := by
      rcases h2.2 with ⟨rfl, h0⟩ | ⟨g, cap, cur, rfl, _⟩
      · exact ⟨none, 0, by rw [h0]⟩
      · exact ⟨_, cap, rfl⟩
    exact ⟨A', c', w', hrun, h2, hB⟩
theorem wpList_appV {w : World} {ops : Array Oper} {rest : List Oper} {o : Oper} {a : Act} {Q : Exit → Act → World → Prop} {S : List Nat} (hgd : o.guard = none) (s x : Operand) (t : TypeId)
    (ho : o.op = .call { callee := .builtin .append, args := #[s, x], argTypes := #[t, t] })
    (base : Nat) (e : TypeId) (i : TypeInfo) (z : Value) (size bytes : Nat) (ht : P.underlying t = some (.slice e)) (hi : P.info? e = some i) (hz : i.zero = some z)
    (hsize : i.size = size) (hby : i.bytes = bytes) (hzs : z.cells.size = size) (hsz : 0 < size)
    (A : Option Addr) (n c : Nat) (xs : List Value) (hs : a.eval s = .slice A n c) (hown : w.ownsRow base e size (.slice A n c) n xs)
    (B : Option Addr) (m k : Nat) (news : List Value) (hx : a.eval x = .slice B m k) (hq : SeesV w S B news) (hl : news.length = m * size) (h1 : ∀ u ∈ news, u.oneCell' = true) (h63 : n + m ≤ maxLen) (hbytes : (n + m) * bytes ≤ 140737488355328) (hbase : base ≤ w.heap.size)
    (h : ∀ A' c' w', w'.ownsRow base e size (.slice A' (n + m) c') (n + m) (xs ++ news) → Below base w w' → wpList P ops Q rest (a.put o.dst (.slice A' (n + m) c')) w') : wpList P ops Q (o :: rest) a w :=
  wpList_plain hgd fun _ hK => by
    obtain ⟨A', c', w', hrun, h2, h3⟩ := run_appV (P := P) base t o.type e i z size bytes ht hi hz hsize hby hzs hsz A n c xs hown B m k news hq hl h1 h63 hbytes hbase
    unfold Oper.wp execOp
    simp only [ho, resolve, invoke, builtin, Sem.run_bind, Sem.run_pure, Result.andThen_ok, List.map_toArray, List.map_cons, List.map_nil, hs, hx, hrun]
    exact hK _ _ (h A' c' w' h2 h3)
end

/-! ### quantities and truths -/
set_option maxRecDepth 100000 in
/-- The document's plain: some NaN for each. -/
theorem refPlain_any (x : Nat) (w : World) : Calls Tryz.prog 89 #[.float .f64 x] w fun e w' => ∃ r, e = .returned (.float .f64 r) ∧ qb r = qb x ∧ Below w.heap.size w w' := by
  cases hv : void x with
  | true =>
    obtain ⟨r, w1, hrun, hq, hb⟩ := sub_any x x 30 w
    rw [sub_void hv] at hq
    have hne : (FloatKind.f64.format.order x x != some .eq) = true := hv
    have hne2 : (FloatKind.f64.format.order x x == some .eq) = false := by simpa [bne] using hne
    go_enter Tryz.func89, Tryz.ntmps89
    go_wp2
    go_ret
    refine ⟨r, rfl, ?_, hb⟩
    rw [hq]
    simp [ob, qb, hv]
  | false =>
    have hne : (FloatKind.f64.format.order x x != some .eq) = false := hv
    have hne2 : (FloatKind.f64.format.order x x == some .eq) = true := by simpa [bne] using hne
    go_enter Tryz.func89, Tryz.ntmps89
    go_wp2
    go_ret
    exact ⟨x, rfl, rfl, Below.refl _ _⟩
theorem infoBool : (Tryz.prog.info? 4).map (fun i => (i.zero, i.size, i.bytes)) = some (some (.bool false), 1, 1) := by kernel_rfl
theorem bs_one (l : List Bool) : ∀ u ∈ bs l, u.oneCell' = true := by
  intro u hu
  obtain ⟨_, _, rfl⟩ := List.mem_map.1 hu
  rfl
theorem ownsRow_set {w : World} {base : Nat} {e : TypeId} {A : Option Addr} {n c : Nat} {xs : List Value} (h : w.ownsRow base e 1 (.slice A n c) n xs) {i : Nat} (hi : i < n) (v : Value) : ∃ g, A = some ⟨g, 0, none⟩ ∧ base ≤ g ∧ (∃ u, w.cell? ⟨g, i, none⟩ = some u) ∧ w.frozen? ⟨g, i, none⟩ = false ∧
    (w.setCell ⟨g, i, none⟩ v).ownsRow base e 1 (.slice A n c) n (xs.set i v) := by
  have hlen := h.1
  rcases h.2 with ⟨hv, h0⟩ | ⟨g, cap, cur, hv, hg, hh, h1, h2, h3, h4⟩
  · omega
  · injection hv with hA _ hc
    subst hA; subst hc
    have hil : i < cur.size := by omega
    refine ⟨g, rfl, hg, ⟨cur[i], ?_⟩, frozen_row0 hh, ?_⟩
    · rw [cell_of_row w g _ _ _ _ hh, Array.getElem?_eq_getElem hil]
    · refine ⟨by simp [hlen], .inr ⟨g, c, cur.setIfInBounds i v, rfl, hg, heapSame hh, h1, h2, by simpa using h3, ?_⟩⟩
      rw [Array.toList_setIfInBounds, List.take_set, h4]
set_option maxRecDepth 100000 in
set_option maxHeartbeats 1000000 in
/-- One more truth. -/
theorem refSet_any (A : Option Addr) (c : Nat) (l : List Bool) (i : Nat) (S : List Nat) (w : World) (hs : SeesV w S A (bs l)) (hl : l.length = 64) (hi : i < 64) :
    Calls Tryz.prog 92 #[.slice A 64 c, .int .i64 (i : Int)] w fun e w' => ∃ A' c', e = .returned (.slice A' 64 c') ∧ w'.ownsRow w.heap.size 4 1 (.slice A' 64 c') 64 (bs (l.set i true)) ∧ Below w.heap.size w w' := by
  obtain ⟨i0, hi0, hz, hsz, hby⟩ := info_parts infoBool
  have hlen : (bs l).length = 64 * 1 := by simp [bs, hl]
  have hone := bs_one l
  obtain ⟨q, hq⟩ : ∃ q, q = bs l := ⟨_, rfl⟩
  have hset : bs (l.set i true) = q.set i (.bool true) := by rw [hq]; simp [bs]
  rw [← hq] at hs hlen hone
  rw [hset]
  clear hq hset hl
  have hii : (i : Int) < 64 := by omega
  go_enter Tryz.func92, Tryz.ntmps92
  go_wp2_with (first | (at_builtin; refine wpList_appV rfl _ _ 56 rfl w.heap.size 4 i0 (.bool false) 1 1 Tryz.underlying56 hi0 hz hsz hby rfl (by decide) none 0 0 [] rfl (World.ownsRow_nil _ _ _ _) A 64 c q rfl hs hlen hone ?c1 ?c2 (Nat.le_refl _) ?_))
  case c1 => unfold maxLen; omega
  case c2 => omega
  intro A1 c1 w1 hown hb
  obtain ⟨g, rfl, hg, ⟨u, hu⟩, hf, hown2⟩ := ownsRow_set hown hi (.bool true)
  have HO := Lib.hid hown2
  have HB := Lib.hid hb
  clear hown hown2 hb hs hone hlen
  go_wp2
  go_ret
  exact ⟨_, _, rfl, HO.out, HB.out.setCell (by simpa using hg) _⟩
end Go.Proofs.YtmogoopkjkdkgaaGreat.Fol
namespace Go.Proofs.YtmogoopkjkdkgaaGreat.Ord
open Go Go.RowKit Go.Proofs.YtmogoopkjkdkgaaGreat.Words Go.Proofs.YtmogoopkjkdkgaaGreat.Enc Go.Proofs.YtmogoopkjkdkgaaGreat.Evt Go.Proofs.YtmogoopkjkdkgaaGreat.Seg
set_option linter.unusedVariables false
set_option linter.unusedSimpArgs false

section
variable {α : Type} {le : α → α → Prop}
/-- No place of the first n is ahead of its parent. -/
def Heaped (le : α → α → Prop) (f : Nat → α) (n : Nat) : Prop := ∀ k, 0 < k → k < n → le (f ((k - 1) / 2)) (f k)
def swp (f : Nat → α) (i j : Nat) : Nat → α := fun k => if k = i then f j else if k = j then f i else f k
def UpInv (le : α → α → Prop) (f : Nat → α) (n j : Nat) : Prop :=
  (∀ k, 0 < k → k < n → k ≠ j → le (f ((k - 1) / 2)) (f k)) ∧ (0 < j → ∀ k, 0 < k → k < n → (k - 1) / 2 = j → le (f ((j - 1) / 2)) (f k))
theorem UpInv.stop {f : Nat → α} {n j : Nat} (h : UpInv le f n j) (hs : j = 0 ∨ le (f ((j - 1) / 2)) (f j)) : Heaped le f n := fun k h1 h2 => by
  by_cases e : k = j
  · subst e
    rcases hs with rfl | h
    · omega
    · exact h
  · exact h.1 k h1 h2 e
theorem UpInv.go (tr : ∀ a b c, le a b → le b c → le a c) {f : Nat → α} {n j : Nat} (h : UpInv le f n j) (hj : 0 < j) (hjn : j < n) (hl : le (f j) (f ((j - 1) / 2))) :
    UpInv le (swp f ((j - 1) / 2) j) n ((j - 1) / 2) := by
  generalize hp : (j - 1) / 2 = p at hl ⊢
  have hpj : p < j := by omega
  refine ⟨fun k h1 h2 h3 => ?_, fun h0 k h1 h2 h3 => ?_⟩
  · by_cases e : k = j
    · subst e
      rw [hp]
      simp only [swp, if_pos rfl, if_neg h3]
      simpa using hl
    · have hk := h.1 k h1 h2 e
      by_cases e1 : (k - 1) / 2 = p
      · rw [e1] at hk ⊢
        simp only [swp, if_pos rfl, if_neg h3, if_neg e]
        simpa using tr _ _ _ hl hk
      · by_cases e2 : (k - 1) / 2 = j
        · have := h.2 hj k h1 h2 e2
          rw [hp] at this
          rw [e2]
          simp only [swp, if_neg (show ¬ j = p by omega), if_pos rfl, if_neg h3, if_neg e]
          simpa using this
        · simp only [swp, if_neg e1, if_neg e2, if_neg h3, if_neg e]
          exact hk
  · have hq : ¬ (p - 1) / 2 = p := by omega
    have hq2 : ¬ (p - 1) / 2 = j := by omega
    have hb := h.1 p h0 (by omega) (by omega)
    by_cases e : k = j
    · subst e
      simp only [swp, if_neg hq, if_neg hq2, if_neg (show ¬ k = p by omega), if_pos rfl]
      simpa using hb
    · have hk := h.1 k h1 h2 e
      rw [h3] at hk
      simp only [swp, if_neg hq, if_neg hq2, if_neg (show ¬ k = p by omega), if_neg e]
      exact tr _ _ _ hb hk
def DownInv (le : α → α → Prop) (f : Nat → α) (n i : Nat) : Prop :=
  (∀ k, 0 < k → k < n → (k - 1) / 2 ≠ i → le (f ((k - 1) / 2)) (f k)) ∧ (0 < i → ∀ k, 0 < k → k < n → (k - 1) / 2 = i → le (f ((i - 1) / 2)) (f k))
theorem DownInv.stop {f : Nat → α} {n i : Nat} (h : DownInv le f n i) (hs : ∀ k, 0 < k → k < n → (k - 1) / 2 = i → le (f i) (f k)) : Heaped le f n := fun k h1 h2 => by
  by_cases e : (k - 1) / 2 = i
  · rw [e]; exact hs k h1 h2 e
  · exact h.1 k h1 h2 e
theorem DownInv.go {f : Nat → α} {n i j : Nat} (h : DownInv le f n i) (hj : 0 < j) (hjn : j < n) (hji : (j - 1) / 2 = i) (hl : le (f j) (f i))
    (hm : ∀ k, 0 < k → k < n → (k - 1) / 2 = i → le (f j) (f k)) : DownInv le (swp f i j) n j := by
  have hij : i < j := by omega
  refine ⟨fun k h1 h2 h3 => ?_, fun _ k h1 h2 h3 => ?_⟩
  · by_cases e : k = j
    · subst e
      rw [hji]
      simp only [swp, if_pos rfl, if_neg (show ¬ k = i by omega)]
      simpa using hl
    · by_cases e1 : (k - 1) / 2 = i
      · have := hm k h1 h2 e1
        rw [e1]
        simp only [swp, if_pos rfl, if_neg (show ¬ k = i by omega), if_neg e]
        simpa using this
      · by_cases e2 : k = i
        · subst e2
          have := h.2 h1 j hj hjn hji
          simp only [swp, if_neg (show ¬ (k - 1) / 2 = k by omega), if_neg (show ¬ (k - 1) / 2 = j by omega), if_pos rfl]
          simpa using this
        · simp only [swp, if_neg e1, if_neg h3, if_neg e2, if_neg e]
          exact h.1 k h1 h2 e1
  · have := h.1 k h1 h2 (by omega)
    rw [h3] at this
    rw [hji]
    simp only [swp, if_pos rfl, if_neg (show ¬ k = i by omega), if_neg (show ¬ k = j by omega)]
    simpa using this
theorem Heaped.root (rf : ∀ a, le a a) (tr : ∀ a b c, le a b → le b c → le a c) {f : Nat → α} {n : Nat} (h : Heaped le f n) : ∀ k, k < n → le (f 0) (f k) := by
  intro k
  induction k using Nat.strongRecOn with
  | _ k ih =>
    intro hk
    by_cases e : k = 0
    · subst e; exact rf _
    · exact tr _ _ _ (ih ((k - 1) / 2) (by omega) (by omega)) (h k (by omega) hk)
/-- Of a heap of which the first place is another one. -/
theorem Heaped.down0 {f g : Nat → α} {n : Nat} (h : Heaped le f n) (hg : ∀ k, 0 < k → k < n → g k = f k) {m : Nat} (hm : m ≤ n) : DownInv le g m 0 :=
  ⟨fun k h1 h2 h3 => by rw [hg k h1 (by omega), hg ((k - 1) / 2) (by omega) (by omega)]; exact h k h1 (by omega), fun h => absurd h (by omega)⟩
theorem Heaped.upLast {f g : Nat → α} {n : Nat} (h : Heaped le f n) (hg : ∀ k, k < n → g k = f k) : UpInv le g (n + 1) n :=
  ⟨fun k h1 h2 h3 => by rw [hg k (by omega), hg ((k - 1) / 2) (by omega)]; exact h k h1 (by omega), fun h0 k h1 h2 h3 => by omega⟩

/-- Two places of a list change. -/
def swL (l : List α) (d : α) (i j : Nat) : List α := (l.set i (l.getD j d)).set j (l.getD i d)
theorem swL_len (l : List α) (d : α) (i j : Nat) : (swL l d i j).length = l.length := by simp [swL]
theorem swL_at (l : List α) (d : α) (i j : Nat) (hi : i < l.length) (hj : j < l.length) (k : Nat) : (swL l d i j).getD k d = swp (fun k => l.getD k d) i j k := by
  unfold swL swp
  by_cases e : k = j
  · subst e
    simp only [List.getD_eq_getElem?_getD, List.getElem?_set, List.length_set]
    rw [if_pos trivial, if_pos hj]
    by_cases e2 : k = i
    · subst e2; simp
    · rw [if_neg e2]; simp
  · by_cases e2 : k = i
    · subst e2
      simp only [List.getD_eq_getElem?_getD, List.getElem?_set, List.length_set]
      rw [if_neg (fun h => e h.symm), if_pos trivial, if_pos hi]
      simp
    · simp only [List.getD_eq_getElem?_getD, List.getElem?_set, List.length_set]
      rw [if_neg (fun h => e h.symm), if_neg (fun h => e2 h.symm), if_neg e2, if_neg e]
theorem swL_perm (l : List α) (d : α) (i j : Nat) (hi : i < l.length) (hj : j < l.length) : (swL l d i j).Perm l := by
  have h := Array.swap_perm (xs := l.toArray) (i := i) (j := j) (by simpa using hi) (by simpa using hj)
  rw [Array.perm_iff_toList_perm, Array.toList_swap] at h
  unfold swL
  simpa [List.getD_eq_getElem?_getD, List.getElem?_eq_getElem hi, List.getElem?_eq_getElem hj] using h
end

/-- An event doesn't stand behind another one. -/
def evLe (a b : EvS) : Prop := a.e.time < b.e.time ∨ (a.e.time = b.e.time ∧ a.e.writer ≤ b.e.writer)
theorem evLe_refl (a : EvS) : evLe a a := .inr ⟨rfl, Int.le_refl _⟩
theorem evLe_trans (a b c : EvS) (h1 : evLe a b) (h2 : evLe b c) : evLe a c := by unfold evLe at *; omega
/-- A list of the heap: where it lies, how much room it has, what it has. -/
structure HV where
  A : Option Addr
  c : Nat
  S : List EvS
instance : Inhabited HV := ⟨⟨none, 0, []⟩⟩
def HV.val (h : HV) : Value := .slice h.A h.S.length h.c
def noEv : EvS := ⟨⟨0, 0, 0, 0, ⟨#[]⟩, [], 0, 0⟩, none, 0, 0⟩
def HV.one (h : HV) : EvS := h.S.headD noEv
def hvLe (a b : HV) : Prop := evLe a.one b.one
theorem hvLe_refl (a : HV) : hvLe a a := evLe_refl _
theorem hvLe_trans (a b c : HV) (h1 : hvLe a b) (h2 : hvLe b c) : hvLe a c := evLe_trans _ _ _ h1 h2
def noHV : HV := ⟨none, 0, []⟩
def HV.at_ (hs : List HV) : Nat → HV := fun k => hs.getD k noHV
/-- A heap of lists that are not empty. -/
structure Heap (hs : List HV) : Prop where
  ord : Heaped hvLe (HV.at_ hs) hs.length
  ne : ∀ h ∈ hs, h.S ≠ []
def flat (hs : List HV) : List EvS := hs.flatMap HV.S
theorem flat_perm {a b : List HV} (h : a.Perm b) : (flat a).Perm (flat b) := List.Perm.flatMap_right _ h
def Rises (l : List EvS) : Prop := l.Pairwise evLe
theorem one_mem {h : HV} (hn : h.S ≠ []) : h.one ∈ h.S := by
  unfold HV.one
  cases hS : h.S with
  | nil => exact absurd hS hn
  | cons a l => exact List.mem_cons_self
/-- The first of the first list is the first of all. -/
theorem Heap.least {hs : List HV} (h : Heap hs) (hr : ∀ x ∈ hs, Rises x.S) : ∀ e ∈ flat hs, evLe (HV.at_ hs 0).one e := by
  intro e he
  obtain ⟨x, hx, hex⟩ := List.mem_flatMap.1 he
  obtain ⟨k, hk, rfl⟩ := List.getElem_of_mem hx
  have h0 := h.ord.root hvLe_refl hvLe_trans k hk
  have hk2 : HV.at_ hs k = hs[k] := by simp [HV.at_, List.getD_eq_getElem?_getD, List.getElem?_eq_getElem hk]
  rw [hk2] at h0
  refine evLe_trans _ _ _ h0 ?_
  have hp := hr _ hx
  unfold Rises at hp
  unfold HV.one
  cases hS : hs[k].S with
  | nil => rw [hS] at hex; cases hex
  | cons a l =>
    rw [hS] at hex hp
    rcases List.mem_cons.1 hex with rfl | hm
    · exact evLe_refl _
    · exact (List.pairwise_cons.1 hp).1 _ hm
end Go.Proofs.YtmogoopkjkdkgaaGreat.Ord
namespace Go.Proofs.YtmogoopkjkdkgaaGreat.Ord
open Go Go.RowKit Go.Proofs.YtmogoopkjkdkgaaGreat.Words Go.Proofs.YtmogoopkjkdkgaaGreat.Enc Go.Proofs.YtmogoopkjkdkgaaGreat.Evt Go.Proofs.YtmogoopkjkdkgaaGreat.Seg
set_option linter.unusedVariables false
set_option linter.unusedSimpArgs false

/-- A list lies below block B. -/
def Lies (B : Nat) (w : World) (h : HV) : Prop := (h.S.length ≤ h.c ∧ h.c ≤ 9223372036854775807) ∧ (0 < h.S.length → ∃ b o, b < B ∧ h.A = some ⟨b, o, none⟩ ∧ ∀ j v, (rowsL h.S)[j]? = some v → w.cell? ⟨b, o + j, none⟩ = some v)
theorem Lies.below {B : Nat} {w w' : World} {h : HV} (hl : Lies B w h) (hb : Below B w w') : Lies B w' h := ⟨hl.1, fun hn => by
  obtain ⟨b, o, h1, h2, h3⟩ := hl.2 hn
  exact ⟨b, o, h1, h2, fun j v hv => by rw [hb.cell h1]; exact h3 j v hv⟩⟩
theorem Lies.raw {B : Nat} {w : World} {h : HV} (hl : Lies B w h) : RawEv w h.A h.S := fun hn => by
  obtain ⟨b, o, h1, h2, h3⟩ := hl.2 hn
  exact ⟨b, o, h2, h3⟩
/-- The blocks that a heap's calls turn: the variable's, the row's. -/
def mine (p : Nat) (A : Option Addr) : List Nat := p :: (A.map fun a => a.block).toList
theorem mine_low {B p : Nat} {A : Option Addr} (hp : B ≤ p) (hA : ∀ a, A = some a → B ≤ a.block) : ∀ x ∈ mine p A, B ≤ x := by
  intro x hx
  rcases List.mem_cons.1 hx with rfl | hx
  · exact hp
  · cases A with
    | none => simp at hx
    | some a => simp at hx; subst hx; exact hA a rfl
/-- The variable at block p has the heads hs, in a row of its own above B. -/
structure HeadsAt (B p : Nat) (T : TypeId) (A : Option Addr) (c : Nat) (hs : List HV) (w : World) : Prop where
  box : w.heap[p]? = some (.cells #[.slice A hs.length c] T (0, 0))
  own : w.ownsRow B 24 1 (.slice A hs.length c) hs.length (hs.map HV.val)
  apart : ∀ a, A = some a → a.block ≠ p
  low : B ≤ p
  lie : ∀ h ∈ hs, Lies B w h
theorem HeadsAt.cell {B p : Nat} {T : TypeId} {A : Option Addr} {c : Nat} {hs : List HV} {w : World} (h : HeadsAt B p T A c hs w) : w.cell? ⟨p, 0, none⟩ = some (.slice A hs.length c) := by
  rw [cell_of_row w p _ _ _ _ h.box]; rfl
theorem HeadsAt.below {B p : Nat} {T : TypeId} {A : Option Addr} {c : Nat} {hs : List HV} {w w' : World} (h : HeadsAt B p T A c hs w) (hb : Below w.heap.size w w') : HeadsAt B p T A c hs w' :=
  ⟨(hb.block p (Array.getElem?_eq_some_iff.1 h.box).1).trans h.box, own_below8 h.own hb (Nat.le_refl _), h.apart, h.low, fun x hx => (h.lie x hx).below (hb.mono (by have := h.low; have := (Array.getElem?_eq_some_iff.1 h.box).1; omega))⟩

abbrev IH (p : Nat) : Value := .iface 138 (.pointer (some ⟨p, 0, none⟩))
theorem m_find (K p : Nat) (w : World) (name : String) (f : FuncId) (v : Value)
    (h2 : (((Tryz.prog.info? 138).getD default).methods.find? (·.name == name)).map (fun m => (m.path, m.func)) = some (#[], some (f, false)))
    (h : w.cell? ⟨p, 0, none⟩ = some v) : (method (K + 1) 138 (.pointer (some ⟨p, 0, none⟩)) name).run Tryz.prog w = .ok (f, v) w := by
  have z1 : ∀ w, (typeInfo 138).run Tryz.prog w = .ok ((Tryz.prog.info? 138).getD default) w := fun w => by kernel_rfl
  generalize (Tryz.prog.info? 138).getD default = I at z1 h2
  have z3 : ∀ s, (receiverAt 138 (.val (.pointer (some ⟨p, 0, none⟩))) false (some s)).run Tryz.prog w = (load ⟨p, 0, none⟩).run Tryz.prog w := fun s => by kernel_rfl
  cases hm : I.methods.find? (·.name == name) with
  | none => rw [hm] at h2; cases h2
  | some m =>
    rw [hm] at h2
    simp only [Option.map_some, Option.some.injEq, Prod.mk.injEq] at h2
    simp only [method, Sem.run_bind, z1, Result.andThen_ok, hm, h2.1, h2.2, follow, Sem.run_pure]
    simp only [Array.isEmpty_empty, if_true, Sem.run_bind, Result.andThen_ok, Sem.run_pure, z3]
    simp [h, go_sem]
theorem m_len (p : Nat) (v : Value) (w : World) (h : w.cell? ⟨p, 0, none⟩ = some v) : (method 291 138 (.pointer (some ⟨p, 0, none⟩)) "Len").run Tryz.prog w = .ok (150, v) w := m_find 290 p w _ _ v (by kernel_rfl) h
theorem m_less (p : Nat) (v : Value) (w : World) (h : w.cell? ⟨p, 0, none⟩ = some v) : (method 291 138 (.pointer (some ⟨p, 0, none⟩)) "Less").run Tryz.prog w = .ok (151, v) w := m_find 290 p w _ _ v (by kernel_rfl) h
theorem m_swap (p : Nat) (v : Value) (w : World) (h : w.cell? ⟨p, 0, none⟩ = some v) : (method 291 138 (.pointer (some ⟨p, 0, none⟩)) "Swap").run Tryz.prog w = .ok (152, v) w := m_find 290 p w _ _ v (by kernel_rfl) h
theorem m_push (p : Nat) (w : World) : (method 291 138 (.pointer (some ⟨p, 0, none⟩)) "Push").run Tryz.prog w = .ok (155, .pointer (some ⟨p, 0, none⟩)) w := by kernel_rfl
theorem m_pop (p : Nat) (w : World) : (method 291 138 (.pointer (some ⟨p, 0, none⟩)) "Pop").run Tryz.prog w = .ok (154, .pointer (some ⟨p, 0, none⟩)) w := by kernel_rfl
/-- Does a stand ahead of b? -/
def lessB (a b : EvS) : Bool := decide (cmpS a.e.time a.e.writer b.e.time b.e.writer < 0)
theorem lessB_yes {a b : EvS} (h : lessB a b = true) : evLe a b := by
  have h := of_decide_eq_true h
  unfold cmpS cmpI at h
  unfold evLe
  repeat' split at h
  all_goals omega
theorem lessB_no {a b : EvS} (h : lessB a b = false) : evLe b a := by
  have h := of_decide_eq_false h
  unfold cmpS cmpI at h
  unfold evLe
  repeat' split at h
  all_goals omega

theorem cells8 {w : World} {B : Nat} {r : EvS} {T : TypeId} (h : w.heap[B]? = some (.cells r.cells.toArray T (0, 0))) : w.cell? ⟨B, 0, none⟩ = some (.int .i64 r.e.writer) ∧ w.cell? ⟨B, 1, none⟩ = some (.int .u64 (r.e.seq : Int)) ∧ w.cell? ⟨B, 2, none⟩ = some (.int .u64 (r.e.time : Int)) ∧ w.cell? ⟨B, 3, none⟩ = some (.int .u8 (r.e.kind : Int)) ∧ w.cell? ⟨B, 4, none⟩ = some (.string r.e.key) ∧ w.cell? ⟨B, 5, none⟩ = some (.slice r.A r.n r.c) ∧ w.cell? ⟨B, 6, none⟩ = some (.float .f64 r.e.num) ∧ w.cell? ⟨B, 7, none⟩ = some (.int .i64 r.e.node) := by
  refine ⟨?_, ?_, ?_, ?_, ?_, ?_, ?_, ?_⟩ <;> (rw [cell_of_row w B _ _ _ _ h]; rfl)
set_option maxRecDepth 100000 in
theorem ordCmp_any (a b : EvS) (w : World) :
    Calls Tryz.prog 153 #[a.e.val a.A a.n a.c, b.e.val b.A b.n b.c] w fun e w' => e = .returned (.int .i64 (cmpS a.e.time a.e.writer b.e.time b.e.writer)) ∧ Below w.heap.size w w' := by
  obtain ⟨r, hr⟩ : ∃ r, r = cmpS a.e.time a.e.writer b.e.time b.e.writer := ⟨_, rfl⟩
  obtain ⟨u, hu⟩ : ∃ u, u = (w.alloc (.cells a.cells.toArray 32)).alloc (.cells b.cells.toArray 32) := ⟨_, rfl⟩
  have hb1 : Below w.heap.size w u := by rw [hu]; exact ((Below.refl _ _).alloc (Nat.le_refl _) _).alloc (by simp) _
  have g1 : u.heap[w.heap.size]? = some (.cells a.cells.toArray 32 (0, 0)) := by rw [hu]; exact (Below.heap_alloc _ _ _ (by simp)).trans (heap_alloc_new w _)
  have g2 : u.heap[w.heap.size + 1]? = some (.cells b.cells.toArray 32 (0, 0)) := by
    have := heap_alloc_new (w.alloc (.cells a.cells.toArray 32)) (.cells b.cells.toArray 32)
    rw [hu]
    rwa [World.size_alloc] at this
  have hz : u.heap.size = w.heap.size + 2 := by rw [hu]; simp
  have HAT : ∀ (x : EvS) (W : World), Below u.heap.size u W → Calls Tryz.prog 47 #[.agg #[.int .i64 x.e.writer, .int .u64 (x.e.seq : Int), .int .u64 (x.e.time : Int), .int .u8 (x.e.kind : Int), .string x.e.key, .slice x.A x.n x.c, .float .f64 x.e.num, .int .i64 x.e.node]] W fun e w' => e = .returned (spotV x.e.time x.e.writer) ∧ Hid (Below u.heap.size u w') ∧ (w'.cell? ⟨w.heap.size, 0, none⟩ = some (.int .i64 a.e.writer) ∧ w'.cell? ⟨w.heap.size, 1, none⟩ = some (.int .u64 (a.e.seq : Int)) ∧ w'.cell? ⟨w.heap.size, 2, none⟩ = some (.int .u64 (a.e.time : Int)) ∧ w'.cell? ⟨w.heap.size, 3, none⟩ = some (.int .u8 (a.e.kind : Int)) ∧ w'.cell? ⟨w.heap.size, 4, none⟩ = some (.string a.e.key) ∧ w'.cell? ⟨w.heap.size, 5, none⟩ = some (.slice a.A a.n a.c) ∧ w'.cell? ⟨w.heap.size, 6, none⟩ = some (.float .f64 a.e.num) ∧ w'.cell? ⟨w.heap.size, 7, none⟩ = some (.int .i64 a.e.node)) ∧ (w'.cell? ⟨w.heap.size + 1, 0, none⟩ = some (.int .i64 b.e.writer) ∧ w'.cell? ⟨w.heap.size + 1, 1, none⟩ = some (.int .u64 (b.e.seq : Int)) ∧ w'.cell? ⟨w.heap.size + 1, 2, none⟩ = some (.int .u64 (b.e.time : Int)) ∧ w'.cell? ⟨w.heap.size + 1, 3, none⟩ = some (.int .u8 (b.e.kind : Int)) ∧ w'.cell? ⟨w.heap.size + 1, 4, none⟩ = some (.string b.e.key) ∧ w'.cell? ⟨w.heap.size + 1, 5, none⟩ = some (.slice b.A b.n b.c) ∧ w'.cell? ⟨w.heap.size + 1, 6, none⟩ = some (.float .f64 b.e.num) ∧ w'.cell? ⟨w.heap.size + 1, 7, none⟩ = some (.int .i64 b.e.node)) := fun x W hW => by
    refine (at_any x.e x.A x.n x.c W).mono ?_
    rintro e w' ⟨rfl, hb⟩
    have hb2 := hW.trans (hb.mono hW.size)
    exact ⟨rfl, Lib.hid hb2, cells8 ((hb2.block _ (by omega)).trans g1), cells8 ((hb2.block _ (by omega)).trans g2)⟩
  have HC : ∀ (W : World), Below u.heap.size u W → Calls Tryz.prog 46 #[spotV a.e.time a.e.writer, spotV b.e.time b.e.writer] W fun e w' => e = .returned (.int .i64 r) ∧ Hid (Below u.heap.size u w') ∧ (w'.cell? ⟨w.heap.size, 0, none⟩ = some (.int .i64 a.e.writer) ∧ w'.cell? ⟨w.heap.size, 1, none⟩ = some (.int .u64 (a.e.seq : Int)) ∧ w'.cell? ⟨w.heap.size, 2, none⟩ = some (.int .u64 (a.e.time : Int)) ∧ w'.cell? ⟨w.heap.size, 3, none⟩ = some (.int .u8 (a.e.kind : Int)) ∧ w'.cell? ⟨w.heap.size, 4, none⟩ = some (.string a.e.key) ∧ w'.cell? ⟨w.heap.size, 5, none⟩ = some (.slice a.A a.n a.c) ∧ w'.cell? ⟨w.heap.size, 6, none⟩ = some (.float .f64 a.e.num) ∧ w'.cell? ⟨w.heap.size, 7, none⟩ = some (.int .i64 a.e.node)) ∧ (w'.cell? ⟨w.heap.size + 1, 0, none⟩ = some (.int .i64 b.e.writer) ∧ w'.cell? ⟨w.heap.size + 1, 1, none⟩ = some (.int .u64 (b.e.seq : Int)) ∧ w'.cell? ⟨w.heap.size + 1, 2, none⟩ = some (.int .u64 (b.e.time : Int)) ∧ w'.cell? ⟨w.heap.size + 1, 3, none⟩ = some (.int .u8 (b.e.kind : Int)) ∧ w'.cell? ⟨w.heap.size + 1, 4, none⟩ = some (.string b.e.key) ∧ w'.cell? ⟨w.heap.size + 1, 5, none⟩ = some (.slice b.A b.n b.c) ∧ w'.cell? ⟨w.heap.size + 1, 6, none⟩ = some (.float .f64 b.e.num) ∧ w'.cell? ⟨w.heap.size + 1, 7, none⟩ = some (.int .i64 b.e.node)) := fun W hW => by
    rw [hr]
    refine (compare_any _ _ _ _ W).mono ?_
    rintro e w' ⟨rfl, hb⟩
    have hb2 := hW.trans (hb.mono hW.size)
    exact ⟨rfl, Lib.hid hb2, cells8 ((hb2.block _ (by omega)).trans g1), cells8 ((hb2.block _ (by omega)).trans g2)⟩
  have HB1 := Lib.hid hb1
  obtain ⟨⟨c0, c1, c2, c3, c4, c5, c6, c7⟩, d0, d1, d2, d3, d4, d5, d6, d7⟩ := And.intro (cells8 g1) (cells8 g2)
  have HZ := Lib.hid hz
  rw [← hr]
  clear hr hb1 hz g1 g2
  unfold EvS.cells at hu
  have HU := Lib.hid hu
  clear hu
  unfold Ev.val
  go_enter Tryz.func153, Tryz.ntmps153
  go_wp2_with fail
  rw [← HU.out]
  go_region_held3 (fun w' => (w'.cell? ⟨w.heap.size, 0, none⟩ = some (.int .i64 a.e.writer) ∧ w'.cell? ⟨w.heap.size, 1, none⟩ = some (.int .u64 (a.e.seq : Int)) ∧ w'.cell? ⟨w.heap.size, 2, none⟩ = some (.int .u64 (a.e.time : Int)) ∧ w'.cell? ⟨w.heap.size, 3, none⟩ = some (.int .u8 (a.e.kind : Int)) ∧ w'.cell? ⟨w.heap.size, 4, none⟩ = some (.string a.e.key) ∧ w'.cell? ⟨w.heap.size, 5, none⟩ = some (.slice a.A a.n a.c) ∧ w'.cell? ⟨w.heap.size, 6, none⟩ = some (.float .f64 a.e.num) ∧ w'.cell? ⟨w.heap.size, 7, none⟩ = some (.int .i64 a.e.node)) ∧ (w'.cell? ⟨w.heap.size + 1, 0, none⟩ = some (.int .i64 b.e.writer) ∧ w'.cell? ⟨w.heap.size + 1, 1, none⟩ = some (.int .u64 (b.e.seq : Int)) ∧ w'.cell? ⟨w.heap.size + 1, 2, none⟩ = some (.int .u64 (b.e.time : Int)) ∧ w'.cell? ⟨w.heap.size + 1, 3, none⟩ = some (.int .u8 (b.e.kind : Int)) ∧ w'.cell? ⟨w.heap.size + 1, 4, none⟩ = some (.string b.e.key) ∧ w'.cell? ⟨w.heap.size + 1, 5, none⟩ = some (.slice b.A b.n b.c) ∧ w'.cell? ⟨w.heap.size + 1, 6, none⟩ = some (.float .f64 b.e.num) ∧ w'.cell? ⟨w.heap.size + 1, 7, none⟩ = some (.int .i64 b.e.node))) (go_keep)
    (first
      | (go_at_call 47
         first
           | (refine (HAT a _ ?h1).mono ?_
              case h1 => first | exact Below.refl _ _ | exact (Below.refl _ _).drew | exact Hid.out (by assumption)
              rintro e w' ⟨rfl, hb, k1, k2⟩)
           | (refine (HAT b _ ?h1).mono ?_
              case h1 => first | exact Below.refl _ _ | exact (Below.refl _ _).drew | exact Hid.out (by assumption)
              rintro e w' ⟨rfl, hb, k1, k2⟩))
      | (go_at_call 46
         refine (HC _ ?h1).mono ?_
         case h1 => exact Hid.out (by assumption)
         rintro e w' ⟨rfl, hb, k1, k2⟩))
  all_goals go_wp2
  all_goals go_ret
  all_goals exact ⟨rfl, HB1.out.trans ((Hid.out (by assumption) : Below u.heap.size u _).mono (by have := HZ.out; omega))⟩
end Go.Proofs.YtmogoopkjkdkgaaGreat.Ord
