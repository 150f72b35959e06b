/- Package fold: Apply of any event; a nil fold; the laws' example. Package fold: Keys, Copy. Package fold: Have, Members, the mask of a set. The document's fold: its rows in memory; what it is made of. -/
import Derived.Sort.OwnSorted
import Derived.Laws.OwnMore
import Derived.Lib.SliceRun
import Derived.Test.YtmogoopkjkdkgaaVRp06
import Derived.Test.YtmogoopkjkdkgaaVRp10
import Derived.Test.YtmogoopkjkdkgaaVRp11
namespace Go.Proofs.Ytmogoopkjkdkgaa.Fol
open Go Go.RowKit Go.Proofs.Ytmogoopkjkdkgaa.Words Go.Proofs.Ytmogoopkjkdkgaa.Enc Go.Proofs.Ytmogoopkjkdkgaa.Q Go.Proofs.Ytmogoopkjkdkgaa.Evt
set_option linter.unusedVariables false
set_option linter.unusedSimpArgs false

section
variable {S : List Nat} {d mb : Nat} {F : Fo}
set_option maxRecDepth 100000 in
set_option maxHeartbeats 1000000 in
theorem apply_bad (e : Ev) (A : Option Addr) (n c : Nat) (w : World) (h : FoldAt w S d mb F) (hr : rightE e ≠ 0) (hs : Sees w A n e.text) (hn : n ≤ 1000000000) (hfit : e.Fit) (hkl : e.key.size ≤ 9223372036854775807) :
    Calls Try.prog 19 #[.pointer (some ⟨d, 0, none⟩), e.val A n c] w fun e' w' => e' = .returned (.int .i64 (rightE e : Int)) ∧ Below w.heap.size w w' := by
  have RT := Lib.hid (fun (W : World) => right_any e A n c W hfit hs.1.symm (by rw [hs.1]; omega) hkl)
  obtain ⟨wr, sq, tm, kd, key, text, num, node⟩ := e
  have BX := Lib.hid (fun (W : World) hW => boxed (W := W) #[.int .i64 wr, .int .u64 (sq : Int), .int .u64 (tm : Int), .int .u8 (kd : Int), .string key, .slice A n c, .float .f64 num, .int .i64 node] w hW)
  obtain ⟨r, hre⟩ : ∃ r, r = rightE ⟨wr, sq, tm, kd, key, text, num, node⟩ := ⟨_, rfl⟩
  rw [← hre] at RT hr ⊢
  show Calls _ _ #[_, .agg #[.int .i64 wr, .int .u64 (sq : Int), .int .u64 (tm : Int), .int .u8 (kd : Int), .string key, .slice A n c, .float .f64 num, .int .i64 node]] _ _
  have hne : ((r : Int) == 0) = false := by rw [beq_eq_false_iff_ne]; omega
  have hne2 : ((r : Int) != 0) = true := by simp [hr]
  clear h hs hfit hre hkl
  go_enter Try.func19, Try.ntmps19
  go_wp2_with fail
  refine (RT.out _).mono ?_
  rintro e' w1 ⟨rfl, hb1⟩
  obtain ⟨b1, g1, z1⟩ := BX.out w1 (by simpa using hb1)
  have B1 := Lib.hid b1
  clear hb1 b1 g1 z1
  go_wp2
  go_ret
  exact ⟨rfl, B1.out⟩
/-- Apply, of whatever event. -/
theorem apply_any (e : Ev) (A : Option Addr) (n c : Nat) (w : World) (h : FoldAt w S d mb F) (hs : Sees w A n e.text) (ho : Out [d, mb] A n) (hS : ∀ x ∈ S, x < w.heap.size) (hf : F.L.length < 1000000000000) (hn : n ≤ 1000000000)
    (hfit : e.Fit) (hkl : e.key.size ≤ 9223372036854775807) :
    Calls Try.prog 19 #[.pointer (some ⟨d, 0, none⟩), e.val A n c] w fun e' w' => e' = .returned (.int .i64 (applyE F e : Int)) ∧ Makes S d mb w (applyF F e) w' := by
  by_cases hr : rightE e = 0
  · have hR := (right_iff e).1 hr
    obtain ⟨wr, sq, tm, kd, key, text, num, node⟩ := e
    obtain ⟨i, rfl⟩ := Int.eq_ofNat_of_zero_le hR.w1
    exact apply_right w h hR hfit.q hs ho hS hf hn hfit hkl
  · have hE : applyE F e = rightE e := by unfold applyE; rw [if_pos hr]
    have hF : applyF F e = F := by unfold applyF; rw [hE, if_neg hr]
    rw [hE, hF]
    refine (apply_bad e A n c w h hr hs hn hfit hkl).mono ?_
    rintro e' w' ⟨rfl, hb⟩
    exact ⟨rfl, h.below hb, Beside.of_below hb _⟩
end

/-! ### A nil fold -/
/-! ### The laws' example -/
end Go.Proofs.Ytmogoopkjkdkgaa.Fol
namespace Go.Proofs.Ytmogoopkjkdkgaa.Fol
open Go Go.RowKit Go.Proofs.Ytmogoopkjkdkgaa.Words Go.Proofs.Ytmogoopkjkdkgaa.Enc Go.Proofs.Ytmogoopkjkdkgaa.Q Go.Proofs.Ytmogoopkjkdkgaa.Evt Go.Maps Go.Sort Go.Shelf
set_option linter.unusedVariables false
set_option linter.unusedSimpArgs false

section
variable {P : Program} {w : World} {ops : Array Oper} {rest : List Oper} {op : Oper} {a : Act} {Q : Exit → Act → World → Prop}
theorem wpList_alloc (hgd : op.guard = none) (t : TypeId) (ho : op.op = .alloc t) (z : Array Value) (hz : (zeroValue t).run P w = .ok (.agg z) w)
    (h : wpList P ops Q rest (a.put op.dst (.pointer (some ⟨w.heap.size, 0, none⟩))) (w.alloc (.cells z t))) : wpList P ops Q (op :: rest) a w := by
  refine wpList_plain hgd fun K hK => ?_
  have h2 : (execOp a.eval op).run P w = .ok (.value (.pointer (some ⟨w.heap.size, 0, none⟩))) (w.alloc (.cells z t)) := by
    unfold execOp
    simp [ho, go_sem, hz, Value.cells]
  unfold Oper.wp
  rw [h2]
  exact hK _ _ h
end
theorem row_map {F : Fo} (mb mb2 : Nat) : (row mb F).setIfInBounds 0 (.map (some mb2)) = row mb2 F := by
  unfold row cells
  simp
set_option maxRecDepth 100000 in
set_option maxHeartbeats 2000000 in
/-- Copy: a fold of its own, which shares the texts. -/
theorem copy_any (S : List Nat) (d mb : Nat) (F : Fo) (w : World) (h : FoldAt w S d mb F) :
    Calls Try.prog 17 #[.pointer (some ⟨d, 0, none⟩)] w fun e w' => ∃ d2 mb2, e = .returned (.pointer (some ⟨d2, 0, none⟩)) ∧ w.heap.size ≤ d2 ∧ w.heap.size ≤ mb2 ∧ FoldAt w' (d2 :: mb2 :: S) d2 mb2 F ∧ Below w.heap.size w w' := by
  obtain ⟨L, hm, hL, ht⟩ := h.map
  obtain ⟨D, ho, hs⟩ := hm
  have hrow := h.row
  have hok := h.ok
  obtain ⟨R, hR⟩ : ∃ R, R = row mb F := ⟨_, rfl⟩
  have hsz : R.size = 196 := by rw [hR]; exact row_size hok
  rw [← hR] at hrow
  have h1 : R.all (·.oneCell') = true := by
    rw [hR]
    unfold row cells
    simp [List.all_append, List.all_map, Value.oneCell', Function.comp_def]
  obtain ⟨zr, hzr, hzs⟩ : ∃ zr : Array Value, (∀ W, (zeroValue 67).run Try.prog W = .ok (.agg zr) W) ∧ zr.size = 196 := ⟨_, fun W => (by kernel_rfl : (zeroValue 67).run Try.prog W = .ok (.agg (#[.map none] ++ Array.replicate 128 (.bool false) ++ Array.replicate 64 (.int .u64 0) ++ #[.int .u64 0, .int .i64 0, .int .u64 0])) W), by simp⟩
  have hz0 := hzr w
  have hB1 := (Below.refl w.heap.size w).alloc (Nat.le_refl _) (.cells zr 67)
  have hg1 := heap_alloc_new w (.cells zr 67)
  obtain ⟨u, hu⟩ : ∃ u, u = w.alloc (.cells zr 67) := ⟨_, rfl⟩
  have hus : u.heap.size = w.heap.size + 1 := by rw [hu]; simp
  rw [← hu] at hB1 hg1
  have HU := Lib.hid hu
  obtain ⟨B, hB⟩ : ∃ B, B = w.heap.size := ⟨_, rfl⟩
  have HB := Lib.hid hB
  have hsi : (Try.prog.info? 67).map (·.size) = some R.size := by rw [hsz]; kernel_rfl
  have hzz : zr.size = R.size := by rw [hsz, hzs]
  have HH := Lib.hid h
  have HRw := Lib.hid hR
  have HO := Lib.hid (And.intro ho hs)
  have HL := Lib.hid hL
  have HT := Lib.hid ht
  have hlt := h.lt
  clear h ho hs hL ht hR hzr hzs hu hok
  go_enter Try.func17, Try.ntmps17
  go_wp2_with (first
    | (refine wpList_getRow rfl 67 (.tmp 7) rfl d 67 R (0, 0) _ rfl hrow Try.underlying67 rfl hsi ?_)
    | (refine wpList_alloc rfl 67 rfl zr hz0 ?_; rw [← HU.out, ← HB.out]; refine wpList_putRow rfl 67 (.tmp 3) (.tmp 8) rfl B 67 zr R rfl rfl (by rw [hB]; exact hg1) hsi hzz h1 ?_))
  intro w2 g2 hb2

  have hs2 : w.heap.size + 1 ≤ w2.heap.size := by have := hb2.size; omega
  have HB2 := Lib.hid (Below.beside hB1 hb2 (by omega) (fun x hx => by simp at hx; omega))
  have hF2 := HH.out.below HB2.out
  have hm2 : MapAt w2 mb L := MapAt.kept ⟨D, HO.out⟩ (HB2.out.block _ hlt.2)
  obtain ⟨D2, ho2, hsh2⟩ := hm2
  have c2 := hF2.c0
  obtain ⟨n2, hn2⟩ : ∃ n2, n2 = L.length := ⟨_, rfl⟩
  rw [← hn2] at ho2
  have CL := Lib.hid (AnyW.maps_Clone_owns Try.clone26 9 celElem mb n2 D2 w2 ho2)
  have HF2 := Lib.hid hF2
  have HS2 := Lib.hid hsh2
  have HN2 := Lib.hid hn2
  clear hF2 hsh2 ho2 hn2 hb2 hB1 hrow hg1 hz0 hzz hsi
  go_wp2_with (first
    | (go_at_call 26; refine CL.out.mono ?_; rintro e w3 ⟨rfl, ho3, _, hb3⟩
       have g3 := (hb3.block _ (by omega : w.heap.size < w2.heap.size)).trans g2
       have c3 : w3.cell? ⟨w.heap.size, 0, none⟩ = some (.map (some mb)) := by rw [cell_of_row w3 _ _ _ _ _ g3, HRw.out]; rfl
       have fr3 := frozen_row0 g3 (i := 0)
       have HB3 := Lib.hid hb3
       have HO3 := Lib.hid ho3
       clear hb3 ho3))
  go_ret
  have hok := HH.out.ok
  refine ⟨w.heap.size, w2.heap.size, rfl, Nat.le_refl _, by omega, ⟨?_, ⟨L, ?_, HL.out, fun p hp => ?_⟩, hok, by omega, by simp, by simp⟩, (HB2.out.trans (HB3.out.mono (by omega))).setCell (Nat.le_refl _) _⟩
  · rw [heapSame g3, HRw.out, row_map]
  · exact MapAt.kept ⟨D2, by rw [← HN2.out]; exact HO3.out, HS2.out⟩ (heapOther (by omega))
  · have h4 := (HT.out p hp).wider (S1 := w.heap.size :: w2.heap.size :: S) (fun x hx => by simp at hx; rcases hx with rfl | rfl | hx <;> first | exact .inl hx | exact .inr (by omega))
    exact h4.beside (S1 := []) (.of_below ((HB2.out.trans (HB3.out.mono (by omega))).setCell (Nat.le_refl _) _) _) fun x hx => by cases hx
end Go.Proofs.Ytmogoopkjkdkgaa.Fol
namespace Go.Proofs.Ytmogoopkjkdkgaa.Fol
open Go Go.RowKit Go.Proofs.Ytmogoopkjkdkgaa.Words Go.Proofs.Ytmogoopkjkdkgaa.Enc Go.Proofs.Ytmogoopkjkdkgaa.Q Go.Proofs.Ytmogoopkjkdkgaa.Evt Go.Maps Go.Sort Go.Shelf
set_option linter.unusedVariables false
set_option linter.unusedSimpArgs false

def memL (F : Fo) : Nat → List Nat
  | 0 => []
  | j + 1 => memL F j ++ if memB F (j : Int) = true then [j] else []
def nodesV (l : List Nat) : List Value := l.map fun x : Nat => Value.int .i64 (x : Int)
theorem infoInt : (Try.prog.info? 3).map (fun i => (i.zero, i.size, i.bytes)) = some (some (.int .i64 0), 1, 8) := by kernel_rfl
set_option maxRecDepth 100000 in
set_option maxHeartbeats 1000000 in
theorem members_any (S : List Nat) (d mb : Nat) (F : Fo) (w : World) (h : FoldAt w S d mb F) :
    Calls Try.prog 25 #[.pointer (some ⟨d, 0, none⟩)] w fun e w' => ∃ A c, e = .returned (.slice A (memL F 64).length c) ∧ w'.ownsRow w.heap.size 3 1 (.slice A (memL F 64).length c) (memL F 64).length (nodesV (memL F 64)) ∧ Below w.heap.size w w' := by
  obtain ⟨i, hi, hz, hsz, hby⟩ := info_parts infoInt
  have H := Lib.hid h
  obtain ⟨ML, hML⟩ : ∃ ML, ML = memL F 64 := ⟨_, rfl⟩
  rw [← hML]
  have HML := Lib.hid hML
  clear h hML
  go_enter Try.func25, Try.ntmps25
  go_wp2_with fail
  go_loopw [3, 5] (fun a3 a5 wr => ∃ (j : Nat) (A : Option Addr) (m c : Nat), a5 = .int .i64 (j : Int) ∧ a3 = .slice A m c ∧ j ≤ 64 ∧ m ≤ j ∧ Hid (m = (memL F j).length) ∧ Hid (wr.ownsRow w.heap.size 3 1 (.slice A m c) m (nodesV (memL F j))) ∧ Hid (Below w.heap.size w wr)) (fun a3 a5 _ => 64 - (intOf a5).toNat)
  case atStart => exact ⟨0, none, 0, 0, rfl, rfl, by omega, by omega, Lib.hid rfl, Lib.hid (World.ownsRow_nil _ _ _ _), Lib.hid (Below.refl _ _)⟩
  case round =>
    obtain ⟨j, A, m, c, rfl, rfl, hj, hmj, HM, HO, HB⟩ := hrel
    by_cases h1 : j < 64
    · have hd : decide ((j : Int) < 64) = true := decide_eq_true (by omega)
      have MB := Lib.hid (member_any (j : Int) wr (H.out.below HB.out))
      obtain ⟨x, hx⟩ : ∃ x, x = memB F (j : Int) := ⟨_, rfl⟩
      rw [← hx] at MB
      have HX := Lib.hid hx
      clear hx
      cases x with
      | true =>
        go_wp2_with fail
        refine MB.out.mono ?_
        rintro e w1 ⟨rfl, hb1⟩
        have hb0 := HB.out
        have o1 := Own.below HO.out hb1 (Nat.le_refl _)
        have hs1 := hb0.size
        have hs2 := hb1.size
        have o2 := World.ownsRow.alloc o1 (.cells #[.int .i64 (j : Int)] 3)
        have HL : Hid (memL F (j + 1) = memL F j ++ [j]) := Lib.hid (by rw [memL, if_pos HX.out.symm])
        have HB1 := Lib.hid hb1
        clear hb1 MB hb0 o1
        go_wp2_with (first | (at_builtin; (refine wpList_append_own _ rfl _ _ 49 rfl w.heap.size 3 i (.int .i64 0) 1 8 Try.underlying49 hi hz hsz hby rfl (by decide) (.slice A m c) m (nodesV (memL F j)) rfl o2 ⟨w1.heap.size, 0, none⟩ 1 1 [.int .i64 (j : Int)] rfl rfl ?c1 ?c2 ?c3 ?c4 ?c5 ?_)))
        case c1 =>
          intro j u hj
          match j, hj with
          | 0, hj => simp at hj; subst hj; simp [Addr.add]
        case c2 => intro u hu; simp at hu; subst hu; rfl
        case c3 => unfold maxLen; omega
        case c4 => omega
        case c5 => simp; omega
        intro v' w3 hown3 hgrow _
        have hb3 : Below w.heap.size (w1.alloc (.cells #[.int .i64 (j : Int)] 3)) w3 := (Below.refl _ _).grown hgrow (by simp; omega) (fun g hg => by have := (o2.lt g hg).1; omega)
        have HB3 := Lib.hid ((HB.out.trans (HB1.out.mono hs1)).trans (((Below.refl _ _).alloc (by omega) _).trans hb3))
        obtain ⟨A3, c3, rfl, _⟩ := Own.shape hown3
        have HO3 := Lib.hid hown3
        clear hown3 hb3 hgrow o2
        go_wp2
        go_roundw
        case rel => exact ⟨j + 1, A3, m + 1, c3, by simp, rfl, by omega, by omega, Lib.hid (by rw [HL.out, List.length_append, ← HM.out]; rfl), Lib.hid (by rw [HL.out]; simpa [nodesV] using HO3.out), HB3⟩
        case measure => simp [intOf]; omega
      | false =>
        go_wp2_with fail
        refine MB.out.mono ?_
        rintro e w1 ⟨rfl, hb1⟩
        have hs1 := HB.out.size
        have HO1 := Lib.hid (Own.below HO.out hb1 (Nat.le_refl _))
        have HB1 := Lib.hid (HB.out.trans (hb1.mono hs1))
        have HL : Hid (memL F (j + 1) = memL F j) := Lib.hid (by rw [memL, if_neg (by rw [← HX.out]; simp)]; simp)
        clear hb1 MB
        go_wp2
        go_roundw
        case rel => exact ⟨j + 1, A, m, c, by simp, rfl, by omega, by omega, Lib.hid (by rw [HL.out]; exact HM.out), Lib.hid (by rw [HL.out]; exact HO1.out), HB1⟩
        case measure => simp [intOf]; omega
    · have hd : decide ((j : Int) < 64) = false := decide_eq_false (by omega)
      obtain rfl : j = 64 := by omega
      go_wp2
      go_ret
      have hm := HM.out
      have ho := HO.out
      rw [← HML.out] at hm ho
      subst hm
      exact ⟨A, c, rfl, ho, HB.out⟩
end Go.Proofs.Ytmogoopkjkdkgaa.Fol
namespace Go.Proofs.Ytmogoopkjkdkgaa.Fol
open Go Go.RowKit Go.Proofs.Ytmogoopkjkdkgaa.Words Go.Proofs.Ytmogoopkjkdkgaa.Enc Go.Proofs.Ytmogoopkjkdkgaa.Q Go.Proofs.Ytmogoopkjkdkgaa.Evt
set_option linter.unusedVariables false
set_option linter.unusedSimpArgs false

/-- Cells behind a slice; they lie outside S. -/
def SeesV (w : World) (S : List Nat) (A : Option Addr) (vs : List Value) : Prop := vs ≠ [] → ∃ b o, A = some ⟨b, o, none⟩ ∧ b ∉ S ∧ ∀ j v, vs[j]? = some v → w.cell? ⟨b, o + j, none⟩ = some v
section
variable {w w' : World} {S : List Nat} {A : Option Addr} {vs : List Value}
theorem SeesV.nil : SeesV w S A [] := fun h => absurd rfl h
theorem SeesV.beside {S1 : List Nat} (h : SeesV w S A vs) (hb : Beside S1 w w') (hS : ∀ x ∈ S1, x ∈ S ∨ w.heap.size ≤ x) : SeesV w' S A vs := fun hn => by
  obtain ⟨b, o, hA, hbS, hc⟩ := h hn
  have hlt : b < w.heap.size := by
    obtain ⟨v, r, rfl⟩ := List.exists_cons_of_ne_nil hn
    exact World.block_lt_of_cell? _ _ (hc 0 v rfl)
  refine ⟨b, o, hA, hbS, fun j v hv => hb.cell (hc j v hv) fun hm => ?_⟩
  rcases hS b hm with h1 | h1
  · exact hbS h1
  · omega
theorem SeesV.below (h : SeesV w S A vs) (hb : Below w.heap.size w w') : SeesV w' S A vs := h.beside (S1 := []) (.of_below hb _) fun x hx => by cases hx
theorem SeesV.wider {S1 : List Nat} (h : SeesV w S A vs) (hS : ∀ x ∈ S1, x ∈ S ∨ w.heap.size ≤ x) : SeesV w S1 A vs := fun hn => by
  obtain ⟨b, o, hA, hbS, hc⟩ := h hn
  have hlt : b < w.heap.size := by
    obtain ⟨v, r, rfl⟩ := List.exists_cons_of_ne_nil hn
    exact World.block_lt_of_cell? _ _ (hc 0 v rfl)
  refine ⟨b, o, hA, fun hm => ?_, hc⟩
  rcases hS b hm with h1 | h1
  · exact hbS h1
  · omega
theorem SeesV.of_own {base : Nat} {e : TypeId} {size n c : Nat} (h : w.ownsRow base e size (.slice A n c) n vs) (hS : ∀ x ∈ S, x < base) : SeesV w S A vs := fun hn => by
  rcases h.2 with ⟨hv, h0⟩ | ⟨g, cap, cur, hv, hg, _⟩
  · subst h0
    have := h.1
    rw [Nat.zero_mul] at this
    exact absurd (List.eq_nil_of_length_eq_zero this) hn
  · injection hv with hA
    subst hA
    exact ⟨g, 0, rfl, fun hm => by have := hS g hm; omega, fun j u hu => by rw [← add_plain]; exact h.cells (g := g) rfl j _ hu⟩
theorem SeesV.take (h : SeesV w S A vs) (k : Nat) : SeesV w S A (vs.take k) := fun hn => by
  obtain ⟨b, o, hA, hbS, hc⟩ := h (fun e => hn (by rw [e]; simp))
  refine ⟨b, o, hA, hbS, fun j v hv => hc j v ?_⟩
  rw [List.getElem?_take] at hv
  split at hv
  · exact hv
  · cases hv
theorem SeesV.drop (h : SeesV w S A vs) (k : Nat) {A' : Option Addr} (hA' : ∀ b o, k < vs.length → A = some ⟨b, o, none⟩ → A' = some ⟨b, o + k, none⟩) : SeesV w S A' (vs.drop k) := fun hn => by
  have hk : k < vs.length := by
    rcases Nat.lt_or_ge k vs.length with h1 | h1
    · exact h1
    · exact absurd (List.drop_eq_nil_of_le h1) hn
  obtain ⟨b, o, hA, hbS, hc⟩ := h (fun e => by rw [e] at hk; simp at hk)
  refine ⟨b, o + k, hA' b o hk hA, hbS, fun j v hv => ?_⟩
  rw [Nat.add_assoc]
  exact hc _ v (by rw [← hv, List.getElem?_drop])
theorem SeesV.get (h : SeesV w S A vs) {j : Nat} {v : Value} (hv : vs[j]? = some v) : ∃ b o, A = some ⟨b, o, none⟩ ∧ w.cell? ⟨b, o + j, none⟩ = some v := by
  obtain ⟨b, o, hA, _, hc⟩ := h (fun e => by rw [e] at hv; cases hv)
  exact ⟨b, o, hA, hc j v hv⟩
end
section
variable {P : Program}
end

/-! ### quantities and truths -/
end Go.Proofs.Ytmogoopkjkdkgaa.Fol
