/- The document's fold: Apply, of any event. Layer 15: the law ViewTells, over the document's fold. Order: a slice of numbers of 16 bits among the arguments. A struct of eight one-cell fields, by value: opened, and shut. No program. -/
import Derived.ChangeArms
import Derived.Lib.SmallJoins
import Derived.ShutString
import Derived.WalkLawsBesides
import Derived.Laws.Cover2
import Derived.SizedLaws
import Derived.ChangeSlices
import Derived.Test.YtmogoopkjkdkgaaGreatVTp17
import Derived.Test.YtmogoopkjkdkgaaGreatVTp24
import Derived.Test.YtmogoopkjkdkgaaGreatVTp26
import Derived.Test.YtmogoopkjkdkgaaGreatVTp29
import Derived.Test.YtmogoopkjkdkgaaGreatVTp31
import Derived.Test.YtmogoopkjkdkgaaGreatVTp32
import Derived.Test.YtmogoopkjkdkgaaGreatVTp33
import Derived.Test.YtmogoopkjkdkgaaGreatVTp34
import Derived.Test.YtmogoopkjkdkgaaGreatVTp35
import Derived.Test.YtmogoopkjkdkgaaGreatVTp36
import Derived.Test.YtmogoopkjkdkgaaGreatVTp37
import Derived.Test.YtmogoopkjkdkgaaGreatVTp38
import Derived.Test.YtmogoopkjkdkgaaGreatVTp39
namespace Go.Proofs.YtmogoopkjkdkgaaGreat.Fol
open Go Go.RowKit Go.Proofs.YtmogoopkjkdkgaaGreat.Words Go.Proofs.YtmogoopkjkdkgaaGreat.Enc Go.Proofs.YtmogoopkjkdkgaaGreat.Q Go.Proofs.YtmogoopkjkdkgaaGreat.Evt Go.Proofs.YtmogoopkjkdkgaaGreat.Facts
set_option linter.unusedVariables false
set_option linter.unusedSimpArgs false

theorem refApply_any {La : Option Addr} {lc : Nat} {L : List (Key × RC)} {h : RH} {F : Fo} {S : List Nat} (e : Ev) (A : Option Addr) (n c : Nat) (w : World) (r : RefAt w S La lc L h F) (ok : Ok F) (hs : SeesV w S A (cs e.text)) (hnt : n = e.text.length) (hS : ∀ x ∈ S, x < w.heap.size) (hn : n ≤ 1000000000) (hL : L.length ≤ 1000000) (hfit : e.Fit) (hkl : e.key.size ≤ 9223372036854775807) :
    Calls Tryz.prog 53 #[.agg (rv La L.length lc h), e.val A n c] w fun e' w' => ∃ La' lc' L' h', e' = .returned (.tuple #[.agg (rv La' (List.length (α := Key × RC) L') lc' h'), .int .i64 (applyE F e : Int)]) ∧ RefAt w' S La' lc' L' h' (applyF F e) ∧ Below w.heap.size w w' := by
  by_cases hr : rightE e = 0
  · have hR := (right_iff e).1 hr
    obtain ⟨wr, sq, tm, kd, key, text, num, node⟩ := e
    obtain ⟨i, rfl⟩ := Int.eq_ofNat_of_zero_le hR.w1
    have hq : num < 18446744073709551616 := hfit.q
    have hkd : kd = 1 ∨ kd = 2 ∨ kd = 3 ∨ kd = 4 ∨ kd = 5 ∨ kd = 6 := by have h1 := hR.k1; have h2 := hR.k2; simp only at h1 h2; omega
    cases hX : decide (cmpS h.T (h.W : Int) tm (i : Int) < 0) with
    | false => exact refApply_behind w r ok hR hq hs hnt hS hn hL hfit hkl hX
    | true =>
      cases hY : (!decide (sq = F.H.getD i 0 + 1)) with
      | true => exact refApply_gap w r ok hR hq hs hnt hS hn hL hfit hkl hX hY
      | false =>
        rcases hkd with hk | hk | hk | hk | hk | hk
        · exact refApply_k1 w r ok hR hq hs hnt hS hn hL hfit hkl hX hY hk
        · exact refApply_k2 w r ok hR hq hs hnt hS hn hL hfit hkl hX hY hk
        · cases hth : there key.data.toList L with
          | false => exact refApply_k3a w r ok hR hq hs hnt hS hn hL hfit hkl hX hY hk hth
          | true =>
            obtain ⟨p, hp⟩ := there_get hth
            by_cases h2 : p.2.kind = 2
            · exact refApply_k3c w r ok hR hq hs hnt hS hn hL hfit hkl hX hY hk hth (fun p' hp' => by rw [hp] at hp'; injection hp' with hp'; subst hp'; exact h2)
            · exact refApply_k3b w r ok hR hq hs hnt hS hn hL hfit hkl hX hY hk hth (fun p' hp' => by rw [hp] at hp'; injection hp' with hp'; subst hp'; exact h2)
        · exact refApply_k4 w r ok hR hq hs hnt hS hn hL hfit hkl hX hY hk
        · exact refApply_k5 w r ok hR hq hs hnt hS hn hL hfit hkl hX hY hk
        · exact refApply_k6 w r ok hR hq hs hnt hS hn hL hfit hkl hX hY hk
  · have hE : applyE F e = rightE e := by unfold applyE; rw [if_pos hr]
    have hF : applyF F e = F := by unfold applyF; rw [hE, if_neg hr]
    rw [hE, hF]
    refine (refApply_bad e A n c w r hr hnt hn hfit hkl).mono ?_
    rintro e' w' ⟨rfl, hb⟩
    exact ⟨La, lc, L, h, rfl, r.below hb, hb⟩
end Go.Proofs.YtmogoopkjkdkgaaGreat.Fol
namespace Go.Proofs.YtmogoopkjkdkgaaGreat.Vw
open Go Go.RowKit Go.Proofs.YtmogoopkjkdkgaaGreat.Words Go.Proofs.YtmogoopkjkdkgaaGreat.Enc Go.Proofs.YtmogoopkjkdkgaaGreat.Q Go.Proofs.YtmogoopkjkdkgaaGreat.Evt Go.Proofs.YtmogoopkjkdkgaaGreat.Seg Go.Proofs.YtmogoopkjkdkgaaGreat.Fol Go.Proofs.YtmogoopkjkdkgaaGreat.Ord
theorem tells_whole (A : Option Addr) (n c : Nat) (l : List Nat) (ca : Nat) (w : World) (h : SeesH w A n l) (ha : ca < 256) :
    Calls Tryz.prog 3 #[.slice A n c, .int .u8 (ca : Int)] w fun e w' => e = .returned (.bool true) ∧ Below w.heap.size w w' :=
  tells_law (fun e A n c w r ok hs hnt hS hn hL hfit hkl => refApply_any e A n c w r ok hs hnt hS hn hL hfit hkl) (fun w r ok hf => refEnc_any w r ok hf) (fun A B n c m d a b w ha hb hn hm hab => sameV_yes A B n c m d a b w ha hb hn hm hab) A n c l ca w h ha
end Go.Proofs.YtmogoopkjkdkgaaGreat.Vw
namespace Go.Proofs.YtmogoopkjkdkgaaGreat.Ord
open Go Go.ChangeShapes Go.WideShapes Go.RowKit Go.Proofs.YtmogoopkjkdkgaaGreat.Words
set_option linter.unusedVariables false

theorem seesH_of_row {w : World} {a : Option Addr} {len cap : Nat} {zs : List Int}
    (h : (a = none ∧ len = 0 ∧ cap = 0 ∧ zs = []) ∨ ∃ x, a = some x ∧ len ≤ cap ∧ cap ≤ maxLen ∧ zs.length = cap ∧ (∀ i, i < zs.length → w.cell? (x.add i) = some (.int .u16 (zs.getD i 0))) ∧ ∀ n ∈ zs, (Lit.int .u16 n).wf = true) :
    ∃ l, SeesH w a len l ∧ len ≤ cap ∧ cap ≤ maxLen := by
  rcases h with ⟨rfl, rfl, rfl, rfl⟩ | ⟨x, rfl, hl, hm, hz, hc, hw⟩
  · exact ⟨[], ⟨rfl, fun h => absurd h (by omega), fun x hx => by cases hx⟩, Nat.le_refl _, Nat.zero_le _⟩
  · have hb : ∀ y ∈ zs, ∃ z : Nat, y = (z : Int) ∧ z < 65536 := by
      intro y hy
      have := hw y hy
      simp [Lit.wf, IntKind.min, IntKind.max, IntKind.signed, IntKind.bits] at this
      exact ⟨y.toNat, by omega, by omega⟩
    refine ⟨(zs.take len).map Int.toNat, ⟨by simp; omega, fun hn => ?_, fun y hy => ?_⟩, hl, hm⟩
    · obtain ⟨b, o, s⟩ := x
      have hs0 : s = none := by
        have := hc 0 (by omega)
        simpa [Addr.add] using World.cell?_spot this
      subst hs0
      refine ⟨b, o, rfl, fun j u hu => ?_⟩
      have hj : j < len := by
        have := (List.getElem?_eq_some_iff.1 hu).1
        simp at this; omega
      rw [List.getElem?_map, List.getElem?_take, if_pos hj, List.getElem?_eq_getElem (by omega)] at hu
      injection hu with hu
      have hcj := hc j (by omega)
      rw [Words.add_plain] at hcj
      rw [hcj, List.getD_eq_getElem?_getD, List.getElem?_eq_getElem (by omega)]
      obtain ⟨z, hz1, hz2⟩ := hb _ (List.getElem_mem (show j < zs.length by omega))
      rw [← hu, Option.getD_some, hz1]
      simp
    · obtain ⟨z, hz1, rfl⟩ := List.mem_map.1 hy
      obtain ⟨q, hq1, hq2⟩ := hb z (List.mem_of_mem_take hz1)
      rw [hq1]
      simpa using hq2
end Go.Proofs.YtmogoopkjkdkgaaGreat.Ord
namespace Go.Proofs.YtmogoopkjkdkgaaGreat.Aggs
open Go Go.ChangeShapes Go.WideShapes Go.ChangeAt Go.Joins Go.Deep Go.RowKit
set_option linter.unusedVariables false
section
variable {H : Type} {enc : TypeId × Value → H} {P : Program} {w : World} {base : Nat} {spare : Nat → Bool} {held : Bool}

theorem trod_float {t : TypeId} {k : FloatKind} {fuel : Nat} {cs : List Value} {x : DataW H × List MemPlace} (ht : P.underlying t = some (.float k)) (h : DataW.trod enc P w base spare held fuel t cs = some x) : ∃ b, cs = [.float k b] ∧ x = (.lit (.float k b), []) ∧ (Lit.float k b).wf = true := by
  cases fuel with
  | zero => simp [DataW.trod] at h
  | succ n =>
    unfold DataW.trod at h
    rw [ht] at h
    split at h <;> simp_all
theorem trod_bool {t : TypeId} {fuel : Nat} {cs : List Value} {x : DataW H × List MemPlace} (ht : P.underlying t = some .bool) (h : DataW.trod enc P w base spare held fuel t cs = some x) : ∃ b, cs = [.bool b] ∧ x = (.lit (.bool b), []) := by
  cases fuel with
  | zero => simp [DataW.trod] at h
  | succ n =>
    unfold DataW.trod at h
    rw [ht] at h
    split at h <;> simp_all

theorem array8 {α : Type} {cs : Array α} (h : cs.size = 8) : ∃ c0 c1 c2 c3 c4 c5 c6 c7, cs = #[c0, c1, c2, c3, c4, c5, c6, c7] := by
  obtain ⟨l⟩ := cs
  match l, h with
  | [c0, c1, c2, c3, c4, c5, c6, c7], _ => exact ⟨c0, c1, c2, c3, c4, c5, c6, c7, rfl⟩
theorem list8 {α : Type} {l : List α} (h : l.length = 8) : ∃ c0 c1 c2 c3 c4 c5 c6 c7, l = [c0, c1, c2, c3, c4, c5, c6, c7] := by
  match l, h with
  | [c0, c1, c2, c3, c4, c5, c6, c7], _ => exact ⟨c0, c1, c2, c3, c4, c5, c6, c7, rfl⟩
theorem open_agg8 {r : Reach} {b0 : Nat} {t : TypeId} {f0 f1 f2 f3 f4 f5 f6 f7 : Field} {v : Value} {d : DataW H} {p : List MemPlace} (hs : P.underlying t = some (.struct #[f0, f1, f2, f3, f4, f5, f6, f7])) (hone : oneCellFields P #[f0, f1, f2, f3, f4, f5, f6, f7] = true) (hC : P.cellsOf t = 8)
    (hv : Value.okWide P w r b0 t v) (h : DataW.Trod enc P w base spare held t v d p) :
    ∃ (v0 v1 v2 v3 v4 v5 v6 v7 : Value) (y0 y1 y2 y3 y4 y5 y6 y7 : DataW H × List MemPlace) (n : Nat), v = .agg #[v0, v1, v2, v3, v4, v5, v6, v7] ∧ d = .agg [y0.1, y1.1, y2.1, y3.1, y4.1, y5.1, y6.1, y7.1] ∧ p = y0.2 ++ (y1.2 ++ (y2.2 ++ (y3.2 ++ (y4.2 ++ (y5.2 ++ (y6.2 ++ (y7.2))))))) ∧
      DataW.trod enc P w base spare held n f0.type [v0] = some y0 ∧ DataW.trod enc P w base spare held n f1.type [v1] = some y1 ∧ DataW.trod enc P w base spare held n f2.type [v2] = some y2 ∧ DataW.trod enc P w base spare held n f3.type [v3] = some y3 ∧ DataW.trod enc P w base spare held n f4.type [v4] = some y4 ∧ DataW.trod enc P w base spare held n f5.type [v5] = some y5 ∧ DataW.trod enc P w base spare held n f6.type [v6] = some y6 ∧ DataW.trod enc P w base spare held n f7.type [v7] = some y7 := by
  obtain ⟨cs, rfl, hsz⟩ := okWide_struct hs hv
  obtain ⟨c0, c1, c2, c3, c4, c5, c6, c7, rfl⟩ := array8 (hsz.trans hC)
  obtain ⟨fuel, hf⟩ := h
  obtain ⟨xs, n, _, hx, hl, hlen, hg⟩ := DataW.trod_struct hs hf
  obtain ⟨y0, y1, y2, y3, y4, y5, y6, y7, rfl⟩ := list8 (hlen.trans rfl)
  obtain ⟨o0, k0⟩ := hone_of hone 0 f0 rfl
  obtain ⟨o1, k1⟩ := hone_of hone 1 f1 rfl
  obtain ⟨o2, k2⟩ := hone_of hone 2 f2 rfl
  obtain ⟨o3, k3⟩ := hone_of hone 3 f3 rfl
  obtain ⟨o4, k4⟩ := hone_of hone 4 f4 rfl
  obtain ⟨o5, k5⟩ := hone_of hone 5 f5 rfl
  obtain ⟨o6, k6⟩ := hone_of hone 6 f6 rfl
  obtain ⟨o7, k7⟩ := hone_of hone 7 f7 rfl
  simp only [Prod.mk.injEq] at hx
  refine ⟨c0, c1, c2, c3, c4, c5, c6, c7, y0, y1, y2, y3, y4, y5, y6, y7, n, rfl, hx.1, by simpa using hx.2, ?_, ?_, ?_, ?_, ?_, ?_, ?_, ?_⟩
  · simpa [Value.cells, o0, k0] using hg 0 f0 rfl
  · simpa [Value.cells, o1, k1] using hg 1 f1 rfl
  · simpa [Value.cells, o2, k2] using hg 2 f2 rfl
  · simpa [Value.cells, o3, k3] using hg 3 f3 rfl
  · simpa [Value.cells, o4, k4] using hg 4 f4 rfl
  · simpa [Value.cells, o5, k5] using hg 5 f5 rfl
  · simpa [Value.cells, o6, k6] using hg 6 f6 rfl
  · simpa [Value.cells, o7, k7] using hg 7 f7 rfl
theorem shut_agg8 {t : TypeId} {f0 f1 f2 f3 f4 f5 f6 f7 : Field} {v0 v1 v2 v3 v4 v5 v6 v7 : Value} {y0 y1 y2 y3 y4 y5 y6 y7 : DataW H × List MemPlace} (hs : P.underlying t = some (.struct #[f0, f1, f2, f3, f4, f5, f6, f7])) (hone : oneCellFields P #[f0, f1, f2, f3, f4, f5, f6, f7] = true) (hC : P.cellsOf t = 8)
    (t0 : ∃ n, DataW.trod enc P w base spare held n f0.type [v0] = some y0) (t1 : ∃ n, DataW.trod enc P w base spare held n f1.type [v1] = some y1) (t2 : ∃ n, DataW.trod enc P w base spare held n f2.type [v2] = some y2) (t3 : ∃ n, DataW.trod enc P w base spare held n f3.type [v3] = some y3) (t4 : ∃ n, DataW.trod enc P w base spare held n f4.type [v4] = some y4) (t5 : ∃ n, DataW.trod enc P w base spare held n f5.type [v5] = some y5) (t6 : ∃ n, DataW.trod enc P w base spare held n f6.type [v6] = some y6) (t7 : ∃ n, DataW.trod enc P w base spare held n f7.type [v7] = some y7) :
    DataW.Trod enc P w base spare held t (.agg #[v0, v1, v2, v3, v4, v5, v6, v7]) (.agg [y0.1, y1.1, y2.1, y3.1, y4.1, y5.1, y6.1, y7.1]) (y0.2 ++ (y1.2 ++ (y2.2 ++ (y3.2 ++ (y4.2 ++ (y5.2 ++ (y6.2 ++ (y7.2)))))))) := by
  obtain ⟨n0, t0⟩ := t0
  obtain ⟨n1, t1⟩ := t1
  obtain ⟨n2, t2⟩ := t2
  obtain ⟨n3, t3⟩ := t3
  obtain ⟨n4, t4⟩ := t4
  obtain ⟨n5, t5⟩ := t5
  obtain ⟨n6, t6⟩ := t6
  obtain ⟨n7, t7⟩ := t7
  obtain ⟨o0, k0⟩ := hone_of hone 0 f0 rfl
  obtain ⟨o1, k1⟩ := hone_of hone 1 f1 rfl
  obtain ⟨o2, k2⟩ := hone_of hone 2 f2 rfl
  obtain ⟨o3, k3⟩ := hone_of hone 3 f3 rfl
  obtain ⟨o4, k4⟩ := hone_of hone 4 f4 rfl
  obtain ⟨o5, k5⟩ := hone_of hone 5 f5 rfl
  obtain ⟨o6, k6⟩ := hone_of hone 6 f6 rfl
  obtain ⟨o7, k7⟩ := hone_of hone 7 f7 rfl
  have u0 := DataW.trod_le (show n0 ≤ n0 + n1 + n2 + n3 + n4 + n5 + n6 + n7 by omega) t0
  have u1 := DataW.trod_le (show n1 ≤ n0 + n1 + n2 + n3 + n4 + n5 + n6 + n7 by omega) t1
  have u2 := DataW.trod_le (show n2 ≤ n0 + n1 + n2 + n3 + n4 + n5 + n6 + n7 by omega) t2
  have u3 := DataW.trod_le (show n3 ≤ n0 + n1 + n2 + n3 + n4 + n5 + n6 + n7 by omega) t3
  have u4 := DataW.trod_le (show n4 ≤ n0 + n1 + n2 + n3 + n4 + n5 + n6 + n7 by omega) t4
  have u5 := DataW.trod_le (show n5 ≤ n0 + n1 + n2 + n3 + n4 + n5 + n6 + n7 by omega) t5
  have u6 := DataW.trod_le (show n6 ≤ n0 + n1 + n2 + n3 + n4 + n5 + n6 + n7 by omega) t6
  have u7 := DataW.trod_le (show n7 ≤ n0 + n1 + n2 + n3 + n4 + n5 + n6 + n7 by omega) t7
  have ts := trod_struct_mk (enc := enc) (w := w) (base := base) (spare := spare) (held := held) (n := n0 + n1 + n2 + n3 + n4 + n5 + n6 + n7) (cs := [v0, v1, v2, v3, v4, v5, v6, v7]) (xs := [y0, y1, y2, y3, y4, y5, y6, y7]) hs (by simp [hC]) (by simp [o0, k0, o1, k1, o2, k2, o3, k3, o4, k4, o5, k5, o6, k6, o7, k7, u0, u1, u2, u3, u4, u5, u6, u7])
  exact ⟨_, by simpa [Value.cells] using ts⟩
theorem array5 {α : Type} {cs : Array α} (h : cs.size = 5) : ∃ c0 c1 c2 c3 c4, cs = #[c0, c1, c2, c3, c4] := by
  obtain ⟨l⟩ := cs
  match l, h with
  | [c0, c1, c2, c3, c4], _ => exact ⟨c0, c1, c2, c3, c4, rfl⟩
theorem list5 {α : Type} {l : List α} (h : l.length = 5) : ∃ c0 c1 c2 c3 c4, l = [c0, c1, c2, c3, c4] := by
  match l, h with
  | [c0, c1, c2, c3, c4], _ => exact ⟨c0, c1, c2, c3, c4, rfl⟩
theorem open_agg5 {r : Reach} {b0 : Nat} {t : TypeId} {f0 f1 f2 f3 f4 : Field} {v : Value} {d : DataW H} {p : List MemPlace} (hs : P.underlying t = some (.struct #[f0, f1, f2, f3, f4])) (hone : oneCellFields P #[f0, f1, f2, f3, f4] = true) (hC : P.cellsOf t = 5)
    (hv : Value.okWide P w r b0 t v) (h : DataW.Trod enc P w base spare held t v d p) :
    ∃ (v0 v1 v2 v3 v4 : Value) (y0 y1 y2 y3 y4 : DataW H × List MemPlace) (n : Nat), v = .agg #[v0, v1, v2, v3, v4] ∧ d = .agg [y0.1, y1.1, y2.1, y3.1, y4.1] ∧ p = y0.2 ++ (y1.2 ++ (y2.2 ++ (y3.2 ++ (y4.2)))) ∧
      DataW.trod enc P w base spare held n f0.type [v0] = some y0 ∧ DataW.trod enc P w base spare held n f1.type [v1] = some y1 ∧ DataW.trod enc P w base spare held n f2.type [v2] = some y2 ∧ DataW.trod enc P w base spare held n f3.type [v3] = some y3 ∧ DataW.trod enc P w base spare held n f4.type [v4] = some y4 := by
  obtain ⟨cs, rfl, hsz⟩ := okWide_struct hs hv
  obtain ⟨c0, c1, c2, c3, c4, rfl⟩ := array5 (hsz.trans hC)
  obtain ⟨fuel, hf⟩ := h
  obtain ⟨xs, n, _, hx, hl, hlen, hg⟩ := DataW.trod_struct hs hf
  obtain ⟨y0, y1, y2, y3, y4, rfl⟩ := list5 (hlen.trans rfl)
  obtain ⟨o0, k0⟩ := hone_of hone 0 f0 rfl
  obtain ⟨o1, k1⟩ := hone_of hone 1 f1 rfl
  obtain ⟨o2, k2⟩ := hone_of hone 2 f2 rfl
  obtain ⟨o3, k3⟩ := hone_of hone 3 f3 rfl
  obtain ⟨o4, k4⟩ := hone_of hone 4 f4 rfl
  simp only [Prod.mk.injEq] at hx
  refine ⟨c0, c1, c2, c3, c4, y0, y1, y2, y3, y4, n, rfl, hx.1, by simpa using hx.2, ?_, ?_, ?_, ?_, ?_⟩
  · simpa [Value.cells, o0, k0] using hg 0 f0 rfl
  · simpa [Value.cells, o1, k1] using hg 1 f1 rfl
  · simpa [Value.cells, o2, k2] using hg 2 f2 rfl
  · simpa [Value.cells, o3, k3] using hg 3 f3 rfl
  · simpa [Value.cells, o4, k4] using hg 4 f4 rfl
theorem shut_agg5 {t : TypeId} {f0 f1 f2 f3 f4 : Field} {v0 v1 v2 v3 v4 : Value} {y0 y1 y2 y3 y4 : DataW H × List MemPlace} (hs : P.underlying t = some (.struct #[f0, f1, f2, f3, f4])) (hone : oneCellFields P #[f0, f1, f2, f3, f4] = true) (hC : P.cellsOf t = 5)
    (t0 : ∃ n, DataW.trod enc P w base spare held n f0.type [v0] = some y0) (t1 : ∃ n, DataW.trod enc P w base spare held n f1.type [v1] = some y1) (t2 : ∃ n, DataW.trod enc P w base spare held n f2.type [v2] = some y2) (t3 : ∃ n, DataW.trod enc P w base spare held n f3.type [v3] = some y3) (t4 : ∃ n, DataW.trod enc P w base spare held n f4.type [v4] = some y4) :
    DataW.Trod enc P w base spare held t (.agg #[v0, v1, v2, v3, v4]) (.agg [y0.1, y1.1, y2.1, y3.1, y4.1]) (y0.2 ++ (y1.2 ++ (y2.2 ++ (y3.2 ++ (y4.2))))) := by
  obtain ⟨n0, t0⟩ := t0
  obtain ⟨n1, t1⟩ := t1
  obtain ⟨n2, t2⟩ := t2
  obtain ⟨n3, t3⟩ := t3
  obtain ⟨n4, t4⟩ := t4
  obtain ⟨o0, k0⟩ := hone_of hone 0 f0 rfl
  obtain ⟨o1, k1⟩ := hone_of hone 1 f1 rfl
  obtain ⟨o2, k2⟩ := hone_of hone 2 f2 rfl
  obtain ⟨o3, k3⟩ := hone_of hone 3 f3 rfl
  obtain ⟨o4, k4⟩ := hone_of hone 4 f4 rfl
  have u0 := DataW.trod_le (show n0 ≤ n0 + n1 + n2 + n3 + n4 by omega) t0
  have u1 := DataW.trod_le (show n1 ≤ n0 + n1 + n2 + n3 + n4 by omega) t1
  have u2 := DataW.trod_le (show n2 ≤ n0 + n1 + n2 + n3 + n4 by omega) t2
  have u3 := DataW.trod_le (show n3 ≤ n0 + n1 + n2 + n3 + n4 by omega) t3
  have u4 := DataW.trod_le (show n4 ≤ n0 + n1 + n2 + n3 + n4 by omega) t4
  have ts := trod_struct_mk (enc := enc) (w := w) (base := base) (spare := spare) (held := held) (n := n0 + n1 + n2 + n3 + n4) (cs := [v0, v1, v2, v3, v4]) (xs := [y0, y1, y2, y3, y4]) hs (by simp [hC]) (by simp [o0, k0, o1, k1, o2, k2, o3, k3, o4, k4, u0, u1, u2, u3, u4])
  exact ⟨_, by simpa [Value.cells] using ts⟩

/-! The form's own reach. -/
theorem sized_field {ts : List TypeId} {ds : List (DataW H)} (h : (DataW.weightsEach P ts ds).all (· ≤ reachBytes) = true) {j : Nat} {t : TypeId} {fs : Array Field} {parts : List (DataW H)} (ht : ts[j]? = some t) (hd : ds[j]? = some (.agg parts)) (hu : P.underlying t = some (.struct fs)) :
    (DataW.weightsEach P (fs.toList.map (·.type)) parts).all (· ≤ reachBytes) = true := by
  rw [List.all_eq_true]
  intro n hn
  exact List.all_eq_true.1 h _ (DataW.weights_mem_each ht hd n (by simpa [DataW.weights, hu] using hn))
theorem sized_bytes {ts : List TypeId} {ds : List (DataW H)} (h : (DataW.weightsEach P ts ds).all (· ≤ reachBytes) = true) {j : Nat} {t e : TypeId} {zs : List Int} {len cap : Nat} {y : DataW H} {z Z : List MemPlace} {k : IntKind} (ht : ts[j]? = some t) (hd : ds[j]? = some y)
    (hy : (y, z) = (.slice (lits k (zs.take len)) (lits k (zs.drop len)), Z)) (hz : zs.length = cap) (hu : P.underlying t = some (.slice e)) (hb : P.bytesOf e = 1) : cap ≤ 140737488351232 := by
  obtain ⟨rfl, -⟩ := Prod.mk.inj hy
  have := sized_slice h ht hd hu
  rw [hb] at this
  simp only [lits, List.length_map, List.length_take, List.length_drop, reachBytes] at this
  omega
theorem sized_text {ts : List TypeId} {ds : List (DataW H)} (h : (DataW.weightsEach P ts ds).all (· ≤ reachBytes) = true) {j : Nat} {t : TypeId} {s : ByteArray} (ht : ts[j]? = some t) (hd : ds[j]? = some (.lit (.string s.data.toList))) : s.size ≤ 140737488351232 := by
  have := sized_string h ht hd
  simp only [reachBytes] at this
  have e : s.data.toList.length = s.size := rfl
  omega
end
end Go.Proofs.YtmogoopkjkdkgaaGreat.Aggs
