/- Layer 16: where a letter lies; the document's calls, as rows of their own. A struct of eight one-cell fields, by value: opened, and shut. No program. Layer 16: the law's lay, kind 7. -/
import Derived.Lib.SmallJoins
import Derived.ShutString
import Derived.WalkLawsBesides
import Derived.Laws.Cover2
import Derived.SizedLaws
import Derived.ChangeSlices
import Derived.Deep.Cut
import Derived.Test.YthdflbpmabcjlaaDoorLTp06
import Derived.Test.YthdflbpmabcjlaaDoorLTp07
import Derived.Test.YthdflbpmabcjlaaDoorLTp11
namespace Go.Proofs.YthdflbpmabcjlaaDoor.Lt
open Go Go.RowKit Go.Proofs.YthdflbpmabcjlaaDoor.Words Go.Proofs.YthdflbpmabcjlaaDoor.Enc Go.Proofs.YthdflbpmabcjlaaDoor.Evt Go.Proofs.YthdflbpmabcjlaaDoor.Made Go.Proofs.YthdflbpmabcjlaaDoor.Seg
set_option linter.unusedVariables false
set_option linter.unusedSimpArgs false

/-- Where a letter's rows lie. -/
structure Adr where
  Ha : Option Addr
  hn : Nat
  hc : Nat
  Ra : Option Addr
  rn : Nat
  rc : Nat
  Ea : Option Addr
  en : Nat
  ec : Nat
  Ba : Option Addr
  bn : Nat
  bc : Nat
def Adr.zero : Adr := ⟨none, 0, 0, none, 0, 0, none, 0, 0, none, 0, 0⟩
def ltV (x : Lt) (v : Adr) : Array Value := #[.int .u8 (x.kind : Int), .int .i64 (x.src : Int), .int .i64 (x.dst : Int), .bool x.mine, .int .u64 (x.serial : Int), .slice v.Ha v.hn v.hc, .slice v.Ra v.rn v.rc, .slice v.Ea v.en v.ec, .int .u64 (x.time : Int), .int .u64 (x.size : Int), .int .u32 (x.sum : Int), .int .u64 (x.pos : Int), .slice v.Ba v.bn v.bc, .int .i64 (x.why : Int)]
/-- One row of a letter lies at ⟨b, o⟩. -/
def RwAt (w : World) (b o : Nat) (r : Rw) : Prop := ∃ A n c, w.cell? ⟨b, o, none⟩ = some (.int .i64 (r.node : Int)) ∧ w.cell? ⟨b, o + 1, none⟩ = some (.slice A n c) ∧ w.cell? ⟨b, o + 2, none⟩ = some (.int .u64 (r.time : Int)) ∧ Vec.SeesU w A n r.H
theorem RwAt.below {w w' : World} {b o : Nat} {r : Rw} (h : RwAt w b o r) (hb : Below w.heap.size w w') : RwAt w' b o r := by
  obtain ⟨A, n, c, h0, h1, h2, h3⟩ := h
  exact ⟨A, n, c, by rw [hb.cell (World.block_lt_of_cell? _ _ h0)]; exact h0, by rw [hb.cell (World.block_lt_of_cell? _ _ h1)]; exact h1, by rw [hb.cell (World.block_lt_of_cell? _ _ h2)]; exact h2, h3.below hb⟩
structure LtAt (w : World) (x : Lt) (v : Adr) (S : List EvS) : Prop where
  H : Vec.SeesU w v.Ha v.hn x.H
  rn : v.rn = x.rows.length
  rows : ∀ (j : Nat) (r : Rw), x.rows[j]? = some r → ∃ b o, v.Ra = some ⟨b, o, none⟩ ∧ RwAt w b (o + j * 3) r
  en : v.en = x.E.length
  ev : x.E = S.map EvS.e
  E : Ord.SameR w v.Ea S
  bytes : Sees w v.Ba v.bn x.bytes
theorem LtAt.below {w w' : World} {x : Lt} {v : Adr} {S : List EvS} (h : LtAt w x v S) (hb : Below w.heap.size w w') : LtAt w' x v S :=
  ⟨h.H.below hb, h.rn, fun j r hj => by obtain ⟨b, o, h1, h2⟩ := h.rows j r hj; exact ⟨b, o, h1, h2.below hb⟩, h.en, h.ev, h.E.below hb, h.bytes.below hb⟩
theorem lt_cells {W : World} {B : Nat} {x : Lt} {v : Adr} {T : TypeId} (h : W.heap[B]? = some (.cells (ltV x v) T (0, 0))) :
    W.cell? ⟨B, 0, none⟩ = some (.int .u8 (x.kind : Int)) ∧ W.cell? ⟨B, 1, none⟩ = some (.int .i64 (x.src : Int)) ∧ W.cell? ⟨B, 2, none⟩ = some (.int .i64 (x.dst : Int)) ∧ W.cell? ⟨B, 3, none⟩ = some (.bool x.mine) ∧ W.cell? ⟨B, 4, none⟩ = some (.int .u64 (x.serial : Int)) ∧ W.cell? ⟨B, 5, none⟩ = some (.slice v.Ha v.hn v.hc) ∧ W.cell? ⟨B, 6, none⟩ = some (.slice v.Ra v.rn v.rc) ∧ W.cell? ⟨B, 7, none⟩ = some (.slice v.Ea v.en v.ec) ∧ W.cell? ⟨B, 8, none⟩ = some (.int .u64 (x.time : Int)) ∧ W.cell? ⟨B, 9, none⟩ = some (.int .u64 (x.size : Int)) ∧ W.cell? ⟨B, 10, none⟩ = some (.int .u32 (x.sum : Int)) ∧ W.cell? ⟨B, 11, none⟩ = some (.int .u64 (x.pos : Int)) ∧ W.cell? ⟨B, 12, none⟩ = some (.slice v.Ba v.bn v.bc) ∧ W.cell? ⟨B, 13, none⟩ = some (.int .i64 (x.why : Int)) := by
  refine ⟨?_, ?_, ?_, ?_, ?_, ?_, ?_, ?_, ?_, ?_, ?_, ?_, ?_, ?_⟩ <;> (rw [cell_of_row W B _ _ _ _ h]; rfl)
/-- A row of bytes that the call owns. -/
def GivesR (w : World) (l : List UInt8) (e : Ending) (w' : World) : Prop := ∃ A c, e = .returned (.slice A l.length c) ∧ w'.ownsRow w.heap.size 5 1 (.slice A l.length c) l.length (cs l) ∧ Below w.heap.size w w'
theorem gives_of {n : Nat} {l : List UInt8} {w : World} {e : Ending} {w' : World} (h : New w.heap.size n l w e w') : GivesR w l e w' := by
  obtain ⟨A, c, rfl, ho, hb⟩ := h
  have hn : n = l.length := by have := ho.1; rw [cs_length, Nat.mul_one] at this; exact this.symm
  subst hn
  exact ⟨A, c, rfl, ho, hb⟩
def PRowE (l : List UInt8) : Facts.Pred := ⟨fun v w => ∃ A c, v = .slice A l.length c ∧ Sees w A l.length l, fun _ _ _ ⟨A, c, h, hs⟩ hb => ⟨A, c, h, hs.below hb⟩⟩
def POwnE (base : Nat) (l : List UInt8) : Facts.Pred := ⟨fun v w => ∃ A c, v = .slice A l.length c ∧ w.ownsRow base 5 1 (.slice A l.length c) l.length (cs l), fun _ _ _ ⟨A, c, h, ho⟩ hb => ⟨A, c, h, Own.below ho hb (Nat.le_refl _)⟩⟩
theorem b8_int {K : Nat} (h : K < 256) : ((b8 K).toNat : Int) = (K : Int) := by
  unfold b8
  rw [UInt8.toNat_ofNat_of_lt' (by exact h)]
theorem rlay (A : Option Addr) (c : Nat) (l : List UInt8) (n : Nat) (w : World) (hs : Sees w A l.length l) (hn : l.length ≤ 1000000000) (hx : n < 18446744073709551616) :
    Calls Tryd.prog 12 #[.slice A l.length c, .int .u64 (n : Int)] w (GivesR w (l ++ enc n)) := (refLay_any A _ c l (n : Int) w hs hn (by omega) (by omega)).mono fun _ _ h => by
  have := gives_of h
  rw [Int.toNat_natCast] at this
  exact this
theorem rtext (A : Option Addr) (c : Nat) (l : List UInt8) (Q : Option Addr) (n k : Nat) (q : List UInt8) (w : World) (hs : Sees w A l.length l) (hq : Sees w Q n q) (hn : l.length ≤ 1000000000) (hm : q.length ≤ 1000000000) :
    Calls Tryd.prog 14 #[.slice A l.length c, .slice Q n k] w (GivesR w (l ++ enc q.length ++ q)) := by
  obtain rfl : n = q.length := hq.1.symm
  exact (refText_any A _ c l Q _ k q w hs hq hn hm).mono fun _ _ h => gives_of h
theorem rlayV (A : Option Addr) (c : Nat) (l : List UInt8) (Q : Option Addr) (n k : Nat) (v : List Nat) (w : World) (hs : Sees w A l.length l) (hv : Vec.SeesU w Q n v) (hsm : Vec.Small v) (hn : l.length ≤ 100000) :
    Calls Tryd.prog 13 #[.slice A l.length c, .slice Q n k] w (GivesR w (l ++ Vec.layL v)) := (Vec.refLayV_any A Q _ c n k l v w hs hv hsm hn).mono fun _ _ h => gives_of h
theorem rwrap (A : Option Addr) (c : Nat) (l : List UInt8) (w : World) (hs : Sees w A l.length l) (hn : l.length ≤ 900000000) :
    Calls Tryd.prog 10 #[.slice A l.length c] w (GivesR w (wrap l)) := (refWrap_any A _ c l w hs hn).mono fun _ _ h => gives_of h
end Go.Proofs.YthdflbpmabcjlaaDoor.Lt
namespace Go.Proofs.YthdflbpmabcjlaaDoor.Aggs
open Go Go.ChangeShapes Go.WideShapes Go.ChangeAt Go.Joins Go.Deep Go.RowKit
set_option linter.unusedVariables false
section
variable {H : Type} {enc : TypeId × Value → H} {P : Program} {w : World} {base : Nat} {spare : Nat → Bool} {held : Bool}

theorem trod_float {t : TypeId} {k : FloatKind} {fuel : Nat} {cs : List Value} {x : DataW H × List MemPlace} (ht : P.underlying t = some (.float k)) (h : DataW.trod enc P w base spare held fuel t cs = some x) : ∃ b, cs = [.float k b] ∧ x = (.lit (.float k b), []) ∧ (Lit.float k b).wf = true := by
  cases fuel with
  | zero => simp [DataW.trod] at h
  | succ n =>
    unfold DataW.trod at h
    rw [ht] at h
    split at h <;> simp_all
theorem trod_bool {t : TypeId} {fuel : Nat} {cs : List Value} {x : DataW H × List MemPlace} (ht : P.underlying t = some .bool) (h : DataW.trod enc P w base spare held fuel t cs = some x) : ∃ b, cs = [.bool b] ∧ x = (.lit (.bool b), []) := by
  cases fuel with
  | zero => simp [DataW.trod] at h
  | succ n =>
    unfold DataW.trod at h
    rw [ht] at h
    split at h <;> simp_all

theorem array8 {α : Type} {cs : Array α} (h : cs.size = 8) : ∃ c0 c1 c2 c3 c4 c5 c6 c7, cs = #[c0, c1, c2, c3, c4, c5, c6, c7] := by
  obtain ⟨l⟩ := cs
  match l, h with
  | [c0, c1, c2, c3, c4, c5, c6, c7], _ => exact ⟨c0, c1, c2, c3, c4, c5, c6, c7, rfl⟩
theorem list8 {α : Type} {l : List α} (h : l.length = 8) : ∃ c0 c1 c2 c3 c4 c5 c6 c7, l = [c0, c1, c2, c3, c4, c5, c6, c7] := by
  match l, h with
  | [c0, c1, c2, c3, c4, c5, c6, c7], _ => exact ⟨c0, c1, c2, c3, c4, c5, c6, c7, rfl⟩
theorem open_agg8 {r : Reach} {b0 : Nat} {t : TypeId} {f0 f1 f2 f3 f4 f5 f6 f7 : Field} {v : Value} {d : DataW H} {p : List MemPlace} (hs : P.underlying t = some (.struct #[f0, f1, f2, f3, f4, f5, f6, f7])) (hone : oneCellFields P #[f0, f1, f2, f3, f4, f5, f6, f7] = true) (hC : P.cellsOf t = 8)
    (hv : Value.okWide P w r b0 t v) (h : DataW.Trod enc P w base spare held t v d p) :
    ∃ (v0 v1 v2 v3 v4 v5 v6 v7 : Value) (y0 y1 y2 y3 y4 y5 y6 y7 : DataW H × List MemPlace) (n : Nat), v = .agg #[v0, v1, v2, v3, v4, v5, v6, v7] ∧ d = .agg [y0.1, y1.1, y2.1, y3.1, y4.1, y5.1, y6.1, y7.1] ∧ p = y0.2 ++ (y1.2 ++ (y2.2 ++ (y3.2 ++ (y4.2 ++ (y5.2 ++ (y6.2 ++ (y7.2))))))) ∧
      DataW.trod enc P w base spare held n f0.type [v0] = some y0 ∧ DataW.trod enc P w base spare held n f1.type [v1] = some y1 ∧ DataW.trod enc P w base spare held n f2.type [v2] = some y2 ∧ DataW.trod enc P w base spare held n f3.type [v3] = some y3 ∧ DataW.trod enc P w base spare held n f4.type [v4] = some y4 ∧ DataW.trod enc P w base spare held n f5.type [v5] = some y5 ∧ DataW.trod enc P w base spare held n f6.type [v6] = some y6 ∧ DataW.trod enc P w base spare held n f7.type [v7] = some y7 := by
  obtain ⟨cs, rfl, hsz⟩ := okWide_struct hs hv
  obtain ⟨c0, c1, c2, c3, c4, c5, c6, c7, rfl⟩ := array8 (hsz.trans hC)
  obtain ⟨fuel, hf⟩ := h
  obtain ⟨xs, n, _, hx, hl, hlen, hg⟩ := DataW.trod_struct hs hf
  obtain ⟨y0, y1, y2, y3, y4, y5, y6, y7, rfl⟩ := list8 (hlen.trans rfl)
  obtain ⟨o0, k0⟩ := hone_of hone 0 f0 rfl
  obtain ⟨o1, k1⟩ := hone_of hone 1 f1 rfl
  obtain ⟨o2, k2⟩ := hone_of hone 2 f2 rfl
  obtain ⟨o3, k3⟩ := hone_of hone 3 f3 rfl
  obtain ⟨o4, k4⟩ := hone_of hone 4 f4 rfl
  obtain ⟨o5, k5⟩ := hone_of hone 5 f5 rfl
  obtain ⟨o6, k6⟩ := hone_of hone 6 f6 rfl
  obtain ⟨o7, k7⟩ := hone_of hone 7 f7 rfl
  simp only [Prod.mk.injEq] at hx
  refine ⟨c0, c1, c2, c3, c4, c5, c6, c7, y0, y1, y2, y3, y4, y5, y6, y7, n, rfl, hx.1, by simpa using hx.2, ?_, ?_, ?_, ?_, ?_, ?_, ?_, ?_⟩
  · simpa [Value.cells, o0, k0] using hg 0 f0 rfl
  · simpa [Value.cells, o1, k1] using hg 1 f1 rfl
  · simpa [Value.cells, o2, k2] using hg 2 f2 rfl
  · simpa [Value.cells, o3, k3] using hg 3 f3 rfl
  · simpa [Value.cells, o4, k4] using hg 4 f4 rfl
  · simpa [Value.cells, o5, k5] using hg 5 f5 rfl
  · simpa [Value.cells, o6, k6] using hg 6 f6 rfl
  · simpa [Value.cells, o7, k7] using hg 7 f7 rfl
theorem shut_agg8 {t : TypeId} {f0 f1 f2 f3 f4 f5 f6 f7 : Field} {v0 v1 v2 v3 v4 v5 v6 v7 : Value} {y0 y1 y2 y3 y4 y5 y6 y7 : DataW H × List MemPlace} (hs : P.underlying t = some (.struct #[f0, f1, f2, f3, f4, f5, f6, f7])) (hone : oneCellFields P #[f0, f1, f2, f3, f4, f5, f6, f7] = true) (hC : P.cellsOf t = 8)
    (t0 : ∃ n, DataW.trod enc P w base spare held n f0.type [v0] = some y0) (t1 : ∃ n, DataW.trod enc P w base spare held n f1.type [v1] = some y1) (t2 : ∃ n, DataW.trod enc P w base spare held n f2.type [v2] = some y2) (t3 : ∃ n, DataW.trod enc P w base spare held n f3.type [v3] = some y3) (t4 : ∃ n, DataW.trod enc P w base spare held n f4.type [v4] = some y4) (t5 : ∃ n, DataW.trod enc P w base spare held n f5.type [v5] = some y5) (t6 : ∃ n, DataW.trod enc P w base spare held n f6.type [v6] = some y6) (t7 : ∃ n, DataW.trod enc P w base spare held n f7.type [v7] = some y7) :
    DataW.Trod enc P w base spare held t (.agg #[v0, v1, v2, v3, v4, v5, v6, v7]) (.agg [y0.1, y1.1, y2.1, y3.1, y4.1, y5.1, y6.1, y7.1]) (y0.2 ++ (y1.2 ++ (y2.2 ++ (y3.2 ++ (y4.2 ++ (y5.2 ++ (y6.2 ++ (y7.2)))))))) := by
  obtain ⟨n0, t0⟩ := t0
  obtain ⟨n1, t1⟩ := t1
  obtain ⟨n2, t2⟩ := t2
  obtain ⟨n3, t3⟩ := t3
  obtain ⟨n4, t4⟩ := t4
  obtain ⟨n5, t5⟩ := t5
  obtain ⟨n6, t6⟩ := t6
  obtain ⟨n7, t7⟩ := t7
  obtain ⟨o0, k0⟩ := hone_of hone 0 f0 rfl
  obtain ⟨o1, k1⟩ := hone_of hone 1 f1 rfl
  obtain ⟨o2, k2⟩ := hone_of hone 2 f2 rfl
  obtain ⟨o3, k3⟩ := hone_of hone 3 f3 rfl
  obtain ⟨o4, k4⟩ := hone_of hone 4 f4 rfl
  obtain ⟨o5, k5⟩ := hone_of hone 5 f5 rfl
  obtain ⟨o6, k6⟩ := hone_of hone 6 f6 rfl
  obtain ⟨o7, k7⟩ := hone_of hone 7 f7 rfl
  have u0 := DataW.trod_le (show n0 ≤ n0 + n1 + n2 + n3 + n4 + n5 + n6 + n7 by omega) t0
  have u1 := DataW.trod_le (show n1 ≤ n0 + n1 + n2 + n3 + n4 + n5 + n6 + n7 by omega) t1
  have u2 := DataW.trod_le (show n2 ≤ n0 + n1 + n2 + n3 + n4 + n5 + n6 + n7 by omega) t2
  have u3 := DataW.trod_le (show n3 ≤ n0 + n1 + n2 + n3 + n4 + n5 + n6 + n7 by omega) t3
  have u4 := DataW.trod_le (show n4 ≤ n0 + n1 + n2 + n3 + n4 + n5 + n6 + n7 by omega) t4
  have u5 := DataW.trod_le (show n5 ≤ n0 + n1 + n2 + n3 + n4 + n5 + n6 + n7 by omega) t5
  have u6 := DataW.trod_le (show n6 ≤ n0 + n1 + n2 + n3 + n4 + n5 + n6 + n7 by omega) t6
  have u7 := DataW.trod_le (show n7 ≤ n0 + n1 + n2 + n3 + n4 + n5 + n6 + n7 by omega) t7
  have ts := trod_struct_mk (enc := enc) (w := w) (base := base) (spare := spare) (held := held) (n := n0 + n1 + n2 + n3 + n4 + n5 + n6 + n7) (cs := [v0, v1, v2, v3, v4, v5, v6, v7]) (xs := [y0, y1, y2, y3, y4, y5, y6, y7]) hs (by simp [hC]) (by simp [o0, k0, o1, k1, o2, k2, o3, k3, o4, k4, o5, k5, o6, k6, o7, k7, u0, u1, u2, u3, u4, u5, u6, u7])
  exact ⟨_, by simpa [Value.cells] using ts⟩
theorem array5 {α : Type} {cs : Array α} (h : cs.size = 5) : ∃ c0 c1 c2 c3 c4, cs = #[c0, c1, c2, c3, c4] := by
  obtain ⟨l⟩ := cs
  match l, h with
  | [c0, c1, c2, c3, c4], _ => exact ⟨c0, c1, c2, c3, c4, rfl⟩
theorem list5 {α : Type} {l : List α} (h : l.length = 5) : ∃ c0 c1 c2 c3 c4, l = [c0, c1, c2, c3, c4] := by
  match l, h with
  | [c0, c1, c2, c3, c4], _ => exact ⟨c0, c1, c2, c3, c4, rfl⟩
theorem open_agg5 {r : Reach} {b0 : Nat} {t : TypeId} {f0 f1 f2 f3 f4 : Field} {v : Value} {d : DataW H} {p : List MemPlace} (hs : P.underlying t = some (.struct #[f0, f1, f2, f3, f4])) (hone : oneCellFields P #[f0, f1, f2, f3, f4] = true) (hC : P.cellsOf t = 5)
    (hv : Value.okWide P w r b0 t v) (h : DataW.Trod enc P w base spare held t v d p) :
    ∃ (v0 v1 v2 v3 v4 : Value) (y0 y1 y2 y3 y4 : DataW H × List MemPlace) (n : Nat), v = .agg #[v0, v1, v2, v3, v4] ∧ d = .agg [y0.1, y1.1, y2.1, y3.1, y4.1] ∧ p = y0.2 ++ (y1.2 ++ (y2.2 ++ (y3.2 ++ (y4.2)))) ∧
      DataW.trod enc P w base spare held n f0.type [v0] = some y0 ∧ DataW.trod enc P w base spare held n f1.type [v1] = some y1 ∧ DataW.trod enc P w base spare held n f2.type [v2] = some y2 ∧ DataW.trod enc P w base spare held n f3.type [v3] = some y3 ∧ DataW.trod enc P w base spare held n f4.type [v4] = some y4 := by
  obtain ⟨cs, rfl, hsz⟩ := okWide_struct hs hv
  obtain ⟨c0, c1, c2, c3, c4, rfl⟩ := array5 (hsz.trans hC)
  obtain ⟨fuel, hf⟩ := h
  obtain ⟨xs, n, _, hx, hl, hlen, hg⟩ := DataW.trod_struct hs hf
  obtain ⟨y0, y1, y2, y3, y4, rfl⟩ := list5 (hlen.trans rfl)
  obtain ⟨o0, k0⟩ := hone_of hone 0 f0 rfl
  obtain ⟨o1, k1⟩ := hone_of hone 1 f1 rfl
  obtain ⟨o2, k2⟩ := hone_of hone 2 f2 rfl
  obtain ⟨o3, k3⟩ := hone_of hone 3 f3 rfl
  obtain ⟨o4, k4⟩ := hone_of hone 4 f4 rfl
  simp only [Prod.mk.injEq] at hx
  refine ⟨c0, c1, c2, c3, c4, y0, y1, y2, y3, y4, n, rfl, hx.1, by simpa using hx.2, ?_, ?_, ?_, ?_, ?_⟩
  · simpa [Value.cells, o0, k0] using hg 0 f0 rfl
  · simpa [Value.cells, o1, k1] using hg 1 f1 rfl
  · simpa [Value.cells, o2, k2] using hg 2 f2 rfl
  · simpa [Value.cells, o3, k3] using hg 3 f3 rfl
  · simpa [Value.cells, o4, k4] using hg 4 f4 rfl
theorem shut_agg5 {t : TypeId} {f0 f1 f2 f3 f4 : Field} {v0 v1 v2 v3 v4 : Value} {y0 y1 y2 y3 y4 : DataW H × List MemPlace} (hs : P.underlying t = some (.struct #[f0, f1, f2, f3, f4])) (hone : oneCellFields P #[f0, f1, f2, f3, f4] = true) (hC : P.cellsOf t = 5)
    (t0 : ∃ n, DataW.trod enc P w base spare held n f0.type [v0] = some y0) (t1 : ∃ n, DataW.trod enc P w base spare held n f1.type [v1] = some y1) (t2 : ∃ n, DataW.trod enc P w base spare held n f2.type [v2] = some y2) (t3 : ∃ n, DataW.trod enc P w base spare held n f3.type [v3] = some y3) (t4 : ∃ n, DataW.trod enc P w base spare held n f4.type [v4] = some y4) :
    DataW.Trod enc P w base spare held t (.agg #[v0, v1, v2, v3, v4]) (.agg [y0.1, y1.1, y2.1, y3.1, y4.1]) (y0.2 ++ (y1.2 ++ (y2.2 ++ (y3.2 ++ (y4.2))))) := by
  obtain ⟨n0, t0⟩ := t0
  obtain ⟨n1, t1⟩ := t1
  obtain ⟨n2, t2⟩ := t2
  obtain ⟨n3, t3⟩ := t3
  obtain ⟨n4, t4⟩ := t4
  obtain ⟨o0, k0⟩ := hone_of hone 0 f0 rfl
  obtain ⟨o1, k1⟩ := hone_of hone 1 f1 rfl
  obtain ⟨o2, k2⟩ := hone_of hone 2 f2 rfl
  obtain ⟨o3, k3⟩ := hone_of hone 3 f3 rfl
  obtain ⟨o4, k4⟩ := hone_of hone 4 f4 rfl
  have u0 := DataW.trod_le (show n0 ≤ n0 + n1 + n2 + n3 + n4 by omega) t0
  have u1 := DataW.trod_le (show n1 ≤ n0 + n1 + n2 + n3 + n4 by omega) t1
  have u2 := DataW.trod_le (show n2 ≤ n0 + n1 + n2 + n3 + n4 by omega) t2
  have u3 := DataW.trod_le (show n3 ≤ n0 + n1 + n2 + n3 + n4 by omega) t3
  have u4 := DataW.trod_le (show n4 ≤ n0 + n1 + n2 + n3 + n4 by omega) t4
  have ts := trod_struct_mk (enc := enc) (w := w) (base := base) (spare := spare) (held := held) (n := n0 + n1 + n2 + n3 + n4) (cs := [v0, v1, v2, v3, v4]) (xs := [y0, y1, y2, y3, y4]) hs (by simp [hC]) (by simp [o0, k0, o1, k1, o2, k2, o3, k3, o4, k4, u0, u1, u2, u3, u4])
  exact ⟨_, by simpa [Value.cells] using ts⟩

/-! The form's own reach. -/
theorem sized_field {ts : List TypeId} {ds : List (DataW H)} (h : (DataW.weightsEach P ts ds).all (· ≤ reachBytes) = true) {j : Nat} {t : TypeId} {fs : Array Field} {parts : List (DataW H)} (ht : ts[j]? = some t) (hd : ds[j]? = some (.agg parts)) (hu : P.underlying t = some (.struct fs)) :
    (DataW.weightsEach P (fs.toList.map (·.type)) parts).all (· ≤ reachBytes) = true := by
  rw [List.all_eq_true]
  intro n hn
  exact List.all_eq_true.1 h _ (DataW.weights_mem_each ht hd n (by simpa [DataW.weights, hu] using hn))
theorem sized_bytes {ts : List TypeId} {ds : List (DataW H)} (h : (DataW.weightsEach P ts ds).all (· ≤ reachBytes) = true) {j : Nat} {t e : TypeId} {zs : List Int} {len cap : Nat} {y : DataW H} {z Z : List MemPlace} {k : IntKind} (ht : ts[j]? = some t) (hd : ds[j]? = some y)
    (hy : (y, z) = (.slice (lits k (zs.take len)) (lits k (zs.drop len)), Z)) (hz : zs.length = cap) (hu : P.underlying t = some (.slice e)) (hb : P.bytesOf e = 1) : cap ≤ 140737488351232 := by
  obtain ⟨rfl, -⟩ := Prod.mk.inj hy
  have := sized_slice h ht hd hu
  rw [hb] at this
  simp only [lits, List.length_map, List.length_take, List.length_drop, reachBytes] at this
  omega
theorem sized_text {ts : List TypeId} {ds : List (DataW H)} (h : (DataW.weightsEach P ts ds).all (· ≤ reachBytes) = true) {j : Nat} {t : TypeId} {s : ByteArray} (ht : ts[j]? = some t) (hd : ds[j]? = some (.lit (.string s.data.toList))) : s.size ≤ 140737488351232 := by
  have := sized_string h ht hd
  simp only [reachBytes] at this
  have e : s.data.toList.length = s.size := rfl
  omega
end
end Go.Proofs.YthdflbpmabcjlaaDoor.Aggs
namespace Go.Proofs.YthdflbpmabcjlaaDoor.Lt
open Go Go.RowKit Go.Proofs.YthdflbpmabcjlaaDoor.Words Go.Proofs.YthdflbpmabcjlaaDoor.Enc Go.Proofs.YthdflbpmabcjlaaDoor.Evt Go.Proofs.YthdflbpmabcjlaaDoor.Made Go.Proofs.YthdflbpmabcjlaaDoor.Seg
set_option linter.unusedVariables false
set_option linter.unusedSimpArgs false

set_option maxRecDepth 100000 in
set_option maxHeartbeats 4000000 in
theorem lay_k7 (w : World) (x : Lt) (v : Adr) (S : List EvS) (h : LtAt w x v S) (ok : Ok x) (hk : x.kind = 7) :
    Calls Tryd.prog 7 #[.agg (ltV x v)] w (GivesR w (wrap (ltL x))) := by
  obtain ⟨i, hi, hz, hsz, hby⟩ := info_parts info8
  obtain ⟨B, hB⟩ : ∃ B, B = w.heap.size := ⟨_, rfl⟩
  obtain ⟨u, hu⟩ : ∃ u, u = w.alloc (.cells (ltV x v) 37) := ⟨_, rfl⟩
  have bu : Below w.heap.size w u := by rw [hu]; exact (Below.refl _ _).alloc (Nat.le_refl _) _
  have hus : u.heap.size = B + 1 := by rw [hu, hB]; simp
  have gB : u.heap[B]? = some (.cells (ltV x v) 37 (0, 0)) := by rw [hu, hB]; exact heap_alloc_new w _
  have CELLS0 := Lib.hid (fun (W : World) (hW : Below u.heap.size u W) => lt_cells ((hW.block B (by omega)).trans gB))
  have HAT := Lib.hid (fun (W : World) (hW : Below u.heap.size u W) => (h.below bu).below hW)
  have HHL := Lib.hid (ltHead_len ok)
  have hlen := ltL_len ok
  obtain ⟨L, hL⟩ : ∃ L, L = ltL x := ⟨_, rfl⟩
  rw [← hL] at hlen ⊢
  have HLL := Lib.hid (And.intro hL hlen)
  have HOK := Lib.hid ok
  have HK := Lib.hid hk
  obtain ⟨hd, hhd⟩ : ∃ hd, hd = ltHead x := ⟨_, rfl⟩
  have HHD := Lib.hid hhd
  obtain ⟨K, src, dst, mine, ser, H, rows, E, tm, sz, sm, ps, bts, wy⟩ := x
  obtain ⟨Ha, hn, hc, Ra, rn, rc, Ea, en, ec, Ba, bn, bc⟩ := v
  obtain ⟨l1, hl1⟩ : ∃ l, l = enc 1 := ⟨_, rfl⟩
  obtain ⟨l2, hl2⟩ : ∃ l, l = l1 ++ [b8 K] := ⟨_, rfl⟩
  obtain ⟨l3, hl3⟩ : ∃ l, l = l2 ++ enc src := ⟨_, rfl⟩
  obtain ⟨l4, hl4⟩ : ∃ l, l = l3 ++ enc dst := ⟨_, rfl⟩
  obtain ⟨mn, hmn⟩ : ∃ n : Nat, n = if mine then 1 else 0 := ⟨_, rfl⟩
  obtain ⟨l5, hl5⟩ : ∃ l, l = l4 ++ enc mn := ⟨_, rfl⟩
  have hK := ok.kind
  have hed := ok.ends
  have hser := ok.serial
  have htm := ok.time
  have hsz2 := ok.size
  simp only at hK hed hser htm hsz2
  have hl6 : hd = l5 ++ enc ser := by rw [hhd, hl5, hl4, hl3, hl2, hl1, hmn]; rfl
  have hlh := HHL.out
  rw [← hhd] at hlh
  have e6 := congrArg List.length hl6
  have e5 := congrArg List.length hl5
  have e4 := congrArg List.length hl4
  have e3 := congrArg List.length hl3
  have e2 := congrArg List.length hl2
  rw [List.length_append] at e2 e3 e4 e5 e6
  have L1 := Lib.hid (fun (W : World) => (by have := rlay none 0 [] 1 W (Sees.nil _ _) (by simp) (by omega); rw [List.nil_append, ← hl1] at this; exact this : Calls Tryd.prog 12 #[.slice none 0 0, .int .u64 1] W (GivesR W l1)))
  have L2 := Lib.hid (fun (W : World) A c (hs : Sees W A l2.length l2) => (by have := rlay A c l2 src W hs (by omega) (by omega); rw [← hl3] at this; exact this : Calls Tryd.prog 12 #[.slice A l2.length c, .int .u64 (src : Int)] W (GivesR W l3)))
  have L3 := Lib.hid (fun (W : World) A c (hs : Sees W A l3.length l3) => (by have := rlay A c l3 dst W hs (by omega) (by omega); rw [← hl4] at this; exact this : Calls Tryd.prog 12 #[.slice A l3.length c, .int .u64 (dst : Int)] W (GivesR W l4)))
  have L4 := Lib.hid (fun (W : World) A c (hs : Sees W A l4.length l4) => (by have := rlay A c l4 mn W hs (by omega) (by rw [hmn]; split <;> omega); rw [← hl5] at this; exact this : Calls Tryd.prog 12 #[.slice A l4.length c, .int .u64 (mn : Int)] W (GivesR W l5)))
  have L5 := Lib.hid (fun (W : World) A c (hs : Sees W A l5.length l5) => (by have := rlay A c l5 ser W hs (by omega) (by omega); rw [← hl6] at this; exact this : Calls Tryd.prog 12 #[.slice A l5.length c, .int .u64 (ser : Int)] W (GivesR W hd)))
  have CELLS := Lib.hid (fun (W : World) (hW : Below u.heap.size u W) => CELLS0.out W hW)
  simp only at CELLS
  have hws : IntKind.u64.wrap (src : Int) = (src : Int) := wrap_in src (by omega)
  have hwd : IntKind.u64.wrap (dst : Int) = (dst : Int) := wrap_in dst (by omega)
  have HL2 := Lib.hid hl2
  have HU := Lib.hid hu
  have HB := Lib.hid hB
  have HUS := Lib.hid hus
  have BU := Lib.hid bu
  have HMN := Lib.hid hmn
  have HE2 := Lib.hid (show l2.length = l1.length + 1 by rw [e2]; simp)
  have HLE := Lib.hid (show hd.length ≤ 60 ∧ l1.length ≤ 60 by omega)
  have hk8 : ((b8 K).toNat : Int) = (K : Int) := b8_int (by omega)
  have HK8 := Lib.hid hk8
  clear hl1 hl2 hl3 hl4 hl5 hl6 e2 e3 e4 e5 e6 hlh hu hB hus bu gB h ok hk hhd hL hlen hmn hk8 CELLS0
  unfold ltV at HU ⊢
  simp only at HU ⊢
  go_enter Tryd.func7, Tryd.ntmps7
  go_upto_region 1 with fail
  rw [← HU.out, ← HB.out]
  have HC := Lib.hid (fun (W : World) (hW : Below u.drew.heap.size u.drew W) => CELLS.out W ((Below.refl _ _).drew.trans hW))
  go_wp2_with fail
  refine Facts.wp_region_tail 4 (n := 134) (by kernel_rfl) (by kernel_rfl) (by kernel_rfl) rfl [POwnE (B + 1) (l1), Facts.Pred.is (.pointer (some ⟨B, 0, none⟩)), Facts.Pred.is (.int .u8 (K : Int)), PRowE ([b8 K])] ?_ ?_
  · refine ⟨?_, ?_, ?_, ?_, trivial⟩
    · refine Facts.step_call fun a W hR hold hnew => ?_
      refine ⟨Facts.wanted_free rfl, 12, #[.slice none 0 0, .int .u64 1], by simp [go_sem, Act.eval], ?_⟩
      refine (L1.out W).mono ?_
      rintro e w8 ⟨A8, c8, rfl, own8, hb8⟩
      exact ⟨_, rfl, hb8, A8, c8, rfl, Own.lower own8 (by have h1 := hR.size; have h2 := HUS.out; simp at h1; omega)⟩
    · refine Facts.step_is (.pointer (some ⟨B, 0, none⟩)) fun a W hR hold hnew => ?_
      have f1 : a.tmps.getD 1 undef = .pointer (some ⟨B, 0, none⟩) := hold 1 (by kernel_rfl)
      refine ⟨Facts.wanted_free rfl, ?_, fun _ => rfl⟩; simp [go_sem, Act.eval, f1]
    · refine Facts.step_is (.int .u8 (K : Int)) fun a W hR hold hnew => ?_
      have f8 : a.tmps.getD 8 undef = .pointer (some ⟨B, 0, none⟩) := hnew 1 8 (by kernel_rfl)
      have q := (HC.out W hR).1
      refine ⟨Facts.wanted_free rfl, ?_, fun _ => rfl⟩; simp [go_sem, Act.eval, f8, q]
    · refine Facts.step_new fun a W hR hold hnew => ?_
      have f9 : a.tmps.getD 9 undef = .int .u8 (K : Int) := hnew 2 9 (by kernel_rfl)
      rw [Array.getD_eq_getD_getElem?] at f9
      exact ⟨Facts.wanted_free rfl, .slice (some ⟨W.heap.size, 0, none⟩) 1 1, W.alloc (.cells #[.int .u8 (K : Int)] 5), by simp [go_sem, Act.eval, f9], (Below.refl _ _).alloc (Nat.le_refl _) _, _, _, rfl, Sees.fresh W _ _ _ HK8.out.symm⟩
  · intro a w1 hR' hsize hdef hnew hold
    have h7 : ∃ A' c', a.tmps.getD 7 undef = .slice A' (l1).length c' ∧ w1.ownsRow (B + 1) 5 1 (.slice A' (l1).length c') (l1).length (cs (l1)) := hnew 0 7 (by omega) (by kernel_rfl)
    obtain ⟨A7, c7, f7, s7⟩ := h7
    have h10 : ∃ A' c', a.tmps.getD 10 undef = .slice A' ([b8 K]).length c' ∧ Sees w1 A' ([b8 K]).length ([b8 K]) := hnew 3 10 (by omega) (by kernel_rfl)
    obtain ⟨A10, c10, f10, s10⟩ := h10
    have f1 : a.tmps.getD 1 undef = Value.pointer (some ⟨B, 0, none⟩) := hold 1 (fun i _ => Facts.not_dst (by kernel_rfl) i)
    have f2 : a.tmps.getD 2 undef = Value.slice none 0 0 := hold 2 (fun i _ => Facts.not_dst (by kernel_rfl) i)
    obtain ⟨tm, df⟩ := a
    simp only [] at hdef hsize f1 f2 f7 f10
    obtain ⟨xq, hxq, hlit⟩ := Facts.lits tm hsize Facts.idx134 Facts.idx134_eq
    rw [hxq] at f1 f2 f7 f10
    simp only [Facts.idx134, List.map_cons, List.map_nil, f1, f2, f7, f10] at hlit
    clear f1 f2 f7 f10 hsize hnew hold hxq
    subst hlit
    subst hdef
    try simp only []
    simp only [List.drop_succ_cons, List.drop_zero]
    have B1 := Lib.hid (((Below.refl _ _).drew.trans hR').mono (Nat.le_refl _) : Below u.heap.size u w1)
    have OW1 := Lib.hid s7
    have SE1 := Lib.hid s10
    clear hR' s7 s10
    go_wp2_with (first | (at_builtin; refine wpList_app rfl _ _ 27 rfl (B + 1) 5 i (.int .u8 0) Tryd.underlying27 hi hz hsz hby rfl A7 l1.length c7 l1 rfl OW1.out A10 1 c10 [b8 K] rfl ?s1 ?d1 ?d2 ?_))
    case s1 => exact SE1.out
    case d1 => have := HLE.out.2; simp; omega
    case d2 => have h1 := B1.out.size; have h2 := HUS.out; omega
    intro A6 c6 w6 own6 hb6
    rw [← HL2.out] at own6
    obtain ⟨N6, hN6⟩ : ∃ N6, N6 = l1.length + 1 := ⟨_, rfl⟩
    rw [← hN6] at own6 ⊢
    obtain rfl : N6 = l2.length := by rw [hN6, HE2.out]
    have S6 := Lib.hid (Sees.of_own own6)
    have B6 := Lib.hid (B1.out.trans (hb6.mono (by have h2 := HUS.out; omega)))
    clear own6 hb6 hN6 HC
    have c3 := (CELLS.out w6 B6.out).2.2.2.1
    go_upto_if 13 with fail
    go_cut [4] from 7 (fun s4 wx => s4 = .int .u64 (mn : Int) ∧ Hid (Sees wx A6 l2.length l2 ∧ Below u.heap.size u wx))
    case first =>
      cases mine <;> (go_wp2_with fail; go_meet; exact ⟨by rw [HMN.out]; rfl, Lib.hid (by first | exact ⟨S6.out, B6.out⟩ | exact ⟨S6.out.drew, B6.out.drew⟩)⟩)
    case rest =>
      obtain ⟨rfl, HX⟩ := hcut
      have HC := Lib.hid (fun (W : World) (hW : Below wc.drew.heap.size wc.drew W) => (⟨CELLS.out W (HX.out.2.trans (((Below.refl _ _).drew.trans hW).mono HX.out.2.size)), HX.out.1.below ((Below.refl _ _).drew.trans hW)⟩ : _ ∧ Sees W A6 l2.length l2))
      clear c3 S6 B6 B1 OW1 SE1
      go_wp2_with fail
      refine Facts.wp_region_preds (n := 134) (by kernel_rfl) (by kernel_rfl) rfl [Facts.Pred.is (.slice A6 l2.length c6), Facts.Pred.is (.pointer (some ⟨B, 1, none⟩)), Facts.Pred.is (.int .i64 (src : Int)), Facts.Pred.is (.int .u64 (src : Int)), PRowE (l3), Facts.Pred.is (.pointer (some ⟨B, 2, none⟩)), Facts.Pred.is (.int .i64 (dst : Int)), Facts.Pred.is (.int .u64 (dst : Int)), PRowE (l4), Facts.Pred.is (.int .u64 (mn : Int)), PRowE (l5), Facts.Pred.is (.pointer (some ⟨B, 4, none⟩)), Facts.Pred.is (.int .u64 (ser : Int)), PRowE (hd), PRowE (hd)] ?_ ?_
      · refine ⟨?_, ?_, ?_, ?_, ?_, ?_, ?_, ?_, ?_, ?_, ?_, ?_, ?_, ?_, ?_, trivial⟩
        · refine Facts.step_is (.slice A6 l2.length c6) fun a W hR hold hnew => ?_
          have f3 : a.tmps.getD 3 undef = .slice A6 l2.length c6 := hold 3 (by kernel_rfl)
          refine ⟨Facts.wanted_free rfl, ?_, fun _ => rfl⟩; simp [go_sem, Act.eval, f3]
        · refine Facts.step_is (.pointer (some ⟨B, 1, none⟩)) fun a W hR hold hnew => ?_
          have f1 : a.tmps.getD 1 undef = .pointer (some ⟨B, 0, none⟩) := hold 1 (by kernel_rfl)
          refine ⟨Facts.wanted_free rfl, ?_, fun _ => rfl⟩; simp [go_sem, Act.eval, f1]
        · refine Facts.step_is (.int .i64 (src : Int)) fun a W hR hold hnew => ?_
          have f15 : a.tmps.getD 15 undef = .pointer (some ⟨B, 1, none⟩) := hnew 1 15 (by kernel_rfl)
          have q := (HC.out W hR).1.2.1
          refine ⟨Facts.wanted_free rfl, ?_, fun _ => rfl⟩; simp [go_sem, Act.eval, f15, q]
        · refine Facts.step_is (.int .u64 (src : Int)) fun a W hR hold hnew => ?_
          have f16 : a.tmps.getD 16 undef = .int .i64 (src : Int) := hnew 2 16 (by kernel_rfl)
          refine ⟨Facts.wanted_free rfl, ?_, fun _ => rfl⟩; simp [go_sem, Act.eval, f16, hws]
        · refine Facts.step_call fun a W hR hold hnew => ?_
          have f14 : a.tmps.getD 14 undef = .slice A6 l2.length c6 := hnew 0 14 (by kernel_rfl)
          have f17 : a.tmps.getD 17 undef = .int .u64 (src : Int) := hnew 3 17 (by kernel_rfl)
          have q := (HC.out W hR).2
          refine ⟨Facts.wanted_free rfl, 12, #[.slice A6 l2.length c6, .int .u64 (src : Int)], by simp [go_sem, Act.eval, f14, f17], ?_⟩
          refine (L2.out W A6 c6 q).mono ?_
          rintro e w8 h8
          obtain ⟨A8, c8, rfl, own8, hb8⟩ := h8
          exact ⟨_, rfl, hb8, A8, c8, rfl, Sees.of_own own8⟩
        · refine Facts.step_is (.pointer (some ⟨B, 2, none⟩)) fun a W hR hold hnew => ?_
          have f1 : a.tmps.getD 1 undef = .pointer (some ⟨B, 0, none⟩) := hold 1 (by kernel_rfl)
          refine ⟨Facts.wanted_free rfl, ?_, fun _ => rfl⟩; simp [go_sem, Act.eval, f1]
        · refine Facts.step_is (.int .i64 (dst : Int)) fun a W hR hold hnew => ?_
          have f19 : a.tmps.getD 19 undef = .pointer (some ⟨B, 2, none⟩) := hnew 5 19 (by kernel_rfl)
          have q := (HC.out W hR).1.2.2.1
          refine ⟨Facts.wanted_free rfl, ?_, fun _ => rfl⟩; simp [go_sem, Act.eval, f19, q]
        · refine Facts.step_is (.int .u64 (dst : Int)) fun a W hR hold hnew => ?_
          have f20 : a.tmps.getD 20 undef = .int .i64 (dst : Int) := hnew 6 20 (by kernel_rfl)
          refine ⟨Facts.wanted_free rfl, ?_, fun _ => rfl⟩; simp [go_sem, Act.eval, f20, hwd]
        · refine Facts.step_call fun a W hR hold hnew => ?_
          have h18 : ∃ A' c', a.tmps.getD 18 undef = .slice A' (l3).length c' ∧ Sees W A' (l3).length (l3) := hnew 4 18 (by kernel_rfl)
          obtain ⟨A18, c18, f18, s18⟩ := h18
          have f21 : a.tmps.getD 21 undef = .int .u64 (dst : Int) := hnew 7 21 (by kernel_rfl)
          refine ⟨Facts.wanted_free rfl, 12, #[.slice A18 l3.length c18, .int .u64 (dst : Int)], by simp [go_sem, Act.eval, f18, f21], ?_⟩
          refine (L3.out W A18 c18 s18).mono ?_
          rintro e w8 h8
          obtain ⟨A8, c8, rfl, own8, hb8⟩ := h8
          exact ⟨_, rfl, hb8, A8, c8, rfl, Sees.of_own own8⟩
        · refine Facts.step_is (.int .u64 (mn : Int)) fun a W hR hold hnew => ?_
          have f4 : a.tmps.getD 4 undef = .int .u64 (mn : Int) := hold 4 (by kernel_rfl)
          refine ⟨Facts.wanted_free rfl, ?_, fun _ => rfl⟩; simp [go_sem, Act.eval, f4]
        · refine Facts.step_call fun a W hR hold hnew => ?_
          have h22 : ∃ A' c', a.tmps.getD 22 undef = .slice A' (l4).length c' ∧ Sees W A' (l4).length (l4) := hnew 8 22 (by kernel_rfl)
          obtain ⟨A22, c22, f22, s22⟩ := h22
          have f23 : a.tmps.getD 23 undef = .int .u64 (mn : Int) := hnew 9 23 (by kernel_rfl)
          refine ⟨Facts.wanted_free rfl, 12, #[.slice A22 l4.length c22, .int .u64 (mn : Int)], by simp [go_sem, Act.eval, f22, f23], ?_⟩
          refine (L4.out W A22 c22 s22).mono ?_
          rintro e w8 h8
          obtain ⟨A8, c8, rfl, own8, hb8⟩ := h8
          exact ⟨_, rfl, hb8, A8, c8, rfl, Sees.of_own own8⟩
        · refine Facts.step_is (.pointer (some ⟨B, 4, none⟩)) fun a W hR hold hnew => ?_
          have f1 : a.tmps.getD 1 undef = .pointer (some ⟨B, 0, none⟩) := hold 1 (by kernel_rfl)
          refine ⟨Facts.wanted_free rfl, ?_, fun _ => rfl⟩; simp [go_sem, Act.eval, f1]
        · refine Facts.step_is (.int .u64 (ser : Int)) fun a W hR hold hnew => ?_
          have f25 : a.tmps.getD 25 undef = .pointer (some ⟨B, 4, none⟩) := hnew 11 25 (by kernel_rfl)
          have q := (HC.out W hR).1.2.2.2.2.1
          refine ⟨Facts.wanted_free rfl, ?_, fun _ => rfl⟩; simp [go_sem, Act.eval, f25, q]
        · refine Facts.step_call fun a W hR hold hnew => ?_
          have h24 : ∃ A' c', a.tmps.getD 24 undef = .slice A' (l5).length c' ∧ Sees W A' (l5).length (l5) := hnew 10 24 (by kernel_rfl)
          obtain ⟨A24, c24, f24, s24⟩ := h24
          have f26 : a.tmps.getD 26 undef = .int .u64 (ser : Int) := hnew 12 26 (by kernel_rfl)
          refine ⟨Facts.wanted_free rfl, 12, #[.slice A24 l5.length c24, .int .u64 (ser : Int)], by simp [go_sem, Act.eval, f24, f26], ?_⟩
          refine (L5.out W A24 c24 s24).mono ?_
          rintro e w8 h8
          obtain ⟨A8, c8, rfl, own8, hb8⟩ := h8
          exact ⟨_, rfl, hb8, A8, c8, rfl, Sees.of_own own8⟩
        · refine Facts.step_some fun a W hR hold hnew => ?_
          have h27 : ∃ A' c', a.tmps.getD 27 undef = .slice A' (hd).length c' ∧ Sees W A' (hd).length (hd) := hnew 13 27 (by kernel_rfl)
          obtain ⟨A27, c27, f27, s27⟩ := h27
          exact ⟨Facts.wanted_free rfl, .slice A27 hd.length c27, by simp [go_sem, Act.eval, f27], A27, c27, rfl, s27⟩
      · intro a w9 hR' hsize hdef hnew hold
        have h3 : ∃ A' c', a.tmps.getD 3 undef = .slice A' (hd).length c' ∧ Sees w9 A' (hd).length (hd) := hnew 14 3 (by kernel_rfl)
        obtain ⟨A3, c3, f3, s3⟩ := h3
        have f1 : a.tmps.getD 1 undef = Value.pointer (some ⟨B, 0, none⟩) := hold 1 (Facts.not_dst (by kernel_rfl))
        have f2 : a.tmps.getD 2 undef = Value.slice none 0 0 := hold 2 (Facts.not_dst (by kernel_rfl))
        obtain ⟨tm, df⟩ := a
        simp only [] at hdef hsize f1 f2 f3
        obtain ⟨xq, hxq, hlit⟩ := Facts.lits tm hsize Facts.idx134 Facts.idx134_eq
        rw [hxq] at f1 f2 f3
        simp only [Facts.idx134, List.map_cons, List.map_nil, f1, f2, f3] at hlit
        clear f1 f2 f3 hsize hnew hold hxq
        subst hlit
        subst hdef
        try simp only []
        have B9 := Lib.hid (HX.out.2.trans (((Below.refl _ _).drew.trans hR').mono HX.out.2.size))
        have S9 := Lib.hid s3
        clear hR' s3 HC HX L1 L2 L3 L4 L5 hws hwd
        obtain ⟨k0, k1, k2, k3, k4, k5, k6, k7, k8, k9, k10, k11, k12, k13⟩ := CELLS.out w9 B9.out
        have AT9 := Lib.hid (HAT.out w9 B9.out)
        obtain rfl : K = 7 := HK.out
        have hwy : IntKind.u64.wrap (wy : Int) = (wy : Int) := wrap_in wy (by omega)
        have hR : L = hd ++ enc wy := by rw [HLL.out.1, HHD.out]; rfl
        have LL := Lib.hid (by have := rlay A3 c3 hd wy w9 S9.out (by have := HLE.out; omega) (by omega); rw [← hR] at this; exact this : Calls Tryd.prog 12 #[.slice A3 hd.length c3, .int .u64 (wy : Int)] w9 (GivesR w9 L))
        clear hR
        go_wp2_with fail
        refine LL.out.mono ?_
        rintro e w10 ⟨A10, c10, rfl, own10, hb10⟩
        have SW := Lib.hid (Sees.of_own own10)
        have BX := Lib.hid (BU.out.trans ((B9.out.trans (hb10.mono B9.out.size)).mono BU.out.size))
        clear own10 hb10 LL
        go_wp2_with fail
        refine (rwrap _ _ L _ SW.out (by have := HLL.out.2; omega)).mono ?_
        intro e w8 hg
        obtain ⟨A8, c8, rfl, own8, hb8⟩ := hg
        have FIN := Lib.hid (And.intro own8 hb8)
        clear own8 hb8
        go_wp2
        go_ret
        exact ⟨A8, c8, rfl, Own.lower FIN.out.1 (BX.out.size), BX.out.trans (FIN.out.2.mono BX.out.size)⟩
end Go.Proofs.YthdflbpmabcjlaaDoor.Lt
