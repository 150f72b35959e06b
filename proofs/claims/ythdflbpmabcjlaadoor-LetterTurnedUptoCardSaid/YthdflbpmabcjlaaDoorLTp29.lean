/- Layer 16: package letter's Decode. -/
import Derived.Deep.Cut
import Derived.Test.YthdflbpmabcjlaaDoorLTp28
namespace Go.Proofs.YthdflbpmabcjlaaDoor.Lt
open Go Go.RowKit Go.Proofs.YthdflbpmabcjlaaDoor.Words Go.Proofs.YthdflbpmabcjlaaDoor.Enc Go.Proofs.YthdflbpmabcjlaaDoor.Evt Go.Proofs.YthdflbpmabcjlaaDoor.Made Go.Proofs.YthdflbpmabcjlaaDoor.Tape Go.Proofs.YthdflbpmabcjlaaDoor.Seg Go.Proofs.YthdflbpmabcjlaaDoor.Chk
set_option linter.unusedVariables false
set_option linter.unusedSimpArgs false

/-- What Decode tells. -/
def endL (g : Tk Lt) : Nat ⊕ Lt :=
  match g with
  | .bad E => .inl E
  | .no => .inl 4
  | .ok x r => if r ≠ [] then .inl 4 else .inr x
def decL (l : List UInt8) : Nat ⊕ Lt :=
  if (openL l 4194304).2.2 ≠ 0 then .inl (openL l 4194304).2.2
  else if (openL l 4194304).2.1 < l.length then .inl 4
  else endL (takeT (openL l 4194304).1)
def DcdGives (g : Nat ⊕ Lt) (w : World) (e : Ending) (w' : World) : Prop :=
  match g with
  | .inl E => e = .returned (.tuple #[.agg #[.int .u8 0, .int .i64 0, .int .i64 0, .bool false, .int .u64 0, .slice none 0 0, .slice none 0 0, .slice none 0 0, .int .u64 0, .int .u64 0, .int .u32 0, .int .u64 0, .slice none 0 0, .int .i64 0], .int .i64 (E : Int)]) ∧ Below w.heap.size w w'
  | .inr x => ∃ v S, e = .returned (.tuple #[.agg (ltV x v), .int .i64 0]) ∧ LtAt w' x v S ∧ Below w.heap.size w w'
theorem dcd_bad {g : Nat ⊕ Lt} {E : Nat} {w w' : World} {v : Value} (h : g = .inl E) (hv : v = .tuple #[.agg #[.int .u8 0, .int .i64 0, .int .i64 0, .bool false, .int .u64 0, .slice none 0 0, .slice none 0 0, .slice none 0 0, .int .u64 0, .int .u64 0, .int .u32 0, .int .u64 0, .slice none 0 0, .int .i64 0], .int .i64 (E : Int)]) (hb : Below w.heap.size w w') : DcdGives g w (.returned v) w' := by
  subst h
  subst hv
  exact ⟨rfl, hb⟩
theorem dcd_ok {g : Nat ⊕ Lt} {x : Lt} {a : Adr} {S : List EvS} {w w' : World} {v : Value} (h : g = .inr x) (hv : v = .tuple #[.agg (ltV x a), .int .i64 0]) (hs : LtAt w' x a S) (hb : Below w.heap.size w w') : DcdGives g w (.returned v) w' := by
  subst h
  subst hv
  exact ⟨a, S, rfl, hs, hb⟩
/-- Decode's results' boxes. -/
structure Rt (w W : World) (E : Int) : Prop where
  z : W.heap[w.heap.size]? = some (.cells #[.int .u8 0, .int .i64 0, .int .i64 0, .bool false, .int .u64 0, .slice none 0 0, .slice none 0 0, .slice none 0 0, .int .u64 0, .int .u64 0, .int .u32 0, .int .u64 0, .slice none 0 0, .int .i64 0] 37 (0, 0))
  e : W.heap[w.heap.size + 1]? = some (.cells #[.int .i64 E] 35 (0, 0))
  b : Below w.heap.size w W
theorem Rt.lt {w W : World} {E : Int} (h : Rt w W E) : w.heap.size + 1 < W.heap.size := (Array.getElem?_eq_some_iff.1 h.e).1
theorem Rt.beside {w W W' : World} {E : Int} (h : Rt w W E) {t : Nat} (ht : w.heap.size + 1 < t) (hb : Beside [t] W W') : Rt w W' E :=
  ⟨(hb.block w.heap.size (by have := h.lt; omega) (by simp; omega)).trans h.z, (hb.block (w.heap.size + 1) h.lt (by simp; omega)).trans h.e, Below.beside h.b hb h.b.size (by simp; omega)⟩
theorem Rt.below {w W W' : World} {E : Int} (h : Rt w W E) (hb : Below W.heap.size W W') : Rt w W' E :=
  ⟨(hb.block w.heap.size (by have := h.lt; omega)).trans h.z, (hb.block (w.heap.size + 1) h.lt).trans h.e, h.b.trans (hb.mono h.b.size)⟩
theorem Rt.set {w W : World} {E : Int} (h : Rt w W E) (F : Int) : Rt w (W.setCell ⟨w.heap.size + 1, 0, none⟩ (.int .i64 F)) F :=
  ⟨(heapOther (by omega)).trans h.z, (heapSame h.e).trans rfl, h.b.setCell (by simp) _⟩
theorem leaves_same {P : Program} {fn : Func} {R : Ending → World → Prop} {t t' : Array Value} (h : results fn t = results fn t') : ∀ (ds : List Deferred) (u : FrameMode) (w : World), Leaves P fn t R ds u w → Leaves P fn t' R ds u w
  | [], .returning, w, hh => by unfold Leaves at hh ⊢; rw [← h]; exact hh
  | [], .panicking _, _, hh => hh
  | [], .run, _, hh => hh
  | d :: ds, u, w, hh => by
    unfold Leaves at hh ⊢
    obtain ⟨h1, fv, cap, f, args, h2, h3, h4⟩ := hh
    refine ⟨h1, fv, cap, f, args, h2, h3, h4.mono fun e u' w' he => ?_⟩
    cases e
    · exact leaves_same h ds _ _ he
    · exact leaves_same h ds _ _ he
    · exact he
/-- A temporary that is no result's box: a panic's way out does not look at it. -/
theorem panic_put (d : Nat) (h2 : d ≠ 2) (h3 : d ≠ 3) {R : Ending → World → Prop} {c : List PanicEntry} {a : Act} {v : Value} {w : World} (h : bodyPostD Tryd.prog Tryd.f9 R (.panic c) (a.put (some d) v) w) : bodyPostD Tryd.prog Tryd.f9 R (.panic c) a w := by
  have e : results Tryd.f9 (a.put (some d) v).tmps = results Tryd.f9 a.tmps := by
    simp [results, Tryd.results9, Act.put, Array.getElem?_setIfInBounds_ne h2, Array.getElem?_setIfInBounds_ne h3]
  have hd : (a.put (some d) v).defers = a.defers := rfl
  have h' : Leaves Tryd.prog Tryd.f9 (a.put (some d) v).tmps R (a.put (some d) v).defers (.panicking c) w := h
  rw [hd] at h'
  exact leaves_same e _ _ _ h'
/-- A whole row is written, in a region that draws its order. -/
theorem oper_putRow {P : Program} {w : World} {op : Oper} {a : Act} {K : Act → World → Prop} {Q : Exit → Act → World → Prop} (ty : TypeId) (x y : Operand) (ho : op.op = .store ty x y) (b : Nat) (e : TypeId) (cur vs : Array Value)
    (hx : a.eval x = .pointer (some ⟨b, 0, none⟩)) (hy : a.eval y = .agg vs) (hb : w.heap[b]? = some (.cells cur e (0, 0))) (hi : (P.info? ty).map (·.size) = some vs.size) (hs : cur.size = vs.size) (h1 : vs.all (·.oneCell') = true)
    (h : ∀ w', w'.heap[b]? = some (.cells vs e (0, 0)) → Beside [b] w w' → K (a.put op.dst undef) w') : op.wp P a w K Q := by
  unfold Oper.wp execOp
  simp only [ho, hx, hy, Instr.storeAt, Instr.sureAddr, Sem.run_bind, Sem.run_pure, Result.andThen_ok, run_storeVar_row w b e ty cur vs hb hi hs h1]
  exact h _ (heap_setRow hb) (setRow_beside w b vs)
theorem build_zero (W : World) : (Instr.build 37 #[]).run Tryd.prog W = .ok (.agg #[.int .u8 0, .int .i64 0, .int .i64 0, .bool false, .int .u64 0, .slice none 0 0, .slice none 0 0, .slice none 0 0, .int .u64 0, .int .u64 0, .int .u32 0, .int .u64 0, .slice none 0 0, .int .i64 0]) W := by kernel_rfl
set_option maxRecDepth 100000 in
set_option maxHeartbeats 4000000 in
theorem decode_any (A : Option Addr) (n c : Nat) (l : List UInt8) (w : World) (TB : Tabs w) (hs : Sees w A n l) (hc : n ≤ c) (hcm : c ≤ 9223372036854775807) (hn : n ≤ 900000000) (hsm : (openL l 4194304).2.2 = 0 → ¬ (openL l 4194304).2.1 < l.length → (openL l 4194304).1.length ≤ 100000) :
    Calls Tryd.prog 9 #[.slice A n c] w (DcdGives (decL l) w) := by
  have hln := hs.1
  obtain ⟨G, hG⟩ : ∃ G, G = decL l := ⟨_, rfl⟩
  rw [← hG]
  unfold decL at hG
  have hb0 : Below w.heap.size w ((w.alloc (.cells #[.int .u8 0, .int .i64 0, .int .i64 0, .bool false, .int .u64 0, .slice none 0 0, .slice none 0 0, .slice none 0 0, .int .u64 0, .int .u64 0, .int .u32 0, .int .u64 0, .slice none 0 0, .int .i64 0] 37)).alloc (.cells #[.int .i64 0] 35)) := ((Below.refl _ _).alloc (Nat.le_refl _) _).alloc (by simp) _
  have rt0 : Rt w ((w.alloc (.cells #[.int .u8 0, .int .i64 0, .int .i64 0, .bool false, .int .u64 0, .slice none 0 0, .slice none 0 0, .slice none 0 0, .int .u64 0, .int .u64 0, .int .u32 0, .int .u64 0, .slice none 0 0, .int .i64 0] 37)).alloc (.cells #[.int .i64 0] 35)) 0 := ⟨by
    rw [Below.heap_alloc _ _ _ (by simp)]
    exact heap_alloc_new w _, by
    have := heap_alloc_new (w.alloc (.cells #[.int .u8 0, .int .i64 0, .int .i64 0, .bool false, .int .u64 0, .slice none 0 0, .slice none 0 0, .slice none 0 0, .int .u64 0, .int .u64 0, .int .u32 0, .int .u64 0, .slice none 0 0, .int .i64 0] 37)) (.cells #[.int .i64 0] 35)
    simpa using this, hb0⟩
  have hs0 := hs.below hb0
  have TB0 := TB.below hb0
  have HG0 := Lib.hid hG
  clear hG
  go_enter_defers Tryd.func9, Tryd.ntmps9
  go_wp2_with fail
  have hG := HG0.out
  clear HG0
  generalize hW0 : (w.alloc (.cells #[.int .u8 0, .int .i64 0, .int .i64 0, .bool false, .int .u64 0, .slice none 0 0, .slice none 0 0, .slice none 0 0, .int .u64 0, .int .u64 0, .int .u32 0, .int .u64 0, .slice none 0 0, .int .i64 0] 37)).alloc (.cells #[.int .i64 0] 35) = W0 at rt0 hs0 TB0 hb0 ⊢
  clear hW0 hs TB
  have OP := openR_any A n c l 4194304 W0 TB0 hs0 hc hcm hn (by omega) (by omega)
  generalize openL l 4194304 = r at hG hsm OP
  obtain ⟨q, used, E⟩ := r
  simp only [] at hG hsm OP
  have RT0 := Lib.hid rt0
  have SE0 := Lib.hid hs0
  have HLN := Lib.hid hln
  have HSM := Lib.hid hsm
  clear rt0 hs0 TB0 hb0 hln hsm
  refine OP.mono ?_
  clear OP
  rintro e w1 ⟨A1, n1, c1, A2, n2, c2, rfl, own1, hrest, hn2, hc2, hb1⟩
  simp only [] at own1 hrest
  have RT1 := Lib.hid (RT0.out.below hb1)
  have SE2 := Lib.hid (hrest w1 (SE0.out.below hb1))
  have y1 := frozen_row0 (i := 0) RT1.out.e
  have e1 : w1.cell? ⟨w.heap.size + 1, 0, none⟩ = some (.int .i64 0) := by rw [cell_of_row w1 (w.heap.size + 1) _ _ _ _ RT1.out.e]; rfl
  have HG := Lib.hid hG
  clear hG hrest
  have RT2 := Lib.hid (RT1.out.set (E : Int))
  have HB2 : Hid (∀ B, W0.heap.size ≤ B → Beside [w.heap.size + 1] w1 (w1.setCell ⟨w.heap.size + 1, 0, none⟩ (.int .i64 (E : Int)))) := Lib.hid fun _ _ => (Beside.refl _ _).setCell (by simp) _
  have OW2 : Hid (OwnC (w1.setCell ⟨w.heap.size + 1, 0, none⟩ (.int .i64 (E : Int))) W0.heap.size 5 A1 n1 c1 (cs q)) := Lib.hid (OwnC.beside own1 (HB2.out _ (Nat.le_refl _)) (by have := RT0.out.lt; simp; omega))
  have hrl : n2 = l.length - used := by have := SE2.out.1; rw [List.length_drop] at this; exact this.symm
  have HRL := Lib.hid hrl
  clear own1 hb1 hrl HB2
  go_upto_region 3 with fail
  generalize w1.setCell ⟨w.heap.size + 1, 0, none⟩ (.int .i64 (E : Int)) = w2 at RT2 OW2 ⊢
  clear y1 e1 RT1 SE2
  have e1 : w2.cell? ⟨w.heap.size + 1, 0, none⟩ = some (.int .i64 (E : Int)) := by rw [cell_of_row w2 (w.heap.size + 1) _ _ _ _ RT2.out.e]; rfl
  by_cases hE : E ≠ 0
  · have hd : ((E : Int) != 0) = true := by rw [bne_iff_ne]; omega
    have GD : Hid (G = .inl E) := Lib.hid (by rw [HG.out, if_pos hE])
    have HE := Lib.hid (fun (W : World) (hW : Below w2.drew.heap.size w2.drew W) => (by rw [cell_of_row W (w.heap.size + 1) _ _ _ _ ((RT2.out.below ((Below.refl _ _).drew.trans hW)).e)]; rfl : W.cell? ⟨w.heap.size + 1, 0, none⟩ = some (.int .i64 (E : Int))))
    clear HG HSM OW2
    go_wp2_with fail
    refine wp_region_any (by kernel_rfl) ?_
    refine wpAny_take (i := 0) (v := .agg #[.int .u8 0, .int .i64 0, .int .i64 0, .bool false, .int .u64 0, .slice none 0 0, .slice none 0 0, .slice none 0 0, .int .u64 0, .int .u64 0, .int .u32 0, .int .u64 0, .slice none 0 0, .int .i64 0]) rfl (by kernel_rfl) (by kernel_rfl) (by kernel_rfl) (fun c a w h => by exact panic_put (R := DcdGives G _) 18 (by decide) (by decide) h) (Or.inl ⟨by rfl, ?y0⟩) ?r0
    case y0 => intro W; first | (simp [go_sem, build_zero]) | (go_simp; rfl)
    refine wpAny_ready (rs := [1, 2]) (by kernel_rfl) (by simp) ?_
    refine AllReady.cons rfl (fun K hK => ?wayL) (AllReady.cons rfl (fun K hK => ?wayS) AllReady.nil)
    case wayL =>
      go_simp
      refine hK _ _ ?_
      clear hK K
      refine wpAny_ready (rs := [2]) (by kernel_rfl) (by simp) ?_
      refine AllReady.cons rfl (fun K hK => ?_) AllReady.nil
      rw [if_pos (show Region.wanted _ _ = true from rfl)]
      refine oper_putRow 37 (.tmp 2) (.tmp 18) rfl w.heap.size 37 #[.int .u8 0, .int .i64 0, .int .i64 0, .bool false, .int .u64 0, .slice none 0 0, .slice none 0 0, .slice none 0 0, .int .u64 0, .int .u64 0, .int .u32 0, .int .u64 0, .slice none 0 0, .int .i64 0] #[.int .u8 0, .int .i64 0, .int .i64 0, .bool false, .int .u64 0, .slice none 0 0, .slice none 0 0, .slice none 0 0, .int .u64 0, .int .u64 0, .int .u32 0, .int .u64 0, .slice none 0 0, .int .i64 0] rfl rfl ?g1 (by kernel_rfl) rfl (by simp [Value.oneCell']) ?_
      case g1 => exact RT2.out.z
      intro W' hW' hbe
      refine hK _ _ ?_
      clear hK K
      refine wpAny_ready (rs := [3]) (by kernel_rfl) (by simp) ?_
      refine AllReady.cons rfl (fun K hK => ?_) AllReady.nil
      have j1 := (hbe.block (w.heap.size + 1) RT2.out.lt (by simp)).trans RT2.out.e
      have BEL := Lib.hid ((Below.beside RT2.out.b.drew hbe RT2.out.b.size (by simp)).setCell (p := ⟨w.heap.size + 1, 0, none⟩) (by simp))
      have e0 : W'.cell? ⟨w.heap.size + 1, 0, none⟩ = some (.int .i64 (E : Int)) := by rw [cell_of_row W' (w.heap.size + 1) _ _ _ _ j1]; rfl
      have y1 := frozen_row0 (i := 0) j1
      clear hbe j1
      go_simp
      refine hK _ _ ?_
      clear hK K
      refine wpAny_done (by kernel_rfl) ?_ _
      obtain ⟨c0, c1, c2, c3, c4, c5, c6, c7, c8, c9, c10, c11, c12, c13⟩ := box14 hW'
      go_wp2
      refine leaves_cons (f := 19) (args := #[.pointer (some ⟨w.heap.size + 1, 0, none⟩)]) (by simp) (by simp [go_sem]) ?_
      refine (caught_idle _ _).mono ?_
      rintro e u' w'' ⟨rfl, rfl, rfl⟩
      simp [Leaves, settle, results, Tryd.results9, go_sem, c0, c1, c2, c3, c4, c5, c6, c7, c8, c9, c10, c11, c12, c13, e0]
      exact dcd_bad GD.out rfl (BEL.out _)
    case wayS =>
      rw [if_pos (show Region.wanted _ _ = true from rfl)]
      refine oper_putRow 37 (.tmp 2) (.tmp 18) rfl w.heap.size 37 #[.int .u8 0, .int .i64 0, .int .i64 0, .bool false, .int .u64 0, .slice none 0 0, .slice none 0 0, .slice none 0 0, .int .u64 0, .int .u64 0, .int .u32 0, .int .u64 0, .slice none 0 0, .int .i64 0] #[.int .u8 0, .int .i64 0, .int .i64 0, .bool false, .int .u64 0, .slice none 0 0, .slice none 0 0, .slice none 0 0, .int .u64 0, .int .u64 0, .int .u32 0, .int .u64 0, .slice none 0 0, .int .i64 0] rfl rfl ?g1 (by kernel_rfl) rfl (by simp [Value.oneCell']) ?_
      case g1 => exact RT2.out.z
      intro W' hW' hbe
      refine hK _ _ ?_
      clear hK K
      refine wpAny_ready (rs := [1]) (by kernel_rfl) (by simp) ?_
      refine AllReady.cons rfl (fun K hK => ?_) AllReady.nil
      have e0 : W'.cell? ⟨w.heap.size + 1, 0, none⟩ = some (.int .i64 (E : Int)) := by rw [cell_of_row W' (w.heap.size + 1) _ _ _ _ ((hbe.block (w.heap.size + 1) RT2.out.lt (by simp)).trans RT2.out.e)]; rfl
      go_simp
      refine hK _ _ ?_
      clear hK K
      refine wpAny_ready (rs := [3]) (by kernel_rfl) (by simp) ?_
      refine AllReady.cons rfl (fun K hK => ?_) AllReady.nil
      have j1 := (hbe.block (w.heap.size + 1) RT2.out.lt (by simp)).trans RT2.out.e
      have BEL := Lib.hid ((Below.beside RT2.out.b.drew hbe RT2.out.b.size (by simp)).setCell (p := ⟨w.heap.size + 1, 0, none⟩) (by simp))
      have e0 : W'.cell? ⟨w.heap.size + 1, 0, none⟩ = some (.int .i64 (E : Int)) := by rw [cell_of_row W' (w.heap.size + 1) _ _ _ _ j1]; rfl
      have y1 := frozen_row0 (i := 0) j1
      clear hbe j1
      go_simp
      refine hK _ _ ?_
      clear hK K
      refine wpAny_done (by kernel_rfl) ?_ _
      obtain ⟨c0, c1, c2, c3, c4, c5, c6, c7, c8, c9, c10, c11, c12, c13⟩ := box14 hW'
      go_wp2
      refine leaves_cons (f := 19) (args := #[.pointer (some ⟨w.heap.size + 1, 0, none⟩)]) (by simp) (by simp [go_sem]) ?_
      refine (caught_idle _ _).mono ?_
      rintro e u' w'' ⟨rfl, rfl, rfl⟩
      simp [Leaves, settle, results, Tryd.results9, go_sem, c0, c1, c2, c3, c4, c5, c6, c7, c8, c9, c10, c11, c12, c13, e0]
      exact dcd_bad GD.out rfl (BEL.out _)
  have hE0 : E = 0 := by omega
  subst hE0
  have hd : (((0 : Nat) : Int) != 0) = false := rfl
  have HG1 := Lib.hid (show G = if used < l.length then .inl 4 else endL (takeT q) by rw [HG.out, if_neg hE])
  clear HG hE
  by_cases hu : used < l.length
  · have hn0 : (0 : Int) < (n2 : Int) := by have := HRL.out; omega
    have hn1 : 0 < n2 := by omega
    have GD : Hid (G = .inl 4) := Lib.hid (by rw [HG1.out, if_pos hu])
    clear HG1 HSM OW2 hu
    have y0 := RT2.out.z
    go_wp2_with (first
      | (refine wpList_putRow rfl 37 (.tmp 2) (.tmp 24) rfl w.heap.size 37 #[.int .u8 0, .int .i64 0, .int .i64 0, .bool false, .int .u64 0, .slice none 0 0, .slice none 0 0, .slice none 0 0, .int .u64 0, .int .u64 0, .int .u32 0, .int .u64 0, .slice none 0 0, .int .i64 0] #[.int .u8 0, .int .i64 0, .int .i64 0, .bool false, .int .u64 0, .slice none 0 0, .slice none 0 0, .slice none 0 0, .int .u64 0, .int .u64 0, .int .u32 0, .int .u64 0, .slice none 0 0, .int .i64 0] rfl rfl ?g1 (by kernel_rfl) rfl (by simp [Value.oneCell']) ?_))
    case g1 => exact y0
    intro W' hW' hbe
    have j1 := (hbe.block (w.heap.size + 1) RT2.out.lt (by simp)).trans RT2.out.e
    have BEL := Lib.hid ((Below.beside RT2.out.b hbe RT2.out.b.size (by simp)).setCell (p := ⟨w.heap.size + 1, 0, none⟩) (by simp))
    have e0 : W'.cell? ⟨w.heap.size + 1, 0, none⟩ = some (.int .i64 (0 : Int)) := by rw [cell_of_row W' (w.heap.size + 1) _ _ _ _ j1]; rfl
    have y1 := frozen_row0 (i := 0) j1
    clear y0 hbe j1
    obtain ⟨c0, c1, c2, c3, c4, c5, c6, c7, c8, c9, c10, c11, c12, c13⟩ := box14 hW'
    go_wp2
    refine leaves_cons (f := 19) (args := #[.pointer (some ⟨w.heap.size + 1, 0, none⟩)]) (by simp) (by simp [go_sem]) ?_
    refine (caught_idle _ _).mono ?_
    rintro e u' w'' ⟨rfl, rfl, rfl⟩
    simp [Leaves, settle, results, Tryd.results9, go_sem, c0, c1, c2, c3, c4, c5, c6, c7, c8, c9, c10, c11, c12, c13, e0]
    exact dcd_bad GD.out rfl (BEL.out _)
  have hn0 : ¬ (0 : Int) < (n2 : Int) := by have := HRL.out; omega
  obtain rfl : n2 = 0 := by omega
  have HQ : Hid (q.length ≤ 100000) := Lib.hid (HSM.out rfl hu)
  have HG := Lib.hid (show G = endL (takeT q) by rw [HG1.out, if_neg hu])
  have hc1 := OW2.out.cap
  have hq1 : q.length = n1 := OW2.out.sees.1
  have NT := Lib.hid (newTape_on A1 n1 c1 q w2 OW2.out.sees hc1.1 (by have := HQ.out; omega))
  clear HG1 HSM hu hc1 hq1 hn2
  go_wp2_with fail
  refine NT.out.mono ?_
  rintro e w3 ⟨rfl, ht3, hb3⟩
  have RT3 := Lib.hid (RT2.out.below hb3)
  have SE3 := Lib.hid (OW2.out.sees.below hb3)
  have hlt3 := RT2.out.lt
  obtain ⟨t, hts⟩ : ∃ t, t = w2.heap.size := ⟨_, rfl⟩
  rw [← hts] at ht3 hlt3 ⊢
  have HTS := Lib.hid (And.intro hts hb3.size)
  have TK := take_any A1 n1 q t q w3 ht3 SE3.out (by have := HQ.out; omega)
  have HOUT := Lib.hid (show Out [t] A1 n1 by obtain ⟨A', n', c', hb', -⟩ := ht3; exact sees_off hb' SE3.out)
  clear ht3 hb3 NT e1 hts
  cases gk : takeT q with
  | bad E =>
    rw [gk] at TK
    have GD : Hid (G = .inl E) := Lib.hid (by rw [HG.out, gk]; rfl)
    have NB := Lib.hid TK
    clear TK gk HG
    go_wp2_with fail
    refine NB.out.mono ?_
    rintro e wb ⟨rfl, hbb⟩
    have RT := Lib.hid (RT3.out.beside hlt3 hbb)
    clear hbb NB
    unfold fault
    go_wp2
    refine leaves_cons (f := 19) (args := #[.pointer (some ⟨w.heap.size + 1, 0, none⟩)]) (by simp) (by simp [go_sem]) ?_
    refine (caught_bad (w.heap.size + 1) E [] wb 0 35 RT.out.e).mono ?_
    rintro e u' w9 ⟨rfl, rfl, hst, hbe9⟩
    have j0 := (hbe9.block w.heap.size (by have := RT.out.lt; omega) (by simp)).trans RT.out.z
    have BEL := Lib.hid (Below.beside RT.out.b hbe9 RT.out.b.size (by simp))
    obtain ⟨c0, c1, c2, c3, c4, c5, c6, c7, c8, c9, c10, c11, c12, c13⟩ := box14 j0
    have e0 : w9.cell? ⟨w.heap.size + 1, 0, none⟩ = some (.int .i64 ((E : Nat) : Int)) := by rw [cell_of_row w9 (w.heap.size + 1) _ _ _ _ hst]; rfl
    clear hst hbe9 j0
    simp [Leaves, settle, results, Tryd.results9, go_sem, c0, c1, c2, c3, c4, c5, c6, c7, c8, c9, c10, c11, c12, c13, e0]
    exact dcd_bad GD.out rfl BEL.out
  | no =>
    rw [gk] at TK
    have GD : Hid (G = .inl 4) := Lib.hid (by rw [HG.out, gk]; rfl)
    have NB := Lib.hid TK
    clear TK gk HG
    go_wp2_with fail
    refine NB.out.mono ?_
    rintro e w4 ⟨x, v, rfl, hbb⟩
    have RT4 := Lib.hid (RT3.out.beside hlt3 hbb)
    clear hbb NB
    have hal := (Below.refl w4.heap.size w4).alloc (Nat.le_refl _) (.cells #[.int .u8 0, .int .i64 0, .int .i64 0, .bool false, .int .u64 0, .slice none 0 0, .slice none 0 0, .slice none 0 0, .int .u64 0, .int .u64 0, .int .u32 0, .int .u64 0, .slice none 0 0, .int .i64 0] 37)
    go_wp2_with (first
      | (refine wpList_putRow rfl 37 (.tmp 7) (.tmp 30) rfl w4.heap.size 37 #[.int .u8 0, .int .i64 0, .int .i64 0, .bool false, .int .u64 0, .slice none 0 0, .slice none 0 0, .slice none 0 0, .int .u64 0, .int .u64 0, .int .u32 0, .int .u64 0, .slice none 0 0, .int .i64 0] (ltV x v) rfl rfl ?g7 (by kernel_rfl) rfl (by simp [ltV, Value.oneCell']) ?_))
    case g7 => exact heap_alloc_new w4 _
    intro w5 hb5 hbe5
    have hb45 : Below w4.heap.size w4 w5 := Below.beside hal hbe5 (by simp) (by simp)
    have RT5 := Lib.hid (RT4.out.below hb45)
    clear hal hbe5 hb45 hb5
    have y0 := RT5.out.z
    go_wp2_with (first
      | (refine wpList_putRow rfl 37 (.tmp 2) (.tmp 34) rfl w.heap.size 37 #[.int .u8 0, .int .i64 0, .int .i64 0, .bool false, .int .u64 0, .slice none 0 0, .slice none 0 0, .slice none 0 0, .int .u64 0, .int .u64 0, .int .u32 0, .int .u64 0, .slice none 0 0, .int .i64 0] #[.int .u8 0, .int .i64 0, .int .i64 0, .bool false, .int .u64 0, .slice none 0 0, .slice none 0 0, .slice none 0 0, .int .u64 0, .int .u64 0, .int .u32 0, .int .u64 0, .slice none 0 0, .int .i64 0] rfl rfl ?g1 (by kernel_rfl) rfl (by simp [Value.oneCell']) ?_))
    case g1 => exact y0
    intro W' hW' hbe
    have j1 := (hbe.block (w.heap.size + 1) RT5.out.lt (by simp)).trans RT5.out.e
    have BEL := Lib.hid ((Below.beside RT5.out.b hbe RT5.out.b.size (by simp)).setCell (p := ⟨w.heap.size + 1, 0, none⟩) (by simp))
    have e0 : W'.cell? ⟨w.heap.size + 1, 0, none⟩ = some (.int .i64 (0 : Int)) := by rw [cell_of_row W' (w.heap.size + 1) _ _ _ _ j1]; rfl
    have y1 := frozen_row0 (i := 0) j1
    clear y0 hbe j1
    obtain ⟨c0, c1, c2, c3, c4, c5, c6, c7, c8, c9, c10, c11, c12, c13⟩ := box14 hW'
    go_wp2
    refine leaves_cons (f := 19) (args := #[.pointer (some ⟨w.heap.size + 1, 0, none⟩)]) (by simp) (by simp [go_sem]) ?_
    refine (caught_idle _ _).mono ?_
    rintro e u' w'' ⟨rfl, rfl, rfl⟩
    simp [Leaves, settle, results, Tryd.results9, go_sem, c0, c1, c2, c3, c4, c5, c6, c7, c8, c9, c10, c11, c12, c13, e0]
    exact dcd_bad GD.out rfl (BEL.out _)
  | ok x r =>
    rw [gk] at TK
    have NB := Lib.hid TK
    have HG1 := Lib.hid (show G = if r ≠ [] then .inl 4 else .inr x by rw [HG.out, gk]; rfl)
    clear TK gk HG
    go_wp2_with fail
    refine NB.out.mono ?_
    rintro e w4 ⟨v, S, rfl, hat, htp, hbb⟩
    have hbbK := Lib.hid hbb
    have RT4 := Lib.hid (RT3.out.beside hlt3 hbb)
    clear NB hbb
    have hal := (Below.refl w4.heap.size w4).alloc (Nat.le_refl _) (.cells #[.int .u8 0, .int .i64 0, .int .i64 0, .bool false, .int .u64 0, .slice none 0 0, .slice none 0 0, .slice none 0 0, .int .u64 0, .int .u64 0, .int .u32 0, .int .u64 0, .slice none 0 0, .int .i64 0] 37)
    go_wp2_with (first
      | (refine wpList_putRow rfl 37 (.tmp 7) (.tmp 30) rfl w4.heap.size 37 #[.int .u8 0, .int .i64 0, .int .i64 0, .bool false, .int .u64 0, .slice none 0 0, .slice none 0 0, .slice none 0 0, .int .u64 0, .int .u64 0, .int .u32 0, .int .u64 0, .slice none 0 0, .int .i64 0] (ltV x v) rfl rfl ?g7 (by kernel_rfl) rfl (by simp [ltV, Value.oneCell']) ?_))
    case g7 => exact heap_alloc_new w4 _
    intro w5 hb5 hbe5
    have hb45 : Below w4.heap.size w4 w5 := Below.beside hal hbe5 (by simp) (by simp)
    have RT5 := Lib.hid (RT4.out.below hb45)
    have AT5 := Lib.hid (hat.below hb45)
    have TP5 := htp.keep (hb45.block t htp.lt)
    have SE5 := (SE3.out.beside hbbK.out HOUT.out).below hb45
    have hxt : t < w4.heap.size := htp.lt
    have GB5 := Lib.hid hb5
    clear hal hbe5 hb45 hb5 hat htp
    by_cases hr : r ≠ []
    · have GD : Hid (G = .inl 4) := Lib.hid (by rw [HG1.out, if_pos hr])
      have NB := Lib.hid (done_bad t r w5 (TP5.at_ SE5) (by cases r with | nil => exact absurd rfl hr | cons a b => simp))
      clear hr HG1 TP5 SE5
      go_wp2_with fail
      refine NB.out.mono ?_
      rintro e wb ⟨rfl, rfl⟩
      clear NB
      unfold fault
      go_wp2
      refine leaves_cons (f := 19) (args := #[.pointer (some ⟨w.heap.size + 1, 0, none⟩)]) (by simp) (by simp [go_sem]) ?_
      refine (caught_bad (w.heap.size + 1) 4 [] w5 0 35 RT5.out.e).mono ?_
      rintro e u' w9 ⟨rfl, rfl, hst, hbe9⟩
      have j0 := (hbe9.block w.heap.size (by have := RT5.out.lt; omega) (by simp)).trans RT5.out.z
      have BEL := Lib.hid (Below.beside RT5.out.b hbe9 RT5.out.b.size (by simp))
      obtain ⟨c0, c1, c2, c3, c4, c5, c6, c7, c8, c9, c10, c11, c12, c13⟩ := box14 j0
      have e0 : w9.cell? ⟨w.heap.size + 1, 0, none⟩ = some (.int .i64 ((4 : Nat) : Int)) := by rw [cell_of_row w9 (w.heap.size + 1) _ _ _ _ hst]; rfl
      clear hst hbe9 j0
      simp [Leaves, settle, results, Tryd.results9, go_sem, c0, c1, c2, c3, c4, c5, c6, c7, c8, c9, c10, c11, c12, c13, e0]
      exact dcd_bad GD.out rfl BEL.out
    · obtain rfl : r = [] := by simpa using hr
      have GD : Hid (G = .inr x) := Lib.hid (by rw [HG1.out, if_neg hr])
      have NB := Lib.hid (done_any t w5 (TP5.at_ SE5))
      clear hr HG1 TP5 SE5
      go_wp2_with fail
      refine NB.out.mono ?_
      rintro e wb ⟨rfl, rfl⟩
      clear NB
      go_wp2_with (first
        | (refine wpList_getRow rfl 37 (.tmp 7) rfl w4.heap.size 37 (ltV x v) (0, 0) _ rfl ?g1 Tryd.underlying37 rfl (by kernel_rfl) ?_)
        | (refine wpList_putRow rfl 37 (.tmp 2) (.tmp 37) rfl w.heap.size 37 #[.int .u8 0, .int .i64 0, .int .i64 0, .bool false, .int .u64 0, .slice none 0 0, .slice none 0 0, .slice none 0 0, .int .u64 0, .int .u64 0, .int .u32 0, .int .u64 0, .slice none 0 0, .int .i64 0] (ltV x v) rfl rfl ?g2 (by kernel_rfl) rfl (by simp [ltV, Value.oneCell']) ?_))
      case g1 => exact GB5.out
      case g2 => exact RT5.out.z
      intro W' hW' hbe
      have j1 := (hbe.block (w.heap.size + 1) RT5.out.lt (by simp)).trans RT5.out.e
      have BEL := Lib.hid ((Below.beside RT5.out.b hbe RT5.out.b.size (by simp)).setCell (p := ⟨w.heap.size + 1, 0, none⟩) (by simp))
      have e0 : W'.cell? ⟨w.heap.size + 1, 0, none⟩ = some (.int .i64 0) := by rw [cell_of_row W' (w.heap.size + 1) _ _ _ _ j1]; rfl
      have y1 := frozen_row0 (i := 0) j1
      have ATF : Hid (∀ z, LtAt (W'.setCell ⟨w.heap.size + 1, 0, none⟩ z) x v S) := Lib.hid fun z => ((AT5.out.beside hbe (by have := RT2.out.lt; have := HTS.out; simp; omega)).beside ((Beside.refl [w.heap.size + 1] W').setCell (p := ⟨w.heap.size + 1, 0, none⟩) (by simp) z) (by have := RT2.out.lt; have := HTS.out; simp; omega)).at_
      clear hbe j1
      obtain ⟨c0, c1, c2, c3, c4, c5, c6, c7, c8, c9, c10, c11, c12, c13⟩ := lt_cells hW'
      go_wp2
      refine leaves_cons (f := 19) (args := #[.pointer (some ⟨w.heap.size + 1, 0, none⟩)]) (by simp) (by simp [go_sem]) ?_
      refine (caught_idle _ _).mono ?_
      rintro e u' w'' ⟨rfl, rfl, rfl⟩
      simp [Leaves, settle, results, Tryd.results9, go_sem, ltV, c0, c1, c2, c3, c4, c5, c6, c7, c8, c9, c10, c11, c12, c13, e0]
      exact dcd_ok GD.out rfl (ATF.out _) (BEL.out _)
end Go.Proofs.YthdflbpmabcjlaaDoor.Lt
