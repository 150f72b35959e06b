/- Order: Pop of the heap of lists: slices.Delete of the last. -/
import Derived.Test.YtlacihgoammjgaaOrdD
import Derived.Lib.SliceRun
namespace Go.Proofs.Ytlacihgoammjgaa.Ord
open Go Go.RowKit Go.Proofs.Ytlacihgoammjgaa.Words Go.Proofs.Ytlacihgoammjgaa.Enc Go.Proofs.Ytlacihgoammjgaa.Evt Go.Proofs.Ytlacihgoammjgaa.Seg
set_option linter.unusedVariables false
set_option linter.unusedSimpArgs false

theorem append_zero (W : World) (ty : TypeId) (a : Addr) (n c : Nat) (S : Option Addr) (k : Nat) (hnc : n ≤ c) : (Builtin.append_ #[68, 68] ty #[.slice (some a) n c, .slice S 0 k]).run Try.prog W = .ok (.slice (some a) n c) W := by
  have hi : (Try.prog.info? 26).isSome = true := by kernel_rfl
  obtain ⟨i, hi⟩ := Option.isSome_iff_exists.1 hi
  cases S with
  | none => simp [Builtin.append_, run_underlying Try.underlying68, sizeOf, typeInfo, hi, Builtin.lenOf, Builtin.firstCells, hnc, storeCells]
  | some s => simp [Builtin.append_, run_underlying Try.underlying68, sizeOf, typeInfo, hi, Builtin.lenOf, Builtin.firstCells, hnc, storeCells, loadCells, loadCellsFrom]
theorem zeroL_run (w : World) : (zeroValue 26).run Try.prog w = .ok (.slice none 0 0) w := by kernel_rfl
theorem clear_one (w : World) (ty : TypeId) (b o c : Nat) (hc : (w.cell? ⟨b, o, none⟩).isSome = true) (hf : w.frozen? ⟨b, o, none⟩ = false) :
    (Builtin.clear_ #[68] ty #[.slice (some ⟨b, o, none⟩) 1 c]).run Try.prog w = .ok (.tuple #[]) (w.setCell ⟨b, o, none⟩ (.slice none 0 0)) := by
  have hst := run_storeCells_cells (P := Try.prog) b o [Value.slice none 0 0] 0 w (by intro j hj; simp at hj; subst hj; simpa using hc) (by intro j hj; simp at hj; subst hj; simpa using hf) (by simp [Value.oneCell'])
  simp only [Nat.add_zero] at hst
  have hz := zeroL_run w
  simp [Builtin.clear_, run_underlying Try.underlying68, hz, Builtin.zeroCells, hst]
  rw [show List.map (fun i => (Value.slice none 0 0).cells[i % (Value.slice none 0 0).cells.size]!) (List.range (Value.slice none 0 0).cells.size) = [Value.slice none 0 0] from rfl, hst]
  rfl

set_option maxRecDepth 100000 in
set_option maxHeartbeats 4000000 in
theorem deleteL (g n c : Nat) (w : World) (hc : (w.cell? ⟨g, n, none⟩).isSome = true) (hf : w.frozen? ⟨g, n, none⟩ = false) (hnc : n + 1 ≤ c) (hn : n ≤ 2000000000) :
    Calls Try.prog 93 #[.slice (some ⟨g, 0, none⟩) (n + 1) c, .int .i64 (n : Int), .int .i64 ((n : Int) + 1)] w fun e w' => e = .returned (.slice (some ⟨g, 0, none⟩) n c) ∧ w' = w.drew.setCell ⟨g, n, none⟩ (.slice none 0 0) := by
  have happ := fun W ty S k => append_zero W ty ⟨g, 0, none⟩ n c S k (by omega)
  have k5 : (0 : Int) ≤ (n : Int) + 1 := by omega
  have k6 : ((n : Int) + 1).toNat = n + 1 := by omega
  have hcl := fun ty k => clear_one w.drew ty g n k hc hf
  have h1 : (((n + 1 : Nat) : Int)) = (n : Int) + 1 := by omega
  have hne : ((n : Int) == (n : Int) + 1) = false := by rw [beq_eq_false_iff_ne]; omega
  have k1 : n ≤ n + 1 := by omega
  have k2 : n ≤ c := by omega
  have k3 : ¬ c = n := by omega
  have k4 : n + 1 - n = 1 := by omega
  have hst : ∀ (W : World) (a : Addr), (storeCells a []).run Try.prog W = .ok () W := fun _ _ => rfl
  by_cases hcn : c = n + 1
  · subst hcn
    go_enter Try.func93, Try.ntmps93
    go_wp2_with fail
    go_region
    all_goals go_wp2
    all_goals go_ret
    all_goals exact ⟨rfl, rfl⟩
  · go_enter Try.func93, Try.ntmps93
    go_wp2_with fail
    go_region
    all_goals go_wp2
    all_goals go_ret
    all_goals exact ⟨rfl, rfl⟩

theorem HeadsAt.cut {B p g : Nat} {T : TypeId} {c n : Nat} {hs : List HV} {w : World} (h : HeadsAt B p T (some ⟨g, 0, none⟩) c hs w) (hn : hs.length = n + 1) :
    HeadsAt B p T (some ⟨g, 0, none⟩) c (hs.take n) ((w.drew.setCell ⟨g, n, none⟩ (.slice none 0 0)).setCell ⟨p, 0, none⟩ (.slice (some ⟨g, 0, none⟩) n c)) ∧
    Below B w ((w.drew.setCell ⟨g, n, none⟩ (.slice none 0 0)).setCell ⟨p, 0, none⟩ (.slice (some ⟨g, 0, none⟩) n c)) := by
  have hgp := h.apart _ rfl
  obtain ⟨g', hv, hbg, _⟩ := h.get (by omega)
  injection hv with e1
  injection e1 with e1
  subst e1
  have hB : Below B w ((w.drew.setCell ⟨g, n, none⟩ (.slice none 0 0)).setCell ⟨p, 0, none⟩ (.slice (some ⟨g, 0, none⟩) n c)) := ((Below.refl B w).drew.setCell hbg _).setCell h.low _
  refine ⟨?_, hB⟩
  have hl : (hs.take n).length = n := by rw [List.length_take]; omega
  rcases h.own.2 with ⟨hv, _⟩ | ⟨g', cap, cur, hv, hbg', hh, h1, h2, h3, h4⟩
  · cases hv
  · obtain ⟨rfl, rfl⟩ : g' = g ∧ cap = c := by injection hv with e1 _ e3; injection e1 with e1; injection e1 with e1; exact ⟨e1.symm, e3.symm⟩
    have hx := h.box
    refine ⟨?_, ?_, fun a ha => by cases ha; exact hgp, h.low, fun y hy => (h.lie y (List.mem_of_mem_take hy)).below hB⟩
    · rw [hl]
      have : (w.drew.setCell ⟨g', n, none⟩ (.slice none 0 0)).heap[p]? = some (.cells #[.slice (some ⟨g', 0, none⟩) hs.length cap] T (0, 0)) := (heapOther (Ne.symm hgp)).trans hx
      rw [heapSame this]
      simp
    · rw [hl]
      have hq : ((w.drew.setCell ⟨g', n, none⟩ (.slice none 0 0)).setCell ⟨p, 0, none⟩ (.slice (some ⟨g', 0, none⟩) n cap)).heap[g']? = some (.cells (cur.setIfInBounds n (.slice none 0 0)) 26 (0, 0)) := by
        rw [heapOther hgp]
        exact heapSame (w := w.drew) hh
      refine ⟨by simp; omega, .inr ⟨g', cap, _, rfl, hbg, hq, by omega, h2, by simpa using h3, ?_⟩⟩
      rw [Array.toList_setIfInBounds, Nat.mul_one, List.take_set, List.map_take, ← h4, List.take_take, hn, Nat.mul_one, Nat.min_eq_left (by omega)]
      exact List.set_eq_of_length_le (by rw [List.length_take]; omega)

set_option maxRecDepth 100000 in
set_option maxHeartbeats 4000000 in
theorem pop_any {B p : Nat} {T : TypeId} {A : Option Addr} {c n : Nat} {hs : List HV} {w : World} (h : HeadsAt B p T A c hs w) (hn : hs.length = n + 1) (hm : n ≤ 1000000000) :
    Calls Try.prog 91 #[.pointer (some ⟨p, 0, none⟩)] w fun e w' => (∃ v, e = .returned v) ∧ HeadsAt B p T A c (hs.take n) w' ∧ Below B w w' ∧ Beside (mine p A) w w' := by
  obtain ⟨g, rfl, hg, hgp, hc⟩ := h.get (by omega)
  have hbox := h.cell
  have hfz : w.frozen? ⟨p, 0, none⟩ = false := frozen_row0 h.box
  have hcn := hc n (by omega)
  obtain ⟨xa, xn, xc, hx⟩ : ∃ xa xn xc, (HV.at_ hs n).val = .slice xa xn xc := ⟨_, _, _, rfl⟩
  rw [hx] at hcn
  have hnc := (own_cap8 h.own).1
  obtain ⟨q1, q2⟩ := h.cut hn
  have q3 : Beside (mine p (some ⟨g, 0, none⟩)) w ((w.drew.setCell ⟨g, n, none⟩ (.slice none 0 0)).setCell ⟨p, 0, none⟩ (.slice (some ⟨g, 0, none⟩) n c)) := ((Beside.refl _ w).drew.setCell (by simp [mine]) _).setCell (by simp [mine]) _
  have hD := deleteL g n c w (by rw [hcn]; rfl) (h.frz n) (by omega) (by omega)
  have hp2 : (w.drew.setCell ⟨g, n, none⟩ (.slice none 0 0)).cell? ⟨p, 0, none⟩ = some (.slice (some ⟨g, 0, none⟩) hs.length c) := by
    rw [cell_of_row (w.drew.setCell ⟨g, n, none⟩ (.slice none 0 0)) p 0 _ _ _ ((heapOther (w := w.drew) (Ne.symm hgp)).trans h.box)]; rfl
  have hf2 : (w.drew.setCell ⟨g, n, none⟩ (.slice none 0 0)).frozen? ⟨p, 0, none⟩ = false := frozen_row0 ((heapOther (w := w.drew) (Ne.symm hgp)).trans h.box)
  rw [hn] at hbox hp2
  have HQ := Lib.hid (And.intro q1 (And.intro q2 q3))
  clear q1 q2 q3 hc hx hn h
  generalize hs.take n = hs' at *
  have HD := Lib.hid hD
  clear hD
  have k1 : (n : Int) < (n : Int) + 1 := by omega
  have k2 : (n : Int) < ((n + 1 : Nat) : Int) := by omega
  have k0 : (0 : Int) ≤ (n : Int) := by omega
  have k3 : ((n + 1 : Nat) : Int) - 1 = (n : Int) := by omega
  go_enter Try.func91, Try.ntmps91
  go_wp2_with (first
    | (go_at_call 93
       refine HD.out.mono ?_
       rintro e w' ⟨rfl, rfl⟩))
  all_goals go_ret
  all_goals exact ⟨⟨_, rfl⟩, HQ.out.1, HQ.out.2.1, HQ.out.2.2⟩
end Go.Proofs.Ytlacihgoammjgaa.Ord
