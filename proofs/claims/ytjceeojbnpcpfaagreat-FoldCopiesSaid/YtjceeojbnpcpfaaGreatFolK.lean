/- Package fold: Keys, Copy. -/
import Derived.Test.YtjceeojbnpcpfaaGreatFolG
import Derived.Test.YtjceeojbnpcpfaaGreatIter
import Derived.Sort.OwnSorted
namespace Go.Proofs.YtjceeojbnpcpfaaGreat.Fol
open Go Go.RowKit Go.Proofs.YtjceeojbnpcpfaaGreat.Words Go.Proofs.YtjceeojbnpcpfaaGreat.Enc Go.Proofs.YtjceeojbnpcpfaaGreat.Q Go.Proofs.YtjceeojbnpcpfaaGreat.Evt Go.Maps Go.Sort Go.Shelf
set_option linter.unusedVariables false
set_option linter.unusedSimpArgs false

/-- The map's keys, as a permutation of those that it shows. -/
theorem keys_perm {w : World} {mb : Nat} {L : List (Key × MC)} {D : DataW Value} (ho : w.ownsMap Tryz.prog 9 celElem mb L.length D) (hs : Shows D L) (hr : Rise L) : (L.map (·.1)).Perm (strKeys D) := by
  obtain ⟨es, rfl, hp, hk⟩ := ho.entries keyStr
  obtain ⟨es', he, hk2⟩ := ho.keysOf
  injection he with he
  subst he
  refine perm_strKeys hp (fun p hp' => ?_) (rise_nodup hr) fun x => ?_
  · obtain ⟨v, hv⟩ := hk2 p hp'
    obtain ⟨y, _, hy, _⟩ := Maps.keyOf_str Tryz.underlying9 hv
    exact ⟨y, hy⟩
  · rw [hs.2.1 x]
    constructor
    · intro h
      obtain ⟨p, hp1, rfl⟩ := List.mem_map.1 h
      cases hl : lk p.1 L with
      | none => exact absurd rfl (lk_none_iff.1 hl p hp1)
      | some c => rfl
    · intro h
      cases hl : lk x L with
      | none => rw [hl] at h; cases h
      | some c => exact List.mem_map.2 ⟨_, lk_some_mem hl, rfl⟩
set_option maxRecDepth 100000 in
set_option maxHeartbeats 1000000 in
theorem keys_any (S : List Nat) (d mb : Nat) (F : Fo) (w : World) (h : FoldAt w S d mb F) (hf : F.L.length ≤ 1000000) :
    Calls Tryz.prog 30 #[.pointer (some ⟨d, 0, none⟩)] w fun e w' => ∃ A c, e = .returned (.slice A F.L.length c) ∧ w'.ownsRow w.heap.size 9 1 (.slice A F.L.length c) F.L.length ((F.L.map (·.1)).map encStr) ∧ Below w.heap.size w w' := by
  obtain ⟨L, hm, hL, ht⟩ := h.map
  have hr : Rise L := (mapV_rise MC.cel L).1 (by rw [hL]; exact h.ok.rise)
  have hk : F.L.map (·.1) = L.map (·.1) := by rw [← hL, mapV_keys]
  have hl : F.L.length = L.length := by rw [← hL, mapV_len]
  rw [hk, hl]
  rw [hl] at hf
  obtain ⟨D, ho, hs⟩ := hm
  have hp := keys_perm ho hs hr
  have hmax : Maps.size D ≤ maxLen := by rw [hs.2.2]; unfold maxLen; omega
  have hbytes : Maps.size D * 16 ≤ 140737488355328 := by rw [hs.2.2]; omega
  have c0 := h.c0
  have hfK : Fence.wide.fn 60 := trivial
  have hfS : Fence.wide.fn 59 := trivial
  have KEYS := Lib.hid (Tryz.maps_Keys_60 (some mb) w)
  have SORT := Lib.hid (Tryz.slices_Sorted_keys_59_60 mb L.length D celElem w ho hmax hbytes)
  have HP := Lib.hid hp
  have HR := Lib.hid hr
  obtain ⟨n, hn⟩ : ∃ n, n = L.length := ⟨_, rfl⟩
  have HN := Lib.hid hn
  rw [← hn]
  clear h ht hL ho hs hr hk hl hp hmax hbytes hn
  refine (callsIn_wide (n := 6)).1 ?_
  refine callsIn_of_wp Tryz.func30 rfl trivial ?_ rfl
  simp only [Tryz.ntmps30, List.size_toArray, List.length_cons, List.length_nil, Nat.reduceAdd, Nat.reduceSub, Array.replicate_succ, Array.replicate_zero, List.push_toArray, List.append_toArray, List.nil_append, List.cons_append]
  gi_wp2_with (first
    | (gi_at_call 60; refine KEYS.out.mono ?_; rintro e w' ⟨rfl, rfl⟩)
    | (gi_at_call 59; refine SORT.out.mono ?_; rintro e w' ⟨v, ss, rfl, hS, hrow, hnil, hb⟩))
  go_ret
  have hpp := hS.trans HP.out.symm
  have hm2 : ss.mergeSort (fun x y => decide (x ≤ y)) = L.map (·.1) := rise_sorted HR.out hpp
  have hln : ss.length = n := by rw [hpp.length_eq, List.length_map, HN.out]
  obtain ⟨A, c, rfl, _⟩ := Own.shape hrow
  rw [hm2, hln] at hrow
  rw [hln]
  exact ⟨A, c, rfl, Own.lower hrow (by simp), ((Below.refl _ w).alloc (Nat.le_refl _) _).trans (hb.mono (by simp))⟩

section
variable {P : Program} {w : World} {ops : Array Oper} {rest : List Oper} {op : Oper} {a : Act} {Q : Exit → Act → World → Prop}
theorem wpList_alloc (hgd : op.guard = none) (t : TypeId) (ho : op.op = .alloc t) (z : Array Value) (hz : (zeroValue t).run P w = .ok (.agg z) w)
    (h : wpList P ops Q rest (a.put op.dst (.pointer (some ⟨w.heap.size, 0, none⟩))) (w.alloc (.cells z t))) : wpList P ops Q (op :: rest) a w := by
  refine wpList_plain hgd fun K hK => ?_
  have h2 : (execOp a.eval op).run P w = .ok (.value (.pointer (some ⟨w.heap.size, 0, none⟩))) (w.alloc (.cells z t)) := by
    unfold execOp
    simp [ho, go_sem, hz, Value.cells]
  unfold Oper.wp
  rw [h2]
  exact hK _ _ h
end
theorem row_map {F : Fo} (mb mb2 : Nat) : (row mb F).setIfInBounds 0 (.map (some mb2)) = row mb2 F := by
  unfold row cells
  simp
set_option maxRecDepth 100000 in
set_option maxHeartbeats 2000000 in
/-- Copy: a fold of its own, which shares the texts. -/
theorem copy_any (S : List Nat) (d mb : Nat) (F : Fo) (w : World) (h : FoldAt w S d mb F) :
    Calls Tryz.prog 10 #[.pointer (some ⟨d, 0, none⟩)] w fun e w' => ∃ d2 mb2, e = .returned (.pointer (some ⟨d2, 0, none⟩)) ∧ w.heap.size ≤ d2 ∧ w.heap.size ≤ mb2 ∧ FoldAt w' (d2 :: mb2 :: S) d2 mb2 F ∧ Below w.heap.size w w' := by
  obtain ⟨L, hm, hL, ht⟩ := h.map
  obtain ⟨D, ho, hs⟩ := hm
  have hrow := h.row
  have hok := h.ok
  obtain ⟨R, hR⟩ : ∃ R, R = row mb F := ⟨_, rfl⟩
  have hsz : R.size = 196 := by rw [hR]; exact row_size hok
  rw [← hR] at hrow
  have h1 : R.all (·.oneCell') = true := by
    rw [hR]
    unfold row cells
    simp [List.all_append, List.all_map, Value.oneCell', Function.comp_def]
  obtain ⟨zr, hzr, hzs⟩ : ∃ zr : Array Value, (∀ W, (zeroValue 58).run Tryz.prog W = .ok (.agg zr) W) ∧ zr.size = 196 := ⟨_, fun W => (by kernel_rfl : (zeroValue 58).run Tryz.prog W = .ok (.agg (#[.map none] ++ Array.replicate 128 (.bool false) ++ Array.replicate 64 (.int .u64 0) ++ #[.int .u64 0, .int .i64 0, .int .u64 0])) W), by simp⟩
  have hz0 := hzr w
  have hB1 := (Below.refl w.heap.size w).alloc (Nat.le_refl _) (.cells zr 58)
  have hg1 := heap_alloc_new w (.cells zr 58)
  obtain ⟨u, hu⟩ : ∃ u, u = w.alloc (.cells zr 58) := ⟨_, rfl⟩
  have hus : u.heap.size = w.heap.size + 1 := by rw [hu]; simp
  rw [← hu] at hB1 hg1
  have HU := Lib.hid hu
  obtain ⟨B, hB⟩ : ∃ B, B = w.heap.size := ⟨_, rfl⟩
  have HB := Lib.hid hB
  have hsi : (Tryz.prog.info? 58).map (·.size) = some R.size := by rw [hsz]; kernel_rfl
  have hzz : zr.size = R.size := by rw [hsz, hzs]
  have HH := Lib.hid h
  have HRw := Lib.hid hR
  have HO := Lib.hid (And.intro ho hs)
  have HL := Lib.hid hL
  have HT := Lib.hid ht
  have hlt := h.lt
  clear h ho hs hL ht hR hzr hzs hu hok
  go_enter Tryz.func10, Tryz.ntmps10
  go_wp2_with (first
    | (refine wpList_getRow rfl 58 (.tmp 7) rfl d 58 R (0, 0) _ rfl hrow Tryz.underlying58 rfl hsi ?_)
    | (refine wpList_alloc rfl 58 rfl zr hz0 ?_; rw [← HU.out, ← HB.out]; refine wpList_putRow rfl 58 (.tmp 3) (.tmp 8) rfl B 58 zr R rfl rfl (by rw [hB]; exact hg1) hsi hzz h1 ?_))
  intro w2 g2 hb2

  have hs2 : w.heap.size + 1 ≤ w2.heap.size := by have := hb2.size; omega
  have HB2 := Lib.hid (Below.beside hB1 hb2 (by omega) (fun x hx => by simp at hx; omega))
  have hF2 := HH.out.below HB2.out
  have hm2 : MapAt w2 mb L := MapAt.kept ⟨D, HO.out⟩ (HB2.out.block _ hlt.2)
  obtain ⟨D2, ho2, hsh2⟩ := hm2
  have c2 := hF2.c0
  obtain ⟨n2, hn2⟩ : ∃ n2, n2 = L.length := ⟨_, rfl⟩
  rw [← hn2] at ho2
  have CL := Lib.hid (AnyW.maps_Clone_owns Tryz.clone29 9 celElem mb n2 D2 w2 ho2)
  have HF2 := Lib.hid hF2
  have HS2 := Lib.hid hsh2
  have HN2 := Lib.hid hn2
  clear hF2 hsh2 ho2 hn2 hb2 hB1 hrow hg1 hz0 hzz hsi
  go_wp2_with (first
    | (go_at_call 29; refine CL.out.mono ?_; rintro e w3 ⟨rfl, ho3, _, hb3⟩
       have g3 := (hb3.block _ (by omega : w.heap.size < w2.heap.size)).trans g2
       have c3 : w3.cell? ⟨w.heap.size, 0, none⟩ = some (.map (some mb)) := by rw [cell_of_row w3 _ _ _ _ _ g3, HRw.out]; rfl
       have fr3 := frozen_row0 g3 (i := 0)
       have HB3 := Lib.hid hb3
       have HO3 := Lib.hid ho3
       clear hb3 ho3))
  go_ret
  have hok := HH.out.ok
  refine ⟨w.heap.size, w2.heap.size, rfl, Nat.le_refl _, by omega, ⟨?_, ⟨L, ?_, HL.out, fun p hp => ?_⟩, hok, by omega, by simp, by simp⟩, (HB2.out.trans (HB3.out.mono (by omega))).setCell (Nat.le_refl _) _⟩
  · rw [heapSame g3, HRw.out, row_map]
  · exact MapAt.kept ⟨D2, by rw [← HN2.out]; exact HO3.out, HS2.out⟩ (heapOther (by omega))
  · have h4 := (HT.out p hp).wider (S1 := w.heap.size :: w2.heap.size :: S) (fun x hx => by simp at hx; rcases hx with rfl | rfl | hx <;> first | exact .inl hx | exact .inr (by omega))
    exact h4.beside (S1 := []) (.of_below ((HB2.out.trans (HB3.out.mono (by omega))).setCell (Nat.le_refl _) _) _) fun x hx => by cases hx
end Go.Proofs.YtjceeojbnpcpfaaGreat.Fol
