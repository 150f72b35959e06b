/- Package fold: Keys, Copy. Words for slices of u64 in memory; vectors as lists of numbers; what the law's own reference functions answer. A vector's bytes, as plain data, and what is read of bytes. The law's own reference for a vector's bytes; the law's test for small vectors. What is asked of package vector, by its operations; the laws VectorJoins, VectorOrders, VectorLacks out of it. The law's test for small vectors; what is asked of package vector about bytes. Package vector: Get, Trim, and two vectors combined by a function that is handed over. -/
import Derived.Sort.OwnSorted
import Derived.Lib.Hide
import Derived.Deep.QuietTactic
import Derived.Laws.OwnMore
import Derived.Lib.SliceRun
import Derived.Test.YtmogoopkjkdkgaaGreatVTp01
import Derived.Test.YtmogoopkjkdkgaaGreatVTp02
import Derived.Test.YtmogoopkjkdkgaaGreatVTp03
import Derived.Test.YtmogoopkjkdkgaaGreatVTp10
namespace Go.Proofs.YtmogoopkjkdkgaaGreat.Fol
open Go Go.RowKit Go.Proofs.YtmogoopkjkdkgaaGreat.Words Go.Proofs.YtmogoopkjkdkgaaGreat.Enc Go.Proofs.YtmogoopkjkdkgaaGreat.Q Go.Proofs.YtmogoopkjkdkgaaGreat.Evt Go.Maps Go.Sort Go.Shelf
set_option linter.unusedVariables false
set_option linter.unusedSimpArgs false

/-- The map's keys, as a permutation of those that it shows. -/
theorem keys_perm {w : World} {mb : Nat} {L : List (Key × MC)} {D : DataW Value} (ho : w.ownsMap Tryz.prog 9 celElem mb L.length D) (hs : Shows D L) (hr : Rise L) : (L.map (·.1)).Perm (strKeys D) := by
  obtain ⟨es, rfl, hp, hk⟩ := ho.entries keyStr
  obtain ⟨es', he, hk2⟩ := ho.keysOf
  injection he with he
  subst he
  refine perm_strKeys hp (fun p hp' => ?_) (rise_nodup hr) fun x => ?_
  · obtain ⟨v, hv⟩ := hk2 p hp'
    obtain ⟨y, _, hy, _⟩ := Maps.keyOf_str Tryz.underlying9 hv
    exact ⟨y, hy⟩
  · rw [hs.2.1 x]
    constructor
    · intro h
      obtain ⟨p, hp1, rfl⟩ := List.mem_map.1 h
      cases hl : lk p.1 L with
      | none => exact absurd rfl (lk_none_iff.1 hl p hp1)
      | some c => rfl
    · intro h
      cases hl : lk x L with
      | none => rw [hl] at h; cases h
      | some c => exact List.mem_map.2 ⟨_, lk_some_mem hl, rfl⟩
set_option maxRecDepth 100000 in
set_option maxHeartbeats 1000000 in
theorem keys_any (S : List Nat) (d mb : Nat) (F : Fo) (w : World) (h : FoldAt w S d mb F) (hf : F.L.length ≤ 1000000) :
    Calls Tryz.prog 35 #[.pointer (some ⟨d, 0, none⟩)] w fun e w' => ∃ A c, e = .returned (.slice A F.L.length c) ∧ w'.ownsRow w.heap.size 9 1 (.slice A F.L.length c) F.L.length ((F.L.map (·.1)).map encStr) ∧ Below w.heap.size w w' := by
  obtain ⟨L, hm, hL, ht⟩ := h.map
  have hr : Rise L := (mapV_rise MC.cel L).1 (by rw [hL]; exact h.ok.rise)
  have hk : F.L.map (·.1) = L.map (·.1) := by rw [← hL, mapV_keys]
  have hl : F.L.length = L.length := by rw [← hL, mapV_len]
  rw [hk, hl]
  rw [hl] at hf
  obtain ⟨D, ho, hs⟩ := hm
  have hp := keys_perm ho hs hr
  have hmax : Maps.size D ≤ maxLen := by rw [hs.2.2]; unfold maxLen; omega
  have hbytes : Maps.size D * 16 ≤ 140737488355328 := by rw [hs.2.2]; omega
  have c0 := h.c0
  have hfK : Fence.wide.fn 71 := trivial
  have hfS : Fence.wide.fn 70 := trivial
  have KEYS := Lib.hid (Tryz.maps_Keys_71 (some mb) w)
  have SORT := Lib.hid (Tryz.slices_Sorted_keys_70_71 mb L.length D celElem w ho hmax hbytes)
  have HP := Lib.hid hp
  have HR := Lib.hid hr
  obtain ⟨n, hn⟩ : ∃ n, n = L.length := ⟨_, rfl⟩
  have HN := Lib.hid hn
  rw [← hn]
  clear h ht hL ho hs hr hk hl hp hmax hbytes hn
  refine (callsIn_wide (n := 6)).1 ?_
  refine callsIn_of_wp Tryz.func35 rfl trivial ?_ rfl
  simp only [Tryz.ntmps35, List.size_toArray, List.length_cons, List.length_nil, Nat.reduceAdd, Nat.reduceSub, Array.replicate_succ, Array.replicate_zero, List.push_toArray, List.append_toArray, List.nil_append, List.cons_append]
  gi_wp2_with (first
    | (gi_at_call 71; refine KEYS.out.mono ?_; rintro e w' ⟨rfl, rfl⟩)
    | (gi_at_call 70; refine SORT.out.mono ?_; rintro e w' ⟨v, ss, rfl, hS, hrow, hnil, hb⟩))
  go_ret
  have hpp := hS.trans HP.out.symm
  have hm2 : ss.mergeSort (fun x y => decide (x ≤ y)) = L.map (·.1) := rise_sorted HR.out hpp
  have hln : ss.length = n := by rw [hpp.length_eq, List.length_map, HN.out]
  obtain ⟨A, c, rfl, _⟩ := Own.shape hrow
  rw [hm2, hln] at hrow
  rw [hln]
  exact ⟨A, c, rfl, Own.lower hrow (by simp), ((Below.refl _ w).alloc (Nat.le_refl _) _).trans (hb.mono (by simp))⟩

section
variable {P : Program} {w : World} {ops : Array Oper} {rest : List Oper} {op : Oper} {a : Act} {Q : Exit → Act → World → Prop}
theorem wpList_alloc (hgd : op.guard = none) (t : TypeId) (ho : op.op = .alloc t) (z : Array Value) (hz : (zeroValue t).run P w = .ok (.agg z) w)
    (h : wpList P ops Q rest (a.put op.dst (.pointer (some ⟨w.heap.size, 0, none⟩))) (w.alloc (.cells z t))) : wpList P ops Q (op :: rest) a w := by
  refine wpList_plain hgd fun K hK => ?_
  have h2 : (execOp a.eval op).run P w = .ok (.value (.pointer (some ⟨w.heap.size, 0, none⟩))) (w.alloc (.cells z t)) := by
    unfold execOp
    simp [ho, go_sem, hz, Value.cells]
  unfold Oper.wp
  rw [h2]
  exact hK _ _ h
end
theorem row_map {F : Fo} (mb mb2 : Nat) : (row mb F).setIfInBounds 0 (.map (some mb2)) = row mb2 F := by
  unfold row cells
  simp
set_option maxRecDepth 100000 in
set_option maxHeartbeats 2000000 in
/-- Copy: a fold of its own, which shares the texts. -/
theorem copy_any (S : List Nat) (d mb : Nat) (F : Fo) (w : World) (h : FoldAt w S d mb F) :
    Calls Tryz.prog 19 #[.pointer (some ⟨d, 0, none⟩)] w fun e w' => ∃ d2 mb2, e = .returned (.pointer (some ⟨d2, 0, none⟩)) ∧ w.heap.size ≤ d2 ∧ w.heap.size ≤ mb2 ∧ FoldAt w' (d2 :: mb2 :: S) d2 mb2 F ∧ Below w.heap.size w w' := by
  obtain ⟨L, hm, hL, ht⟩ := h.map
  obtain ⟨D, ho, hs⟩ := hm
  have hrow := h.row
  have hok := h.ok
  obtain ⟨R, hR⟩ : ∃ R, R = row mb F := ⟨_, rfl⟩
  have hsz : R.size = 196 := by rw [hR]; exact row_size hok
  rw [← hR] at hrow
  have h1 : R.all (·.oneCell') = true := by
    rw [hR]
    unfold row cells
    simp [List.all_append, List.all_map, Value.oneCell', Function.comp_def]
  obtain ⟨zr, hzr, hzs⟩ : ∃ zr : Array Value, (∀ W, (zeroValue 83).run Tryz.prog W = .ok (.agg zr) W) ∧ zr.size = 196 := ⟨_, fun W => (by kernel_rfl : (zeroValue 83).run Tryz.prog W = .ok (.agg (#[.map none] ++ Array.replicate 128 (.bool false) ++ Array.replicate 64 (.int .u64 0) ++ #[.int .u64 0, .int .i64 0, .int .u64 0])) W), by simp⟩
  have hz0 := hzr w
  have hB1 := (Below.refl w.heap.size w).alloc (Nat.le_refl _) (.cells zr 83)
  have hg1 := heap_alloc_new w (.cells zr 83)
  obtain ⟨u, hu⟩ : ∃ u, u = w.alloc (.cells zr 83) := ⟨_, rfl⟩
  have hus : u.heap.size = w.heap.size + 1 := by rw [hu]; simp
  rw [← hu] at hB1 hg1
  have HU := Lib.hid hu
  obtain ⟨B, hB⟩ : ∃ B, B = w.heap.size := ⟨_, rfl⟩
  have HB := Lib.hid hB
  have hsi : (Tryz.prog.info? 83).map (·.size) = some R.size := by rw [hsz]; kernel_rfl
  have hzz : zr.size = R.size := by rw [hsz, hzs]
  have HH := Lib.hid h
  have HRw := Lib.hid hR
  have HO := Lib.hid (And.intro ho hs)
  have HL := Lib.hid hL
  have HT := Lib.hid ht
  have hlt := h.lt
  clear h ho hs hL ht hR hzr hzs hu hok
  go_enter Tryz.func19, Tryz.ntmps19
  go_wp2_with (first
    | (refine wpList_getRow rfl 83 (.tmp 7) rfl d 83 R (0, 0) _ rfl hrow Tryz.underlying83 rfl hsi ?_)
    | (refine wpList_alloc rfl 83 rfl zr hz0 ?_; rw [← HU.out, ← HB.out]; refine wpList_putRow rfl 83 (.tmp 3) (.tmp 8) rfl B 83 zr R rfl rfl (by rw [hB]; exact hg1) hsi hzz h1 ?_))
  intro w2 g2 hb2

  have hs2 : w.heap.size + 1 ≤ w2.heap.size := by have := hb2.size; omega
  have HB2 := Lib.hid (Below.beside hB1 hb2 (by omega) (fun x hx => by simp at hx; omega))
  have hF2 := HH.out.below HB2.out
  have hm2 : MapAt w2 mb L := MapAt.kept ⟨D, HO.out⟩ (HB2.out.block _ hlt.2)
  obtain ⟨D2, ho2, hsh2⟩ := hm2
  have c2 := hF2.c0
  obtain ⟨n2, hn2⟩ : ∃ n2, n2 = L.length := ⟨_, rfl⟩
  rw [← hn2] at ho2
  have CL := Lib.hid (AnyW.maps_Clone_owns Tryz.clone42 9 celElem mb n2 D2 w2 ho2)
  have HF2 := Lib.hid hF2
  have HS2 := Lib.hid hsh2
  have HN2 := Lib.hid hn2
  clear hF2 hsh2 ho2 hn2 hb2 hB1 hrow hg1 hz0 hzz hsi
  go_wp2_with (first
    | (go_at_call 42; refine CL.out.mono ?_; rintro e w3 ⟨rfl, ho3, _, hb3⟩
       have g3 := (hb3.block _ (by omega : w.heap.size < w2.heap.size)).trans g2
       have c3 : w3.cell? ⟨w.heap.size, 0, none⟩ = some (.map (some mb)) := by rw [cell_of_row w3 _ _ _ _ _ g3, HRw.out]; rfl
       have fr3 := frozen_row0 g3 (i := 0)
       have HB3 := Lib.hid hb3
       have HO3 := Lib.hid ho3
       clear hb3 ho3))
  go_ret
  have hok := HH.out.ok
  refine ⟨w.heap.size, w2.heap.size, rfl, Nat.le_refl _, by omega, ⟨?_, ⟨L, ?_, HL.out, fun p hp => ?_⟩, hok, by omega, by simp, by simp⟩, (HB2.out.trans (HB3.out.mono (by omega))).setCell (Nat.le_refl _) _⟩
  · rw [heapSame g3, HRw.out, row_map]
  · exact MapAt.kept ⟨D2, by rw [← HN2.out]; exact HO3.out, HS2.out⟩ (heapOther (by omega))
  · have h4 := (HT.out p hp).wider (S1 := w.heap.size :: w2.heap.size :: S) (fun x hx => by simp at hx; rcases hx with rfl | rfl | hx <;> first | exact .inl hx | exact .inr (by omega))
    exact h4.beside (S1 := []) (.of_below ((HB2.out.trans (HB3.out.mono (by omega))).setCell (Nat.le_refl _) _) _) fun x hx => by cases hx
end Go.Proofs.YtmogoopkjkdkgaaGreat.Fol
namespace Go.Proofs.YtmogoopkjkdkgaaGreat.Vec
open Go Go.RowKit Go.Proofs.YtmogoopkjkdkgaaGreat.Words
set_option linter.unusedVariables false
set_option linter.unusedSimpArgs false

/-- Numbers as cells. -/
def us (l : List Nat) : List Value := l.map fun (x : Nat) => Value.int .u64 (x : Int)
theorem us_length (l : List Nat) : (us l).length = l.length := by simp [us]
theorem us_get {l : List Nat} {j x : Nat} (h : l[j]? = some x) : (us l)[j]? = some (.int .u64 (x : Int)) := by simp [us, h]
theorem us_one (l : List Nat) : ∀ u ∈ us l, u.oneCell' = true := by
  intro u hu
  obtain ⟨_, _, rfl⟩ := List.mem_map.1 hu
  rfl

/-- The slice of n numbers at A shows l. -/
def SeesU (w : World) (A : Option Addr) (n : Nat) (l : List Nat) : Prop :=
  l.length = n ∧ (0 < n → ∃ b o, A = some ⟨b, o, none⟩ ∧ ∀ (j x : Nat), l[j]? = some x → w.cell? ⟨b, o + j, none⟩ = some (.int .u64 (x : Int)))
theorem SeesU.nil (w : World) (A : Option Addr) : SeesU w A 0 [] := ⟨rfl, fun h => absurd h (by omega)⟩
theorem SeesU.drew {w : World} {A : Option Addr} {n : Nat} {l : List Nat} (h : SeesU w A n l) : SeesU w.drew A n l := h
theorem SeesU.drewN {w : World} {A : Option Addr} {n : Nat} {l : List Nat} (h : SeesU w A n l) (k : Nat) : SeesU (w.drewN k) A n l := h
theorem SeesU.below {w w' : World} {A : Option Addr} {n : Nat} {l : List Nat} (h : SeesU w A n l) (hb : Below w.heap.size w w') : SeesU w' A n l := by
  refine ⟨h.1, fun hn => ?_⟩
  obtain ⟨b, o, hA, hc⟩ := h.2 hn
  refine ⟨b, o, hA, fun j u hu => ?_⟩
  have hcell := hc j u hu
  have hlt := World.block_lt_of_cell? _ _ hcell
  rw [hb.cell (p := ⟨b, o + j, none⟩) hlt]
  exact hcell
theorem SeesU.of_own {w : World} {base : Nat} {e : TypeId} {A : Option Addr} {n c : Nat} {l : List Nat} (h : w.ownsRow base e 1 (.slice A n c) n (us l)) : SeesU w A n l := by
  refine ⟨by have := h.1; rw [us_length] at this; omega, fun hn => ?_⟩
  obtain ⟨g, rfl, _⟩ := Own.at_ h hn
  exact ⟨g, 0, rfl, fun j u hu => by rw [← add_plain]; exact h.cells (g := g) rfl j _ (us_get hu)⟩
theorem SeesU.take {w : World} {A : Option Addr} {n : Nat} {l : List Nat} (h : SeesU w A n l) {k : Nat} (hk : k ≤ n) : SeesU w A k (l.take k) := by
  refine ⟨by rw [List.length_take, h.1]; omega, fun hn => ?_⟩
  obtain ⟨b, o, e, hc⟩ := h.2 (by omega)
  refine ⟨b, o, e, fun j u hu => ?_⟩
  rw [List.getElem?_take] at hu
  split at hu
  · exact hc j u hu
  · cases hu
/-- The number at place i; 0 behind the end. -/
def at_ (l : List Nat) (i : Nat) : Nat := l.getD i 0
theorem at_lt {l : List Nat} {i : Nat} (h : i < l.length) : l[i]? = some (at_ l i) := by
  unfold at_
  rw [List.getD_eq_getElem?_getD, List.getElem?_eq_getElem h]
  rfl
theorem at_ge {l : List Nat} {i : Nat} (h : l.length ≤ i) : at_ l i = 0 := by
  unfold at_
  rw [List.getD_eq_getElem?_getD, List.getElem?_eq_none h]
  rfl
/-- Each is below 2^64. -/
def Fits (l : List Nat) : Prop := ∀ i, at_ l i < 18446744073709551616
theorem SeesU.get {w : World} {A : Option Addr} {n : Nat} {l : List Nat} (h : SeesU w A n l) {j : Nat} (hj : j < n) : ∃ b o, A = some ⟨b, o, none⟩ ∧ w.cell? ⟨b, o + j, none⟩ = some (.int .u64 (at_ l j : Int)) := by
  obtain ⟨b, o, hA, hc⟩ := h.2 (by omega)
  exact ⟨b, o, hA, hc j _ (at_lt (by rw [h.1]; exact hj))⟩
theorem SeesU.cell {w : World} {g o n : Nat} {l : List Nat} (h : SeesU w (some ⟨g, o, none⟩) n l) {j : Nat} (hj : j < n) : w.cell? ⟨g, o + j, none⟩ = some (.int .u64 (at_ l j : Int)) := by
  obtain ⟨b, o', hA, hc⟩ := h.get hj
  injection hA with hA
  injection hA with h1 h2
  subst h1; subst h2
  exact hc
/-! What vectors are. -/
/-- No 0 behind. -/
def Trimmed (l : List Nat) : Prop := l = [] ∨ at_ l (l.length - 1) ≠ 0
/-! The law's own reference. -/
set_option maxRecDepth 100000 in
theorem refGet_any (A : Option Addr) (n c : Nat) (a : List Nat) (i : Nat) (w : World) (hs : SeesU w A n a) :
    Calls Tryz.prog 60 #[.slice A n c, .int .i64 (i : Int)] w fun e w' => e = .returned (.int .u64 (at_ a i : Int)) ∧ w' = w := by
  have h0 : decide ((i : Int) < 0) = false := decide_eq_false (by omega)
  by_cases hi : i < n
  · obtain ⟨b, o, rfl, hc⟩ := hs.get hi
    generalize at_ a i = x at hc ⊢
    have h1 : decide ((n : Int) ≤ (i : Int)) = false := decide_eq_false (by omega)
    have h2 : (i : Int) < (n : Int) := by omega
    clear hs hi
    go_enter Tryz.func60, Tryz.ntmps60
    go_wp2
    go_ret
    exact ⟨rfl, rfl⟩
  · have h1 : n ≤ i := by omega
    rw [at_ge (by rw [hs.1]; omega)]
    clear hs hi
    go_enter Tryz.func60, Tryz.ntmps60
    go_wp2
    go_ret
    exact ⟨rfl, rfl⟩
end Go.Proofs.YtmogoopkjkdkgaaGreat.Vec
namespace Go.Proofs.YtmogoopkjkdkgaaGreat.Vec
open Go Go.RowKit Go.Proofs.YtmogoopkjkdkgaaGreat.Words Go.Proofs.YtmogoopkjkdkgaaGreat.Enc Go.Proofs.YtmogoopkjkdkgaaGreat.Tape
set_option linter.unusedVariables false
set_option linter.unusedSimpArgs false

/-- How many numbers of the first k are left without the zeros behind. -/
def trimN (v : List Nat) : Nat → Nat
  | 0 => 0
  | k + 1 => if at_ v k = 0 then trimN v k else k + 1
theorem trimN_le (v : List Nat) : ∀ k, trimN v k ≤ k
  | 0 => Nat.le_refl _
  | k + 1 => by
    unfold trimN
    split
    · exact Nat.le_succ_of_le (trimN_le v k)
    · exact Nat.le_refl _
theorem trimN_zero (v : List Nat) : ∀ k i, trimN v k ≤ i → i < k → at_ v i = 0
  | 0, i, _, h => absurd h (by omega)
  | k + 1, i, h1, h2 => by
    unfold trimN at h1
    split at h1
    · rename_i h0
      rcases Nat.lt_or_ge i k with h | h
      · exact trimN_zero v k i h1 h
      · obtain rfl : i = k := by omega
        exact h0
    · omega
theorem trimN_last (v : List Nat) : ∀ k, 0 < trimN v k → at_ v (trimN v k - 1) ≠ 0
  | 0, h => absurd h (by simp [trimN])
  | k + 1, h => by
    unfold trimN at h ⊢
    split
    · rename_i h0
      rw [if_pos h0] at h
      exact trimN_last v k h
    · rename_i h0
      exact h0
/-- The vector without the zeros behind. -/
def trimL (v : List Nat) : List Nat := v.take (trimN v v.length)
theorem trimL_len (v : List Nat) : (trimL v).length = trimN v v.length := by
  unfold trimL
  rw [List.length_take]
  have := trimN_le v v.length
  omega
theorem at_take (v : List Nat) (k i : Nat) : at_ (v.take k) i = if i < k then at_ v i else 0 := by
  unfold at_
  rw [List.getD_eq_getElem?_getD, List.getElem?_take]
  split
  · rw [List.getD_eq_getElem?_getD]
  · rfl
theorem trimL_at (v : List Nat) (i : Nat) : at_ (trimL v) i = at_ v i := by
  unfold trimL
  rw [at_take]
  split
  · rfl
  · rename_i h
    rcases Nat.lt_or_ge i v.length with h' | h'
    · exact (trimN_zero v v.length i (by omega) h').symm
    · exact (at_ge h').symm
theorem trimL_trimmed (v : List Nat) : Trimmed (trimL v) := by
  rcases Nat.eq_zero_or_pos (trimN v v.length) with h | h
  · left
    exact List.eq_nil_of_length_eq_zero (by rw [trimL_len, h])
  · right
    rw [trimL_len, trimL_at]
    exact trimN_last v _ h
theorem trimN_trimmed {v : List Nat} (h : Trimmed v) : trimN v v.length = v.length := by
  rcases h with rfl | h
  · rfl
  · cases hl : v.length with
    | zero => rfl
    | succ k =>
      rw [hl] at h
      unfold trimN
      exact if_neg h
/-- Numbers, as their bytes. -/
def encs (v : List Nat) : List UInt8 := v.flatMap enc
theorem encs_snoc (v : List Nat) (x : Nat) : encs (v ++ [x]) = encs v ++ enc x := by simp [encs]
/-- A vector's bytes. -/
def layL (v : List Nat) : List UInt8 := enc (trimN v v.length) ++ encs (trimL v)
theorem trimL_self {v : List Nat} (h : Trimmed v) : trimL v = v := by
  unfold trimL
  rw [trimN_trimmed h, List.take_length]

/-- At most 64 numbers, each at most End. -/
def Small (v : List Nat) : Prop := v.length ≤ 64 ∧ ∀ i, at_ v i ≤ 9223372036854775807
theorem small_trim {v : List Nat} (h : Small v) : Small (trimL v) := ⟨by rw [trimL_len]; exact Nat.le_trans (trimN_le _ _) h.1, fun i => by rw [trimL_at]; exact h.2 i⟩

end Go.Proofs.YtmogoopkjkdkgaaGreat.Vec
namespace Go.Proofs.YtmogoopkjkdkgaaGreat.Vec
open Go Go.RowKit Go.Proofs.YtmogoopkjkdkgaaGreat.Words Go.Proofs.YtmogoopkjkdkgaaGreat.Enc Go.Proofs.YtmogoopkjkdkgaaGreat.Made
set_option linter.unusedVariables false
set_option linter.unusedSimpArgs false

theorem trimN_yes {v : List Nat} {k : Nat} (h : at_ v k = 0) : trimN v (k + 1) = trimN v k := if_pos h
theorem trimN_no {v : List Nat} {k : Nat} (h : at_ v k ≠ 0) : trimN v (k + 1) = k + 1 := if_neg h
theorem encs_take (v : List Nat) (i : Nat) (h : i < v.length) : encs (v.take (i + 1)) = encs (v.take i) ++ enc (at_ v i) := by
  rw [List.take_add_one, at_lt h, Option.toList_some, encs_snoc]

set_option maxRecDepth 100000 in
set_option maxHeartbeats 1000000 in
theorem refLayV_any (Q A : Option Addr) (pn pc n c : Nat) (p : List UInt8) (v : List Nat) (w : World) (hp : Sees w Q pn p) (hv : SeesU w A n v) (hs : Small v) (hpn : pn ≤ 100000) :
    Calls Tryz.prog 54 #[.slice Q pn pc, .slice A n c] w (New w.heap.size (pn + (layL v).length) (p ++ layL v) w) := by
  have hn : n ≤ 64 := by rw [← hv.1]; exact hs.1
  obtain ⟨K, hK⟩ : ∃ K, K = trimN v n := ⟨_, rfl⟩
  have hKn : K ≤ n := by rw [hK]; exact trimN_le v n
  have hlay : layL v = enc K ++ encs (v.take K) := by unfold layL trimL; rw [hv.1, ← hK]
  have HLAY := Lib.hid hlay
  have HK := Lib.hid hK.symm
  clear hlay hK
  go_enter Tryz.func54, Tryz.ntmps54
  go_wp2_with fail
  go_loopw [5] (fun x wr => ∃ j : Nat, x = .int .i64 (j : Int) ∧ j ≤ n ∧ Hid (trimN v j = K) ∧ w = wr) (fun x _ => (intOf x).toNat)
  case atStart => exact ⟨n, rfl, Nat.le_refl _, HK, rfl⟩
  case round =>
    obtain ⟨j, rfl, hj, HJ, rfl⟩ := hrel
    have rest : j = K → _ := fun h => h
    by_cases h0 : ∃ k, j = k + 1 ∧ at_ v k = 0
    · obtain ⟨k, rfl, hz⟩ := h0
      obtain ⟨g, o, rfl, hcell⟩ := hv.get (j := k) (by omega)
      rw [hz] at hcell
      have HJ' := Lib.hid (by rw [← trimN_yes hz]; exact HJ.out : trimN v k = K)
      clear hz HJ
      go_wp2
      go_roundw
      case rel => exact ⟨k, by simp, by omega, HJ', by trivial⟩
      case measure => simp [intOf]
    · have hjK : j = K := by
        cases j with
        | zero => exact HJ.out
        | succ k => rw [← HJ.out, trimN_no fun h => h0 ⟨k, rfl, h⟩]
      subst hjK
      by_cases hj0 : j = 0
      · subst hj0
        clear h0
        go_wp2_with fail
        refine (refLay_any Q pn pc p 0 w hp (by omega) (by omega) (by omega)).mono ?_
        rintro e w1 ⟨P1, c1, rfl, own1, b1⟩
        rw [show (0 : Int).toNat = 0 from rfl] at own1 ⊢
        obtain ⟨L1, hL1⟩ : ∃ L1, L1 = (enc 0).length := ⟨_, rfl⟩
        have hL1' : L1 ≤ 10 := by rw [hL1]; exact enc_ten (by omega)
        have OWN1 := Lib.hid own1
        have HL1 := Lib.hid hL1
        clear own1
        rw [← hL1]
        clear hL1
        go_wp2_with fail
        go_loopw [0, 6] (fun x y wr => ∃ (P' : Option Addr) (c' M i : Nat), x = .slice P' M c' ∧ y = .int .i64 (i : Int) ∧ i ≤ 0 ∧ M ≤ pn + 10 + 10 * i ∧ Hid (M = (p ++ (enc 0 ++ encs (v.take i))).length) ∧
          wr.ownsRow w.heap.size 5 1 (.slice P' M c') M (cs (p ++ (enc 0 ++ encs (v.take i)))) ∧ Below w.heap.size w wr) (fun _ y _ => 0 - (intOf y).toNat)
        case atStart => exact ⟨P1, c1, pn + L1, 0, rfl, rfl, by omega, by omega, by rw [HL1.out]; simp [encs, Hid, hp.1], by rw [HL1.out]; simpa [encs] using OWN1.out, b1⟩
        case round =>
          obtain ⟨P', c', M, i, rfl, rfl, hi, hM, HM, own, bb⟩ := hrel
          obtain rfl : i = 0 := by omega
          rw [← HLAY.out] at own HM
          go_wp2
          go_ret
          have hMM : M = pn + (layL v).length := by rw [HM.out, List.length_append, hp.1]
          subst hMM
          exact ⟨P', c', rfl, own, bb⟩
      · obtain ⟨g, o, rfl, hcell⟩ := hv.get (j := j - 1) (by omega)
        have hne : at_ v (j - 1) ≠ 0 := fun h => h0 ⟨j - 1, by omega, h⟩
        generalize at_ v (j - 1) = z at hcell hne
        have z1 : ((z : Int) == 0) = false := by rw [beq_eq_false_iff_ne]; omega
        clear hne h0
        go_wp2_with fail
        refine (refLay_any Q pn pc p (j : Int) w hp (by omega) (by omega) (by omega)).mono ?_
        rintro e w1 ⟨P1, c1, rfl, own1, b1⟩
        rw [Int.toNat_natCast] at own1 ⊢
        obtain ⟨L1, hL1⟩ : ∃ L1, L1 = (enc j).length := ⟨_, rfl⟩
        have hL1' : L1 ≤ 10 := by rw [hL1]; exact enc_ten (by omega)
        have OWN1 := Lib.hid own1
        have HL1 := Lib.hid hL1
        clear own1
        rw [← hL1]
        clear hL1
        go_wp2_with fail
        go_loopw [0, 6] (fun x y wr => ∃ (P' : Option Addr) (c' M i : Nat), x = .slice P' M c' ∧ y = .int .i64 (i : Int) ∧ i ≤ j ∧ M ≤ pn + 10 + 10 * i ∧ Hid (M = (p ++ (enc j ++ encs (v.take i))).length) ∧
          wr.ownsRow w.heap.size 5 1 (.slice P' M c') M (cs (p ++ (enc j ++ encs (v.take i)))) ∧ Below w.heap.size w wr) (fun _ y _ => j - (intOf y).toNat)
        case atStart => exact ⟨P1, c1, pn + L1, 0, rfl, rfl, by omega, by omega, by rw [HL1.out]; simp [encs, Hid, hp.1], by rw [HL1.out]; simpa [encs] using OWN1.out, b1⟩
        case round =>
          obtain ⟨P', c', M, i, rfl, rfl, hi, hM, HM, own, bb⟩ := hrel
          by_cases hlt : i < j
          · have hcell := (hv.below bb).cell (j := i) (by omega)
            have hx := hs.2 i
            have hst := encs_take v i (by have := hv.1; omega)
            have HST := Lib.hid hst
            clear hst
            generalize at_ v i = x at hcell hx HST
            have hbw := bb.size
            go_wp2_with fail
            refine (refLay_any P' M c' _ (x : Int) wr (Sees.of_own own) (by omega) (by omega) (by omega)).mono ?_
            rintro e w2 ⟨P2, c2, rfl, own2, b2⟩
            rw [Int.toNat_natCast] at own2 ⊢
            have hl2 : (enc x).length ≤ 10 := enc_ten (by omega)
            have own2 := Own.lower own2 hbw
            have e2 : p ++ (enc j ++ encs (v.take i)) ++ enc x = p ++ (enc j ++ encs (v.take (i + 1))) := by rw [HST.out]; simp only [List.append_assoc]
            rw [e2] at own2
            have HM2 := Lib.hid (show M + (enc x).length = (p ++ (enc j ++ encs (v.take (i + 1)))).length by rw [← e2, List.length_append, ← HM.out])
            have b22 := bb.trans (b2.mono hbw)
            clear e2 own b2
            generalize (enc x).length = X at own2 HM2 hl2 ⊢
            go_wp2
            go_roundw
            case rel => exact ⟨P2, c2, M + X, i + 1, rfl, by simp, by omega, by omega, HM2, own2, b22⟩
            case measure => simp [intOf]; omega
          · obtain rfl : i = j := by omega
            rw [← HLAY.out] at own HM
            go_wp2
            go_ret
            have hMM : M = pn + (layL v).length := by rw [HM.out, List.length_append, hp.1]
            subst hMM
            exact ⟨P', c', rfl, own, bb⟩
end Go.Proofs.YtmogoopkjkdkgaaGreat.Vec
namespace Go.Proofs.YtmogoopkjkdkgaaGreat.Vec
open Go Go.RowKit Go.Proofs.YtmogoopkjkdkgaaGreat.Words
set_option linter.unusedVariables false
set_option linter.unusedSimpArgs false

/-- A vector that is handed back: seen, trimmed, at most so long, with these numbers. -/
def Gives (w : World) (most : Nat) (f : Nat → Nat) (e : Ending) (w' : World) : Prop :=
  ∃ R k rc l, e = .returned (.slice R k rc) ∧ SeesU w' R k l ∧ k ≤ rc ∧ rc ≤ 9223372036854775807 ∧ k ≤ most ∧ Trimmed l ∧ (∀ i, at_ l i = f i) ∧ Below w.heap.size w w'
def Took2 (w : World) (A : Option Addr) (n c : Nat) (a : List Nat) : Prop := SeesU w A n a ∧ Fits a ∧ n ≤ c ∧ c ≤ 9223372036854775807 ∧ n ≤ 900000
theorem Took2.below {w w' : World} {A : Option Addr} {n c : Nat} {a : List Nat} (h : Took2 w A n c a) (hb : Below w.heap.size w w') : Took2 w' A n c a := ⟨h.1.below hb, h.2⟩
theorem SeesU.new (w : World) (l : List Nat) (T : TypeId) : SeesU (w.alloc (.cells (us l).toArray T)) (some ⟨w.heap.size, 0, none⟩) l.length l :=
  ⟨rfl, fun _ => ⟨w.heap.size, 0, rfl, fun j x hx => by
    rw [Nat.zero_add, cell_of_row _ w.heap.size _ _ _ _ (heap_alloc_new w (.cells (us l).toArray T))]
    have := us_get hx
    simpa using this⟩⟩
theorem Took2.new (w : World) (l : List Nat) (T : TypeId) (k : Nat) (hk : l.length = k) (hf : Fits l) (hl : k ≤ 900000) : Took2 (w.alloc (.cells (us l).toArray T)) (some ⟨w.heap.size, 0, none⟩) k k l := by
  subst hk
  exact ⟨SeesU.new w l T, hf, Nat.le_refl _, by omega, hl⟩
end Go.Proofs.YtmogoopkjkdkgaaGreat.Vec
namespace Go.Proofs.YtmogoopkjkdkgaaGreat.Vec
open Go Go.RowKit Go.Proofs.YtmogoopkjkdkgaaGreat.Words Go.Proofs.YtmogoopkjkdkgaaGreat.Enc Go.Proofs.YtmogoopkjkdkgaaGreat.Made Go.Proofs.YtmogoopkjkdkgaaGreat.Tape
set_option linter.unusedVariables false
set_option linter.unusedSimpArgs false

/-- Bytes that are handed back. -/
def GivesB (w : World) (p : List UInt8) (e : Ending) (w' : World) : Prop := ∃ R rc, e = .returned (.slice R p.length rc) ∧ Sees w' R p.length p ∧ p.length ≤ rc ∧ rc ≤ 9223372036854775807 ∧ Below w.heap.size w w'
def BytesSaid : Prop := ∀ (A : Option Addr) (n c : Nat) (v : List Nat) (w : World), Took2 w A n c v → Small v →
  Calls Tryz.prog 31 #[.slice A n c] w (GivesB w (layL v))
def LaySaid : Prop := ∀ (A Q : Option Addr) (n c pn pc : Nat) (v : List Nat) (p : List UInt8) (w : World), Took2 w A n c v → Small v → Sees w Q pn p → pn ≤ pc → pc ≤ 9223372036854775807 → pn ≤ 100000 →
  Calls Tryz.prog 66 #[.slice A n c, .slice Q pn pc] w (GivesB w (p ++ layL v))
theorem small_fits {v : List Nat} (h : Small v) : Fits v := fun i => by have := h.2 i; omega
end Go.Proofs.YtmogoopkjkdkgaaGreat.Vec
namespace Go.Proofs.YtmogoopkjkdkgaaGreat.Vec
open Go Go.RowKit Go.Proofs.YtmogoopkjkdkgaaGreat.Words Go.Proofs.YtmogoopkjkdkgaaGreat.Enc Go.Proofs.YtmogoopkjkdkgaaGreat.Made Go.Proofs.YtmogoopkjkdkgaaGreat.Tape
set_option linter.unusedVariables false
set_option linter.unusedSimpArgs false

theorem us_append (a b : List Nat) : us (a ++ b) = us a ++ us b := by simp [us]
theorem of_us_get {l : List Nat} {j : Nat} {u : Value} (h : (us l)[j]? = some u) : ∃ x, l[j]? = some x ∧ u = .int .u64 (x : Int) := by
  unfold us at h
  rw [List.getElem?_map] at h
  cases hx : l[j]? with
  | none => rw [hx] at h; cases h
  | some x => rw [hx] at h; injection h with h; exact ⟨x, rfl, h.symm⟩
/-- append onto what the call owns, of numbers that are seen, wherever they lie. -/
theorem run_appU {P : Program} {w : World} (base : Nat) (t ty e : TypeId) (i : TypeInfo) (z : Value) (ht : P.underlying t = some (.slice e)) (hi : P.info? e = some i) (hz : i.zero = some z)
    (hsize : i.size = 1) (hby : i.bytes = 8) (hzs : z.cells.size = 1)
    (A : Option Addr) (n c : Nat) (l : List Nat) (hown : w.ownsRow base e 1 (.slice A n c) n (us l))
    (S : Option Addr) (m k : Nat) (q : List Nat) (hs : SeesU w S m q) (h63 : n + m ≤ 1000000000000) (hbase : base ≤ w.heap.size) :
    ∃ A' c' w', (Builtin.append_ #[t, t] ty #[.slice A n c, .slice S m k]).run P w = .ok (.slice A' (n + m) c') w' ∧ w'.ownsRow base e 1 (.slice A' (n + m) c') (n + m) (us (l ++ q)) ∧ Below base w w' := by
  have hmx : n + m ≤ maxLen := by unfold maxLen; omega
  cases S with
  | none =>
    have hm : m = 0 := by
      rcases Nat.eq_zero_or_pos m with h0 | h0
      · exact h0
      · obtain ⟨b, o, h, _⟩ := hs.2 h0
        cases h
    subst hm
    have hq : q = [] := List.eq_nil_of_length_eq_zero hs.1
    subst hq
    refine ⟨A, c, w, ?_, by simpa using hown, Below.refl _ _⟩
    rcases hown.2 with ⟨hv, rfl⟩ | ⟨g, cap, cur, hv, _, _, hnc, _⟩
    · injection hv with h1 h2 h3
      subst h1; subst h3
      simp [Builtin.append_, run_underlying ht, sizeOf, typeInfo, hi, Builtin.lenOf, Builtin.firstCells]
    · injection hv with h1 h2 h3
      subst h1; subst h3
      simp [Builtin.append_, run_underlying ht, sizeOf, typeInfo, hi, Builtin.lenOf, Builtin.firstCells, hnc, storeCells]
  | some ad =>
    have hcells : ∀ j u, (us q)[j]? = some u → w.cell? (ad.add j) = some u := by
      intro j u hu
      obtain ⟨y, hy, rfl⟩ := of_us_get hu
      have hj : j < q.length := (List.getElem?_eq_some_iff.1 hy).1
      obtain ⟨b, o, h, hc⟩ := hs.2 (by have := hs.1; omega)
      injection h with h
      subst h
      rw [add_plain]
      exact hc j y hy
    obtain ⟨v', w', hrun, h2, h3, _⟩ := run_append_own (P := P) w base t ty e i z 1 8 ht hi hz hsize hby hzs (by decide) (.slice A n c) n (us l) hown ad m k (us q) (by rw [us_length, hs.1]; simp) hcells (us_one q) hmx (by omega) hbase
    rw [← us_append] at h2
    have hB : Below base w w' := (Below.refl base w).grown h3 hbase fun g hg => (hown.lt g hg).1
    obtain ⟨A', c', rfl⟩ : ∃ A' c', v' = .slice A' (n + m) c' := by
      rcases h2.2 with ⟨rfl, h0⟩ | ⟨g, cap, cur, rfl, _⟩
      · exact ⟨none, 0, by rw [h0]⟩
      · exact ⟨_, cap, rfl⟩
    exact ⟨A', c', w', hrun, h2, hB⟩
theorem eql_none (w : World) (n c : Nat) : (binOp .eql 64 (.slice none n c) (.slice none 0 0)).run Tryz.prog w = .ok (.bool true) w := by
  rw [Lib.run_eql_slice_nil w 64 28 none n c 0 0 Tryz.underlying64]
  rfl
theorem eql_some (w : World) (a : Addr) (n c : Nat) : (binOp .eql 64 (.slice (some a) n c) (.slice none 0 0)).run Tryz.prog w = .ok (.bool false) w := by
  rw [Lib.run_eql_slice_nil w 64 28 (some a) n c 0 0 Tryz.underlying64]
  rfl
theorem info64 : (Tryz.prog.info? 28).map (fun i => (i.zero, i.size, i.bytes)) = some (some (.int .u64 0), 1, 8) := by kernel_rfl
/-- The same for the program's own vectors. -/
theorem app_vec (ty : TypeId) (base : Nat) (A : Option Addr) (n c : Nat) (l : List Nat) (w : World) (hown : w.ownsRow base 28 1 (.slice A n c) n (us l))
    (S : Option Addr) (m k : Nat) (q : List Nat) (hs : SeesU w S m q) (h63 : n + m ≤ 1000000000000) (hbase : base ≤ w.heap.size) :
    ∃ A' c' w', (Builtin.append_ #[64, 64] ty #[.slice A n c, .slice S m k]).run Tryz.prog w = .ok (.slice A' (n + m) c') w' ∧ w'.ownsRow base 28 1 (.slice A' (n + m) c') (n + m) (us (l ++ q)) ∧ Below base w w' := by
  have hi := info64
  cases hc : Tryz.prog.info? 28 with
  | none => rw [hc] at hi; cases hi
  | some i =>
    rw [hc] at hi
    simp only [Option.map_some, Option.some.injEq, Prod.mk.injEq] at hi
    obtain ⟨hz, hsz, hby⟩ := hi
    exact run_appU base 64 ty 28 i (.int .u64 0) Tryz.underlying64 hc hz hsz hby rfl A n c l hown S m k q hs h63 hbase

theorem wpList_vec {w : World} {ops : Array Oper} {rest : List Oper} {o : Oper} {a : Act} {Q : Exit → Act → World → Prop} (hgd : o.guard = none) (s x : Operand)
    (ho : o.op = .call { callee := .builtin .append, args := #[s, x], argTypes := #[64, 64] })
    (base : Nat) (A : Option Addr) (n c : Nat) (l : List Nat) (hs : a.eval s = .slice A n c) (hown : w.ownsRow base 28 1 (.slice A n c) n (us l))
    (S : Option Addr) (m k : Nat) (q : List Nat) (hx : a.eval x = .slice S m k) (hq : SeesU w S m q) (h63 : n + m ≤ 1000000000000) (hbase : base ≤ w.heap.size)
    (h : ∀ A' c' w', w'.ownsRow base 28 1 (.slice A' (n + m) c') (n + m) (us (l ++ q)) → Below base w w' → wpList Tryz.prog ops Q rest (a.put o.dst (.slice A' (n + m) c')) w') : wpList Tryz.prog ops Q (o :: rest) a w :=
  wpList_plain hgd fun _ hK => by
    obtain ⟨A', c', w', hrun, h2, h3⟩ := app_vec o.type base A n c l w hown S m k q hq h63 hbase
    unfold Oper.wp execOp
    simp only [ho, resolve, invoke, builtin, Sem.run_bind, Sem.run_pure, Result.andThen_ok, List.map_toArray, List.map_cons, List.map_nil, hs, hx, hrun]
    exact hK _ _ (h A' c' w' h2 h3)
/-- The same numbers, in memory of their own. -/
def Clones (w : World) (v : List Nat) (n : Nat) (e : Ending) (w' : World) : Prop :=
  ∃ A' c', e = .returned (.slice A' n c') ∧ w'.ownsRow w.heap.size 28 1 (.slice A' n c') n (us v) ∧ Below w.heap.size w w'
set_option maxRecDepth 100000 in
theorem clone_u (A : Option Addr) (n c : Nat) (v : List Nat) (w : World) (hv : SeesU w A n v) (hn : n ≤ 900000) :
    Calls Tryz.prog 95 #[.slice A n c] w (Clones w v n) := by
  cases A with
  | none =>
    have h0 : n = 0 := by
      rcases Nat.eq_zero_or_pos n with h | h
      · exact h
      · obtain ⟨b, o, e, _⟩ := hv.2 h
        cases e
    subst h0
    have hl0 : v = [] := List.eq_nil_of_length_eq_zero hv.1
    subst hl0
    have he := eql_none w 0 c
    have FIN : Hid (Clones w [] 0 (.returned (.slice none 0 0)) w) := Lib.hid ⟨none, 0, rfl, Own.nil _ _ _, Below.refl _ _⟩
    go_enter Tryz.func95, Tryz.ntmps95
    go_wp2
    go_ret
    exact FIN.out
  | some a =>
    have he := eql_some w a n c
    have hv1 := hv.below ((Below.refl w.heap.size w).alloc (Nat.le_refl _) (.cells #[] 28))
    have hb1 := (Below.refl w.heap.size w).alloc (Nat.le_refl _) (.cells #[] 28)
    have own0 := World.ownsRow_lit (base := w.heap.size) (e := 28) (size := 1) w #[] 0 (Nat.le_refl _) (by decide) rfl
    have hsz : w.heap.size ≤ (w.alloc (.cells #[] 28)).heap.size := hb1.size
    clear hv
    go_enter Tryz.func95, Tryz.ntmps95
    go_wp2_with (first | (at_builtin; refine wpList_vec rfl _ _ rfl w.heap.size (some ⟨w.heap.size, 0, none⟩) 0 0 [] rfl own0 (some a) n c v rfl hv1 (by omega) hsz ?_))
    intro A' c' w' own bel
    have FIN : Hid (Clones w v n (.returned (.slice A' n c')) w') := Lib.hid ⟨_, _, rfl, own, hb1.trans bel⟩
    clear hv1 hb1 own bel own0
    go_wp2
    go_ret
    exact FIN.out

/-- The vector without the zeros behind, in memory of its own. -/
def Trims (w : World) (v : List Nat) (n : Nat) (e : Ending) (w' : World) : Prop :=
  ∃ R rc, e = .returned (.slice R (trimN v n) rc) ∧ w'.ownsRow w.heap.size 28 1 (.slice R (trimN v n) rc) (trimN v n) (us (v.take (trimN v n))) ∧ Below w.heap.size w w'
set_option maxRecDepth 100000 in
theorem trim_at (A : Option Addr) (n c : Nat) (v : List Nat) (w : World) (hv : SeesU w A n v) (hc : n ≤ c) (hn : n ≤ 900000) (hc2 : c ≤ 9223372036854775807) :
    Calls Tryz.prog 65 #[.slice A n c] w (Trims w v n) := by
  obtain ⟨K, hK⟩ : ∃ K, K = trimN v n := ⟨_, rfl⟩
  have hKn : K ≤ n := by rw [hK]; exact trimN_le v n
  have HK := Lib.hid hK.symm
  have CL := Lib.hid (clone_u A K c (v.take K) w (hv.take hKn) (by omega))
  unfold Trims
  rw [← hK]
  clear hK
  go_enter Tryz.func65, Tryz.ntmps65
  go_wp2_with fail
  go_loopw [3] (fun x wr => ∃ j : Nat, x = .int .i64 (j : Int) ∧ j ≤ n ∧ Hid (trimN v j = K) ∧ w = wr) (fun x _ => (intOf x).toNat)
  case atStart => exact ⟨n, rfl, Nat.le_refl _, HK, rfl⟩
  case round =>
    obtain ⟨j, rfl, hj, HJ, rfl⟩ := hrel
    by_cases h0 : ∃ k, j = k + 1 ∧ at_ v k = 0
    · obtain ⟨k, rfl, hz⟩ := h0
      obtain ⟨g, o, rfl, hcell⟩ := hv.get (j := k) (by omega)
      rw [hz] at hcell
      have HJ' := Lib.hid (by rw [← trimN_yes hz]; exact HJ.out : trimN v k = K)
      clear hz HJ
      go_wp2
      go_roundw
      case rel => exact ⟨k, by simp, by omega, HJ', by trivial⟩
      case measure => simp [intOf]
    · have hjK : j = K := by
        cases j with
        | zero => exact HJ.out
        | succ k => rw [← HJ.out, trimN_no fun h => h0 ⟨k, rfl, h⟩]
      subst hjK
      by_cases hj0 : j = 0
      · subst hj0
        clear h0 HJ
        cases A with
        | none =>
          go_wp2_with fail
          refine CL.out.mono ?_
          rintro e w2 ⟨R, rc, rfl, h1, h2⟩
          have FIN := Lib.hid (And.intro h1 h2)
          clear h1 h2 CL
          go_wp2
          go_ret
          exact ⟨_, _, rfl, FIN.out⟩
        | some ad =>
          go_wp2_with fail
          refine CL.out.mono ?_
          rintro e w2 ⟨R, rc, rfl, h1, h2⟩
          have FIN := Lib.hid (And.intro h1 h2)
          clear h1 h2 CL
          go_wp2
          go_ret
          exact ⟨_, _, rfl, FIN.out⟩
      · obtain ⟨g, o, rfl, hcell⟩ := hv.get (j := j - 1) (by omega)
        have hne : at_ v (j - 1) ≠ 0 := fun h => h0 ⟨j - 1, by omega, h⟩
        generalize at_ v (j - 1) = z at hcell hne
        have z1 : ((z : Int) == 0) = false := by rw [beq_eq_false_iff_ne]; omega
        clear hne h0 HJ
        go_wp2_with fail
        refine CL.out.mono ?_
        rintro e w2 ⟨R, rc, rfl, h1, h2⟩
        have FIN := Lib.hid (And.intro h1 h2)
        clear h1 h2 CL
        go_wp2
        go_ret
        exact ⟨_, _, rfl, FIN.out⟩

/-! Two vectors, number by number, by a function that is handed over. -/
end Go.Proofs.YtmogoopkjkdkgaaGreat.Vec
