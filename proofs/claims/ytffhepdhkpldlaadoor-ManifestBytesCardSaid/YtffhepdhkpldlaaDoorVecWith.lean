/- Package vector: With, of a node's place. -/
import Derived.Test.YtffhepdhkpldlaaDoorVecRead
import Derived.Laws.CopyOwn
import Derived.IntWalk
import Derived.Deep.Cut
namespace Go.Proofs.YtffhepdhkpldlaaDoor.Vec
open Go Go.RowKit Go.Proofs.YtffhepdhkpldlaaDoor.Words Go.Proofs.YtffhepdhkpldlaaDoor.Enc Go.Proofs.YtffhepdhkpldlaaDoor.Made Go.Proofs.YtffhepdhkpldlaaDoor.Tape
set_option linter.unusedVariables false
set_option linter.unusedSimpArgs false

/-- The row behind the copy. -/
def withRow (a : List Nat) (n N : Nat) : List Nat := a ++ List.replicate (N - n) 0
theorem withRow_splice (a : List Nat) (n N : Nat) (ha : a.length = n) (hN : n ≤ N) : splice (us (List.replicate N 0)) 0 (us a) = us (withRow a n N) := by
  unfold splice withRow us
  simp [ha, List.drop_replicate]
theorem withRow_at (a : List Nat) (n N j : Nat) (ha : a.length = n) : at_ (withRow a n N) j = at_ a j := by
  unfold withRow at_
  rw [List.getD_eq_getElem?_getD, List.getD_eq_getElem?_getD]
  by_cases h : j < a.length
  · rw [List.getElem?_append_left h]
  · rw [List.getElem?_append_right (by omega), List.getElem?_eq_none (l := a) (by omega), List.getElem?_replicate]
    split <;> rfl
theorem withRow_len (a : List Nat) (n N : Nat) (ha : a.length = n) (hN : n ≤ N) : (withRow a n N).length = N := by
  unfold withRow
  simp [ha]; omega

/-- As Gives; in memory of its own. -/
def GivesO (w : World) (most : Nat) (f : Nat → Nat) (e : Ending) (w' : World) : Prop :=
  ∃ R k rc l, e = .returned (.slice R k rc) ∧ w'.ownsRow w.heap.size 22 1 (.slice R k rc) k (us l) ∧ k ≤ most ∧ Trimmed l ∧ (∀ i, at_ l i = f i) ∧ Below w.heap.size w w'
theorem out_u {S : List Nat} {w : World} {A : Option Addr} {n : Nat} {l : List Nat} (h : SeesU w A n l) (hb : ∀ x ∈ S, w.heap.size ≤ x) : Out S A n := fun hn a ha hm => by
  obtain ⟨g, o, hA, hc⟩ := h.2 hn
  rw [hA] at ha
  injection ha with ha
  subst ha
  have hl : 0 < l.length := by rw [h.1]; exact hn
  have := World.block_lt_of_cell? _ _ (hc 0 l[0] (List.getElem?_eq_getElem hl))
  have h2 := hb _ hm
  simp at h2 this
  omega
theorem out_own {S : List Nat} {w : World} {base : Nat} {A : Option Addr} {n c : Nat} {xs : List Value} (h : w.ownsRow base 22 1 (.slice A n c) n xs) (hb : ∀ x ∈ S, x < base) : Out S A n := fun hn a ha hm => by
  obtain ⟨g, hg, hgb⟩ := Own.at_ h hn
  rw [hg] at ha
  injection ha with ha
  subst ha
  have := hb _ hm
  simp at this
  omega
theorem Out.less {S S' : List Nat} {A : Option Addr} {n : Nat} (h : Out S A n) (hs : ∀ x ∈ S', x ∈ S) : Out S' A n := fun hn a ha hm => h hn a ha (hs _ hm)

set_option maxRecDepth 100000 in
set_option maxHeartbeats 1000000 in
theorem with_own (A : Option Addr) (n c : Nat) (a : List Nat) (i x : Nat) (w : World) (hs : SeesU w A n a) (hi : i < 64) (hn : n ≤ 900000) :
    Calls Tryd.prog 24 #[.slice A n c, .int .i64 (i : Int), .int .u64 (x : Int)] w (GivesO w (Nat.max n (i + 1)) fun j => if j = i then x else at_ a j) := by
  obtain ⟨N, hN⟩ : ∃ N, N = Nat.max n (i + 1) := ⟨_, rfl⟩
  rw [← hN]
  have hmax : max (n : Int) ((i : Int) + 1) = (N : Int) := by rw [hN]; show max (n : Int) ((i : Int) + 1) = ((max n (i + 1) : Nat) : Int); omega
  have hN2 : N ≤ 900000 := by rw [hN]; exact Nat.max_le.2 ⟨hn, by omega⟩
  have hnN : n ≤ N := by rw [hN]; exact Nat.le_max_left _ _
  have hiN : i < N := by have : i + 1 ≤ N := by rw [hN]; exact Nat.le_max_right _ _
                         omega
  have hmk := fun W => make_u W N (by omega)
  have d0 : decide ((i : Int) < 0) = false := decide_eq_false (by omega)
  have d1 : decide ((64 : Int) ≤ (i : Int)) = false := decide_eq_false (by omega)
  have hw : IntKind.i64.wrap ((i : Int) + 1) = (i : Int) + 1 := IntWalk.i64_in _ (by omega)
  clear hN
  go_enter Tryd.func24, Tryd.ntmps24
  go_upto_region 4 with fail
  have bel0 : Below w.heap.size w (w.alloc (.cells (uRow N) 22)) := (Below.refl _ _).alloc (Nat.le_refl _) _
  have g0 : (w.alloc (.cells (uRow N) 22)).heap[w.heap.size]? = some (.cells (us (List.replicate N 0)).toArray 22 (0, 0)) := by
    rw [heap_alloc_new w (.cells (uRow N) 22), show (us (List.replicate N 0)).toArray = uRow N by rw [← uRow_list]]
  have s0 := hs.below bel0
  have hal := hs.1
  obtain ⟨W0, hW0⟩ : ∃ W0, W0 = w.alloc (.cells (uRow N) 22) := ⟨_, rfl⟩
  rw [← hW0] at bel0 g0 s0 ⊢
  clear hW0 hmk hmax hw
  have CS := Lib.hid (show (us a).length = Nat.min n N by rw [us_length, hal]; exact (Nat.min_eq_left hnN).symm)
  have CP : Hid (0 < (us a).length → (some ⟨w.heap.size, 0, none⟩ : Option Addr) = some ⟨w.heap.size, 0, none⟩ ∧ ∃ ad, A = some ad ∧ ∀ j v, (us a)[j]? = some v → W0.cell? (ad.add j) = some v) := Lib.hid fun h => by
    rw [us_length] at h
    obtain ⟨b, o, e, hc⟩ := s0.2 (by omega)
    exact ⟨rfl, _, e, fun j v hv => by obtain ⟨y, hy, rfl⟩ := of_us_get hv; rw [add_plain]; exact hc j y hy⟩
  go_wp2_with (with_reducible refine wpList_copy_splice rfl (.tmp 22) (.tmp 23) 24 24 rfl 22 Tryd.underlying24 (by kernel_rfl) (some ⟨w.heap.size, 0, none⟩) A N N n c rfl rfl w.heap.size 0 (us (List.replicate N 0)) 22 g0 (us a) CS.out CP.out ?f1 (us_one a) w.heap.size w bel0 (Nat.le_refl _) ?_)
  case f1 => simp [us_length, hal]; omega
  intro w1 HG1 hb1
  have g1 := HG1.out
  rw [withRow_splice a n N hal hnN] at g1
  have hwl := withRow_len a n N hal hnN
  have hat := fun j => withRow_at a n N j hal
  obtain ⟨l, hl⟩ : ∃ l, l = withRow a n N := ⟨_, rfl⟩
  rw [← hl] at g1 hwl hat
  have HAT := Lib.hid hat
  have hcell : w1.cell? ⟨w.heap.size, i, none⟩ = some (.int .u64 (at_ l i : Int)) := by
    rw [cell_of_row w1 w.heap.size i _ _ _ g1]
    simpa using us_get (at_lt (l := l) (by omega))
  have hfr : w1.frozen? ⟨w.heap.size, i, none⟩ = false := frozen_row0 g1
  have h1 : (i : Int) < (N : Int) := by omega
  have h2 : (0 : Int) ≤ (i : Int) := by omega
  have g2 : (w1.setCell ⟨w.heap.size, i, none⟩ (.int .u64 (x : Int))).heap[w.heap.size]? = some (.cells (us (l.set i x)).toArray 22 (0, 0)) := by
    rw [heapSame g1]
    simp [us, List.map_set]
  have b2 := hb1.setCell (p := ⟨w.heap.size, i, none⟩) (Nat.le_refl _) (.int .u64 (x : Int))
  have s2 : SeesU (w1.setCell ⟨w.heap.size, i, none⟩ (.int .u64 (x : Int))) (some ⟨w.heap.size, 0, none⟩) N (l.set i x) :=
    ⟨by rw [List.length_set]; exact hwl, fun _ => ⟨w.heap.size, 0, rfl, fun j y hy => by
      rw [Nat.zero_add, cell_of_row _ w.heap.size j _ _ _ g2]
      simpa using us_get hy⟩⟩
  have HL := Lib.hid (show l.length = N from hwl)
  generalize at_ l i = y at hcell
  clear HG1 g1 g0 hb1 bel0 s0 hs hal CS CP hat hl g2 hwl
  go_wp2_with fail
  generalize w1.setCell ⟨w.heap.size, i, none⟩ (.int .u64 (x : Int)) = w2 at b2 s2 ⊢
  refine (trim_at (some ⟨w.heap.size, 0, none⟩) N N (l.set i x) w2 s2 (Nat.le_refl _) hN2 (by omega)).mono ?_
  rintro e w3 ⟨R, rc, rfl, own3, hb3⟩
  have hle := trimN_le (l.set i x) N
  have FIN : Hid (GivesO w N (fun j => if j = i then x else at_ a j) (.returned (.slice R (trimN (l.set i x) N) rc)) w3) := Lib.hid (by
    refine ⟨_, _, _, trimL (l.set i x), rfl, ?_, hle, trimL_trimmed _, fun j => ?_, b2.trans (hb3.mono b2.size)⟩
    · unfold trimL
      rw [List.length_set, HL.out]
      exact Own.lower own3 b2.size
    · show at_ (trimL (l.set i x)) j = _
      rw [trimL_at, at_set _ _ _ _ (by rw [HL.out]; exact hiN), HAT.out])
  clear own3 hb3 b2 s2
  go_wp2
  go_ret
  exact FIN.out
theorem with_any (A : Option Addr) (n c : Nat) (a : List Nat) (i x : Nat) (w : World) (hs : SeesU w A n a) (hi : i < 64) (hn : n ≤ 900000) :
    Calls Tryd.prog 24 #[.slice A n c, .int .i64 (i : Int), .int .u64 (x : Int)] w (Gives w (Nat.max n (i + 1)) fun j => if j = i then x else at_ a j) :=
  (with_own A n c a i x w hs hi hn).mono fun e w' ⟨R, k, rc, l, h1, h2, h3, h4, h5, h6⟩ => ⟨R, k, rc, l, h1, SeesU.of_own h2, (Own.cap h2).1, (Own.cap h2).2, h3, h4, h5, h6⟩
end Go.Proofs.YtffhepdhkpldlaaDoor.Vec
