/- Order: the document's example. -/
import Derived.Test.YtlacihgoammjgaaOrdN
namespace Go.Proofs.Ytlacihgoammjgaa.Ord
open Go Go.RowKit Go.Proofs.Ytlacihgoammjgaa.Words Go.Proofs.Ytlacihgoammjgaa.Enc Go.Proofs.Ytlacihgoammjgaa.Evt Go.Proofs.Ytlacihgoammjgaa.Seg
set_option linter.unusedVariables false
set_option linter.unusedSimpArgs false

def exE (wr : Int) (sq tm : Nat) : EvS := ⟨⟨wr, sq, tm, 0, ⟨#[]⟩, [], 0, 0⟩, none, 0, 0⟩
def exA : List EvS := [exE 0 1 1, exE 0 2 3]
def exB : List EvS := [exE 1 1 2]
def exL (b : Nat) : List HV := [⟨some ⟨b, 0, none⟩, 2, exA⟩, ⟨some ⟨b + 1, 0, none⟩, 1, exB⟩]
def exRowA : Array Value := #[.int .i64 0, .int .u64 1, .int .u64 1, .int .u8 0, .string ⟨#[]⟩, .slice none 0 0, .float .f64 0, .int .i64 0, .int .i64 0, .int .u64 2, .int .u64 3, .int .u8 0, .string ⟨#[]⟩, .slice none 0 0, .float .f64 0, .int .i64 0]
def exRowB : Array Value := #[.int .i64 1, .int .u64 1, .int .u64 2, .int .u8 0, .string ⟨#[]⟩, .slice none 0 0, .float .f64 0, .int .i64 0]
def exRowL (b : Nat) : Array Value := #[.slice (some ⟨b, 0, none⟩) 2 2, .slice (some ⟨b + 1, 0, none⟩) 1 1]
def exW (w : World) : World := ((w.alloc (.cells exRowA 34)).alloc (.cells exRowB 34)).alloc (.cells (exRowL w.heap.size) 26)
theorem exW_below (w : World) : Below w.heap.size w (exW w) := (((Below.refl _ _).alloc (Nat.le_refl _) _).alloc (by simp) _).alloc (by simp; omega) _
theorem exW_size (w : World) : (exW w).heap.size = w.heap.size + 3 := by simp [exW]
theorem exW_a (w : World) : (exW w).heap[w.heap.size]? = some (.cells exRowA 34 (0, 0)) := (Below.heap_alloc _ _ _ (by simp; omega)).trans ((Below.heap_alloc _ _ _ (by simp)).trans (heap_alloc_new w _))
theorem exW_b (w : World) : (exW w).heap[w.heap.size + 1]? = some (.cells exRowB 34 (0, 0)) := by
  refine (Below.heap_alloc _ _ _ (by simp)).trans ?_
  have := heap_alloc_new (w.alloc (.cells exRowA 34)) (.cells exRowB 34)
  rwa [World.size_alloc] at this
theorem exW_l (w : World) : (exW w).heap[w.heap.size + 2]? = some (.cells (exRowL w.heap.size) 26 (0, 0)) := by
  have := heap_alloc_new ((w.alloc (.cells exRowA 34)).alloc (.cells exRowB 34)) (.cells (exRowL w.heap.size) 26)
  rwa [World.size_alloc, World.size_alloc] at this
theorem exL_good (w : World) : GoodLists (exW w).heap.size (exW w) (some ⟨w.heap.size + 2, 0, none⟩) (exL w.heap.size) := by
  have hz := exW_size w
  refine ⟨⟨fun _ => ⟨w.heap.size + 2, 0, by omega, rfl, fun k x hx => ?_⟩, fun x hx => ?_⟩, fun x hx => ?_, by simp [exL], by simp [flat, exL, exA, exB], fun r hr => ?_⟩
  · rw [Nat.zero_add, cell_of_row _ _ _ _ _ _ (exW_l w)]
    match k, hx with
    | 0, hx => simp [exL] at hx; subst hx; rfl
    | 1, hx => simp [exL] at hx; subst hx; rfl
    | k + 2, hx => simp [exL] at hx
  · simp only [exL, List.mem_cons, List.not_mem_nil, or_false] at hx
    rcases hx with rfl | rfl
    · refine ⟨⟨by simp [exA], by simp⟩, fun _ => ⟨w.heap.size, 0, by omega, rfl, fun j v hv => ?_⟩⟩
      rw [Nat.zero_add, cell_of_row _ _ _ _ _ _ (exW_a w), show exRowA = (rowsL exA).toArray from rfl, List.getElem?_toArray]
      exact hv
    · refine ⟨⟨by simp [exB], by simp⟩, fun _ => ⟨w.heap.size + 1, 0, by omega, rfl, fun j v hv => ?_⟩⟩
      rw [Nat.zero_add, cell_of_row _ _ _ _ _ _ (exW_b w), show exRowB = (rowsL exB).toArray from rfl, List.getElem?_toArray]
      exact hv
  · simp only [exL, List.mem_cons, List.not_mem_nil, or_false] at hx
    rcases hx with rfl | rfl
    · simp [Rises, exA, evLe, exE]
    · simp [Rises, exB]
  · simp only [flat, exL, exA, exB, List.flatMap_cons, List.flatMap_nil, List.append_nil, List.mem_append, List.mem_cons, List.not_mem_nil, or_false] at hr
    have : ∀ (wr : Int) (sq tm : Nat), TextLow (exW w).heap.size (exW w) (exE wr sq tm) := fun wr sq tm => ⟨⟨rfl, fun h => absurd h (by simp [exE])⟩, by simp [exE], fun h => absurd h (by simp [exE])⟩
    rcases hr with (rfl | rfl) | rfl <;> exact this _ _ _
theorem ex_merged (b : Nat) (r0 : List EvS) (hp : r0.Perm (flat (exL b))) (hr : Rises r0) : r0 = [exE 0 1 1, exE 1 1 2, exE 0 2 3] := by
  have hp2 : r0.Perm [exE 0 1 1, exE 1 1 2, exE 0 2 3] := hp.trans (by
    simp only [flat, exL, exA, exB, List.flatMap_cons, List.flatMap_nil, List.append_nil, List.cons_append, List.nil_append]
    exact List.Perm.cons _ (List.Perm.swap _ _ _))
  refine List.Perm.eq_of_pairwise (le := evLe) (fun a b ha hb h1 h2 => ?_) hr (by simp [evLe, exE]) hp2
  have ha := hp2.mem_iff.1 ha
  simp only [List.mem_cons, List.not_mem_nil, or_false] at ha hb
  rcases ha with rfl | rfl | rfl <;> rcases hb with rfl | rfl | rfl <;> first | rfl | (exfalso; simp [evLe, exE] at h1 h2)

set_option maxRecDepth 100000 in
set_option maxHeartbeats 4000000 in
theorem awake_yes (w : World) : Calls Try.prog 7 #[] w fun e w' => e = .returned (.bool true) ∧ Below w.heap.size w w' := by
  have AL := all_any (some ⟨w.heap.size + 2, 0, none⟩) 2 (exL w.heap.size) (exW w) (exL_good w)
  have AL2 : Calls Try.prog 14 #[.slice (some ⟨w.heap.size + 1 + 1, 0, none⟩) 2 2] (exW w) fun e w' => ∃ g, e = .returned (.slice (some ⟨g, 0, none⟩) 3 3) ∧ w'.cell? ⟨g, 8, none⟩ = some (.int .i64 1) ∧ w'.cell? ⟨g, 18, none⟩ = some (.int .u64 3) ∧ Hid (Below w.heap.size w w') := by
    refine AL.mono ?_
    rintro e w' ⟨g, m, S, r0, rfl, hSl, hrow, hg, hmap, ⟨hp, hr⟩, hb⟩
    have e0 := ex_merged _ r0 hp hr
    rw [e0] at hmap
    have hm3 : m = 3 := by rw [← hSl, ← List.length_map (f := EvS.e), hmap]; rfl
    subst hm3
    match S, hmap with
    | [s1, s2, s3], hmap =>
      simp only [List.map_cons, List.map_nil, List.cons.injEq, and_true] at hmap
      obtain ⟨b, o, hA, hc⟩ := hrow.raw (by simp)
      cases hA
      have c8 := hc 8 (.int .i64 s2.e.writer) rfl
      have c18 := hc 18 (.int .u64 (s3.e.time : Int)) rfl
      rw [hmap.2.1] at c8
      rw [hmap.2.2] at c18
      refine ⟨g, rfl, by simpa [exE] using c8, by simpa [exE] using c18, Lib.hid ((exW_below w).trans (hb.mono (by rw [exW_size]; omega)))⟩
  clear AL
  have HW : Hid (exW w = ((w.alloc (.cells exRowA 34)).alloc (.cells exRowB 34)).alloc (.cells (exRowL w.heap.size) 26)) := Lib.hid rfl
  unfold exRowA exRowB exRowL at HW
  generalize exW w = u at *
  go_enter Try.func7, Try.ntmps7
  go_wp2_with fail
  rw [← HW.out]
  refine AL2.mono ?_
  rintro e w' ⟨g, rfl, c8, c18, HB⟩
  clear HW AL2
  go_wp2
  go_ret
  exact ⟨rfl, HB.out⟩
end Go.Proofs.Ytlacihgoammjgaa.Ord
