/- Order: an event with a text of its own; events made in a row. -/
import Derived.Test.YtlacihgoammjgaaOrdA
import Derived.Test.YtlacihgoammjgaaBCheck
import Derived.Deep.MidRow
namespace Go.Proofs.Ytlacihgoammjgaa.Ord
open Go Go.RowKit Go.Proofs.Ytlacihgoammjgaa.Words Go.Proofs.Ytlacihgoammjgaa.Enc Go.Proofs.Ytlacihgoammjgaa.Evt Go.Proofs.Ytlacihgoammjgaa.Seg
set_option linter.unusedVariables false
set_option linter.unusedSimpArgs false

theorem clipB (A : Option Addr) (n c : Nat) (w : World) (hc : n ≤ c) :
    Calls Try.prog 42 #[.slice A n c] w fun e w' => e = .returned (.slice A n n) ∧ w' = w := by
  go_enter Try.func42, Try.ntmps42
  go_wp2
  go_ret
  exact ⟨rfl, rfl⟩

/-- An event like r, with a text in memory of its own. -/
def OwnGives (r : EvS) (w : World) (e : Ending) (w' : World) : Prop :=
  ∃ r' : EvS, e = .returned (r'.e.val r'.A r'.n r'.c) ∧ r'.e = r.e ∧ Sees w' r'.A r'.n r.e.text ∧ r'.n ≤ r'.c ∧ r'.c ≤ 9223372036854775807 ∧ (0 < r'.n → ∀ a, r'.A = some a → w.heap.size ≤ a.block) ∧ Below w.heap.size w w'

set_option maxRecDepth 100000 in
set_option maxHeartbeats 4000000 in
theorem own_any (r : EvS) (w : World) (hs : Sees w r.A r.n r.e.text) (hn : r.n ≤ 1000000000) :
    Calls Try.prog 27 #[r.e.val r.A r.n r.c] w (OwnGives r w) := by
  have hsf := store_float Try.prog
  obtain ⟨u, hu⟩ : ∃ u, u = (w.alloc (.cells r.cells.toArray 34)).alloc (.cells #[.int .i64 0, .int .u64 0, .int .u64 0, .int .u8 0, .string ⟨#[]⟩, .slice none 0 0, .float .f64 0, .int .i64 0] 34) := ⟨_, rfl⟩
  have hb1 : Below w.heap.size w u := by rw [hu]; exact ((Below.refl _ _).alloc (Nat.le_refl _) _).alloc (by simp) _
  have g1 : u.heap[w.heap.size]? = some (.cells r.cells.toArray 34 (0, 0)) := by rw [hu]; exact (Below.heap_alloc _ _ _ (by simp)).trans (heap_alloc_new w _)
  have g2 : u.heap[w.heap.size + 1]? = some (.cells #[.int .i64 0, .int .u64 0, .int .u64 0, .int .u8 0, .string ⟨#[]⟩, .slice none 0 0, .float .f64 0, .int .i64 0] 34 (0, 0)) := by
    have := heap_alloc_new (w.alloc (.cells r.cells.toArray 34)) (.cells #[.int .i64 0, .int .u64 0, .int .u64 0, .int .u8 0, .string ⟨#[]⟩, .slice none 0 0, .float .f64 0, .int .i64 0] 34)
    rw [hu]
    rwa [World.size_alloc] at this
  have hz : u.heap.size = w.heap.size + 2 := by rw [hu]; simp
  have hcl := Dsk.clone_bytes r.A r.n r.c r.e.text u (hs.below hb1) (by omega)
  obtain ⟨c0, c1, c2, c3, c4, c5, c6, c7⟩ := cells8 g1
  have HG := Lib.hid (And.intro g1 (And.intro g2 (And.intro hz hb1)))
  unfold EvS.cells at hu
  have HU := Lib.hid hu
  have HCL := Lib.hid hcl
  clear hu hb1 g1 g2 hz hcl
  unfold Ev.val
  go_enter Try.func27, Try.ntmps27
  go_upto_region 1 with fail
  rw [← HU.out]
  go_wp2_with fail
  refine HCL.out.mono ?_
  rintro e w1 ⟨A', c', rfl, hown, hb⟩
  obtain ⟨hg1, hg2, hz, hb1⟩ := HG.out
  have hnc := (own_cap8 hown).1
  have k1 := (hb.block w.heap.size (by omega)).trans hg1
  have k2 := (hb.block (w.heap.size + 1) (by omega)).trans hg2
  obtain ⟨m0, m1, m2, m3, m4, m5, m6, m7⟩ := cells8 k1
  have hf5 : w1.frozen? ⟨w.heap.size, 5, none⟩ = false := frozen_row0 k1
  have b1 : Below w.heap.size w w1 := hb1.trans (hb.mono (by omega))
  have ne1 : ¬ w.heap.size = w.heap.size + 1 := by omega
  have SEEN : Sees w1 A' r.n r.e.text := Sees.of_own hown
  have FR : 0 < r.n → ∀ a, A' = some a → w.heap.size + 2 ≤ a.block := fun h0 a ha => by
    obtain ⟨g, hg, hb⟩ := own_at8 hown h0
    rw [hg] at ha; cases ha
    show w.heap.size + 2 ≤ g
    omega
  have k3 : ∀ v, (w1.setCell ⟨w.heap.size, 5, none⟩ v).heap[w.heap.size + 1]? = some (.cells #[.int .i64 0, .int .u64 0, .int .u64 0, .int .u8 0, .string ⟨#[]⟩, .slice none 0 0, .float .f64 0, .int .i64 0] 34 (0, 0)) := fun v => (heapOther (by omega)).trans k2
  have HF := Lib.hid (And.intro SEEN (And.intro FR (And.intro b1 k3)))
  clear hg1 hg2 hz hb1 hown hb k1 k2 b1 SEEN FR k3
  go_wp2_with fail
  refine (clipB A' r.n c' w1 hnc).mono ?_
  rintro e w2 ⟨rfl, rfl⟩
  go_wp2_with (first
    | (refine wpList_putRow rfl 34 (.tmp 2) (.tmp 8) rfl (w.heap.size + 1) 34 #[.int .i64 0, .int .u64 0, .int .u64 0, .int .u8 0, .string ⟨#[]⟩, .slice none 0 0, .float .f64 0, .int .i64 0] (r.e.row A' r.n r.n) rfl rfl ?g2 (by kernel_rfl) rfl (by simp [Ev.row, Value.oneCell']) ?_))
  case g2 => exact HF.out.2.2.2 _
  intro W5 hW5 hbe5
  unfold Ev.row at hW5
  obtain ⟨q0, q1, q2, q3, q4, q5, q6, q7⟩ := box8 hW5
  obtain ⟨SEEN, FR, b1, _⟩ := HF.out
  have OG : OwnGives r w (.returned (r.e.val A' r.n r.n)) W5 := by
    have hcap : r.n ≤ 9223372036854775807 := by omega
    refine ⟨⟨r.e, A', r.n, r.n⟩, rfl, rfl, ?_, Nat.le_refl _, hcap, fun h0 a ha => by have := FR h0 a ha; omega, ?_⟩
    · refine (SEEN.beside (S := [w.heap.size, w.heap.size + 1]) (((Beside.refl _ _).setCell (p := ⟨w.heap.size, 5, none⟩) (by simp) _).trans hbe5 fun x hx => .inl (by simp at hx; simp [hx])) fun h0 a ha => ?_)
      have := FR h0 a ha
      simp
      omega
    · exact Below.beside (b1.setCell (p := ⟨w.heap.size, 5, none⟩) (Nat.le_refl _) _) hbe5 (by have := b1.size; simp; omega) (by simp)
  have HOG := Lib.hid OG
  clear OG SEEN FR b1 hW5 hbe5
  go_wp2
  refine bodyPost_ret (v := r.e.val A' r.n r.n) ?_ rfl HOG.out
  simp [results, Ev.val, Try.results27, go_sem, q0, q1, q2, q3, q4, q5, q6, q7]
end Go.Proofs.Ytlacihgoammjgaa.Ord
