/- Layer 15: At and Cell; what a view tells. Package fold: the mask of a set. The document's mask of a row of flags. The document's SameV, of vectors that are alike. A text's bytes, by a conversion. -/
import Derived.Lib.ConvBytes
import Derived.Test.YtmogoopkjkdkgaaGreatVTp11
import Derived.Test.YtmogoopkjkdkgaaGreatVTp12
import Derived.Test.YtmogoopkjkdkgaaGreatVTp15
import Derived.Test.YtmogoopkjkdkgaaGreatVTp19
import Derived.Test.YtmogoopkjkdkgaaGreatVTp21
import Derived.Test.YtmogoopkjkdkgaaGreatVTp23
namespace Go.Proofs.YtmogoopkjkdkgaaGreat.Vw
open Go Go.RowKit Go.Proofs.YtmogoopkjkdkgaaGreat.Words Go.Proofs.YtmogoopkjkdkgaaGreat.Enc Go.Proofs.YtmogoopkjkdkgaaGreat.Q Go.Proofs.YtmogoopkjkdkgaaGreat.Evt Go.Proofs.YtmogoopkjkdkgaaGreat.Seg Go.Proofs.YtmogoopkjkdkgaaGreat.Fol Go.Proofs.YtmogoopkjkdkgaaGreat.Ord
set_option linter.unusedVariables false
set_option linter.unusedSimpArgs false

theorem narrow {w : World} {S : List Nat} {d mb : Nat} {F : Fo} (h : FoldAt w S d mb F) : FoldAt w [d, mb] d mb F := by
  obtain ⟨L, h1, h2, h3⟩ := h.map
  exact ⟨h.row, ⟨L, h1, h2, fun p hp => ⟨(h3 p hp).sees, (h3 p hp).cap, fun hn a ha hx => (h3 p hp).out hn a ha (by simp at hx; rcases hx with e | e <;> rw [e]; exact h.dS; exact h.mS)⟩⟩, h.ok, h.ne, by simp, by simp⟩
section
variable {w : World} {vb b0 st : Nat} {F0 F : Fo} {A : Option Addr} {c : Nat} {R : List EvS}
set_option maxRecDepth 100000 in
set_option maxHeartbeats 4000000 in
theorem vat_any (h : ViewAt w vb b0 st F0 F A c R) {i : Nat} {r : EvS} (hr : R[i]? = some r) :
    Calls Tryz.prog 28 #[.pointer (some ⟨vb, 0, none⟩), .int .i64 (i : Int)] w fun e w' => ∃ A' m c', e = .returned (.tuple #[r.e.val A' m c', .bool true]) ∧ Sees w' A' m r.e.text ∧ Below w.heap.size w w' := by
  have hsf := store_float Tryz.prog
  have hi : i < R.length := (List.getElem?_eq_some_iff.1 hr).1
  have hrm := List.mem_of_getElem? hr
  obtain ⟨u, hu⟩ : ∃ u, u = w.alloc (.cells #[.int .i64 0, .int .u64 0, .int .u64 0, .int .u8 0, .string ⟨#[]⟩, .slice none 0 0, .float .f64 0, .int .i64 0] 32) := ⟨_, rfl⟩
  have hb1 : Below w.heap.size w u := by rw [hu]; exact (Below.refl _ _).alloc (Nat.le_refl _) _
  have g0 : u.heap[w.heap.size]? = some (.cells #[.int .i64 0, .int .u64 0, .int .u64 0, .int .u8 0, .string ⟨#[]⟩, .slice none 0 0, .float .f64 0, .int .i64 0] 32 (0, 0)) := by rw [hu]; exact heap_alloc_new w _
  obtain ⟨B, hB⟩ : ∃ B, B = w.heap.size := ⟨_, rfl⟩
  rw [← hB] at g0
  have hvu := h.below hb1
  have LEN := Lib.hid (vlen_any hvu)
  obtain ⟨-, c1, -⟩ := hvu.cells
  obtain ⟨b, o, rfl, q0, q1, q2, q3, q4, q5, q6, q7⟩ := RawEv.at_ hvu.raw hr
  have htx := hvu.text r hrm
  have hsm := hvu.small r hrm
  rw [show 8 * i = i * 8 by omega] at q0 q1 q2 q3 q4 q5 q6 q7
  obtain ⟨⟨ew, sq, et, kd, key, text, num, node⟩, rA, rn, rc⟩ := r
  simp only [] at q0 q1 q2 q3 q4 q5 q6 q7 htx hsm ⊢
  obtain ⟨N, hN⟩ : ∃ N, N = R.length := ⟨_, rfl⟩
  rw [← hN] at LEN c1 hi
  have hiN : (i : Int) < (N : Int) := by omega
  have hN2 : (N : Int) ≤ 1000 := by have := h.few; omega
  obtain ⟨eb, heb⟩ : ∃ b, b = u.heap.size := ⟨_, rfl⟩
  have HEB := Lib.hid heb
  have HU := Lib.hid hu
  have HB := Lib.hid hB
  have HB1 := Lib.hid hb1
  have HG0 := Lib.hid g0
  have HTX := Lib.hid (And.intro htx hsm)
  have BX := Lib.hid (boxE #[.int .i64 0, .int .u64 0, .int .u64 0, .int .u8 0, .string ⟨#[]⟩, .slice none 0 0, .float .f64 0, .int .i64 0] u)
  clear h hvu hrm hr hb1 g0 htx hsm hN hi heb hu hB
  unfold Ev.val
  go_enter Tryz.func28, Tryz.ntmps28
  go_upto_region 1 with fail
  rw [← HU.out, ← HB.out]
  go_wp2_with fail
  refine LEN.out.mono ?_
  rintro e w2 ⟨rfl, rfl⟩
  go_wp2_with (first | (refine wpList_putRow rfl 32 (.tmp 6) (.tmp 22) rfl w2.heap.size 32 #[.int .i64 0, .int .u64 0, .int .u64 0, .int .u8 0, .string ⟨#[]⟩, .slice none 0 0, .float .f64 0, .int .i64 0] #[.int .i64 ew, .int .u64 (sq : Int), .int .u64 (et : Int), .int .u8 (kd : Int), .string key, .slice rA rn rc, .float .f64 num, .int .i64 node] rfl rfl ?g1 (by kernel_rfl) rfl (by simp [Value.oneCell']) ?_))
  case g1 => first | exact BX.out | exact (Array.getElem?_eq_some_iff.1 BX.out).2
  intro W3 hW3 hbe3
  rw [← HEB.out] at hW3 hbe3 ⊢
  have hBw : B < w2.heap.size := (Array.getElem?_eq_some_iff.1 HG0.out).1
  have hb3 : Below w2.heap.size w2 W3 := Below.beside ((Below.refl _ _).alloc (Nat.le_refl _) _) hbe3 (by simp) (fun x hx => by simp at hx; have := HEB.out; omega)
  have CL := Lib.hid (Dsk.clone_bytes rA rn rc text W3 (HTX.out.1.below hb3) (by have := HTX.out.2; omega))
  have p5 : W3.cell? ⟨eb, 5, none⟩ = some (.slice rA rn rc) := by rw [cell_of_row W3 eb 5 _ _ _ hW3]; rfl
  have HW3 := Lib.hid hW3
  have HB3 := Lib.hid hb3
  have HBW := Lib.hid hBw
  clear hW3 hbe3 hb3 hBw q0 q1 q2 q3 q4 q5 q6 q7 c1
  go_wp2_with fail
  refine CL.out.mono ?_
  rintro e w4 ⟨A', c', rfl, hown, hb4⟩
  have hnc := (own_cap8 hown).1
  have hz3 := HB3.out.size
  have hebl : eb < W3.heap.size := (Array.getElem?_eq_some_iff.1 HW3.out).1
  have k1 := (hb4.block eb hebl).trans HW3.out
  have k0 := (hb4.block B (by have := HBW.out; omega)).trans ((HB3.out.block B HBW.out).trans HG0.out)
  obtain ⟨m0, m1, m2, m3, m4, m5, m6, m7⟩ := box8 k1
  have hf5 : w4.frozen? ⟨eb, 5, none⟩ = false := frozen_row0 k1
  have hne : eb ≠ B := by have := HEB.out; have := HBW.out; omega
  have ne1 : ¬ eb = B := hne
  have k3 : ∀ v, (w4.setCell ⟨eb, 5, none⟩ v).heap[B]? = some (.cells #[.int .i64 0, .int .u64 0, .int .u64 0, .int .u8 0, .string ⟨#[]⟩, .slice none 0 0, .float .f64 0, .int .i64 0] 32 (0, 0)) := fun v => (heapOther (by omega)).trans k0
  have b4 : Below w.heap.size w w4 := HB1.out.trans ((HB3.out.trans (hb4.mono HB3.out.size)).mono HB1.out.size)
  have SEEN : Sees w4 A' rn text := Sees.of_own hown
  have FR : 0 < rn → ∀ a, A' = some a → W3.heap.size ≤ a.block := fun h0 a ha => by
    obtain ⟨g, hg, hb⟩ := own_at8 hown h0
    rw [hg] at ha; cases ha
    exact hb
  have HF := Lib.hid (And.intro SEEN (And.intro FR (And.intro b4 (And.intro k3 hebl))))
  clear hown hb4 k1 k0 k3 b4 SEEN FR hz3 hebl p5 hne
  go_wp2_with fail
  refine (clipB A' rn c' w4 hnc).mono ?_
  rintro e w5 ⟨rfl, rfl⟩
  go_wp2_with (first | (refine wpList_putRow rfl 32 (.tmp 4) (.tmp 28) rfl B 32 #[.int .i64 0, .int .u64 0, .int .u64 0, .int .u8 0, .string ⟨#[]⟩, .slice none 0 0, .float .f64 0, .int .i64 0] #[.int .i64 ew, .int .u64 (sq : Int), .int .u64 (et : Int), .int .u8 (kd : Int), .string key, .slice A' rn rn, .float .f64 num, .int .i64 node] rfl rfl ?g2 (by kernel_rfl) rfl (by simp [Value.oneCell']) ?_))
  case g2 => exact HF.out.2.2.2.1 _
  intro W5 hW5 hbe5
  obtain ⟨q0, q1, q2, q3, q4, q5, q6, q7⟩ := box8 hW5
  obtain ⟨SEEN, FR, b4, _, hebl⟩ := HF.out
  have hB := HB.out
  have heb := HEB.out
  have hbw := HBW.out
  have hsz := HB1.out.size
  have OG : Sees W5 A' rn text ∧ Below w.heap.size w W5 := by
    refine ⟨SEEN.beside (S := [B, eb]) (((Beside.refl _ _).setCell (p := ⟨eb, 5, none⟩) (by simp) _).trans hbe5 fun x hx => .inl (by simp at hx; simp [hx])) (fun h0 a ha => ?_), ?_⟩
    · have := FR h0 a ha
      have := HB3.out.size
      simp
      omega
    · exact Below.beside (b4.setCell (p := ⟨eb, 5, none⟩) (by show w.heap.size ≤ eb; omega) _) hbe5 (by have := b4.size; simp; omega) (fun x hx => by simp at hx; omega)
  have HOG := Lib.hid OG
  clear OG SEEN FR b4 hW5 hbe5
  go_wp2
  refine bodyPost_ret (v := .tuple #[.agg #[.int .i64 ew, .int .u64 (sq : Int), .int .u64 (et : Int), .int .u8 (kd : Int), .string key, .slice A' rn rn, .float .f64 num, .int .i64 node], .bool true]) ?_ rfl ⟨A', rn, rn, rfl, HOG.out.1, HOG.out.2⟩
  simp [results, Tryz.results28, go_sem, q0, q1, q2, q3, q4, q5, q6, q7]
set_option maxRecDepth 100000 in
set_option maxHeartbeats 4000000 in
theorem vat_no (h : ViewAt w vb b0 st F0 F A c R) (i : Int) (hi : i = -1 ∨ i = (R.length : Int)) :
    Calls Tryz.prog 28 #[.pointer (some ⟨vb, 0, none⟩), .int .i64 i] w fun e w' => e = .returned (.tuple #[.agg #[.int .i64 0, .int .u64 0, .int .u64 0, .int .u8 0, .string ⟨#[]⟩, .slice none 0 0, .float .f64 0, .int .i64 0], .bool false]) ∧ Below w.heap.size w w' := by
  have hsf := store_float Tryz.prog
  obtain ⟨u, hu⟩ : ∃ u, u = w.alloc (.cells #[.int .i64 0, .int .u64 0, .int .u64 0, .int .u8 0, .string ⟨#[]⟩, .slice none 0 0, .float .f64 0, .int .i64 0] 32) := ⟨_, rfl⟩
  have hb1 : Below w.heap.size w u := by rw [hu]; exact (Below.refl _ _).alloc (Nat.le_refl _) _
  have g0 : u.heap[w.heap.size]? = some (.cells #[.int .i64 0, .int .u64 0, .int .u64 0, .int .u8 0, .string ⟨#[]⟩, .slice none 0 0, .float .f64 0, .int .i64 0] 32 (0, 0)) := by rw [hu]; exact heap_alloc_new w _
  obtain ⟨B, hB⟩ : ∃ B, B = w.heap.size := ⟨_, rfl⟩
  rw [← hB] at g0
  have LEN := Lib.hid (vlen_any (h.below hb1))
  have hN2 : (R.length : Int) ≤ 1000 := by have := h.few; omega
  have HU := Lib.hid hu
  have HB := Lib.hid hB
  have HB1 := Lib.hid hb1
  have HG0 := Lib.hid g0
  clear h hb1 g0 hu hB
  rcases hi with rfl | rfl
  · go_enter Tryz.func28, Tryz.ntmps28
    go_upto_region 1 with fail
    rw [← HU.out, ← HB.out]
    go_wp2_with (first | (refine wpList_putRow rfl 32 (.tmp 4) (.tmp 15) rfl B 32 #[.int .i64 0, .int .u64 0, .int .u64 0, .int .u8 0, .string ⟨#[]⟩, .slice none 0 0, .float .f64 0, .int .i64 0] #[.int .i64 0, .int .u64 0, .int .u64 0, .int .u8 0, .string ⟨#[]⟩, .slice none 0 0, .float .f64 0, .int .i64 0] rfl rfl ?g2 (by kernel_rfl) rfl (by simp [Value.oneCell']) ?_))
    case g2 => exact HG0.out
    intro W5 hW5 hbe5
    obtain ⟨q0, q1, q2, q3, q4, q5, q6, q7⟩ := box8 hW5
    have HOG := Lib.hid (Below.beside HB1.out hbe5 HB1.out.size (fun x hx => by simp at hx; have := HB.out; omega))
    clear hW5 hbe5
    go_wp2
    refine bodyPost_ret (v := .tuple #[.agg #[.int .i64 0, .int .u64 0, .int .u64 0, .int .u8 0, .string ⟨#[]⟩, .slice none 0 0, .float .f64 0, .int .i64 0], .bool false]) ?_ rfl ⟨rfl, HOG.out⟩
    simp [results, Tryz.results28, go_sem, q0, q1, q2, q3, q4, q5, q6, q7]
  · obtain ⟨N, hN⟩ : ∃ N, N = R.length := ⟨_, rfl⟩
    rw [← hN] at LEN hN2 ⊢
    clear hN
    go_enter Tryz.func28, Tryz.ntmps28
    go_upto_region 1 with fail
    rw [← HU.out, ← HB.out]
    go_wp2_with fail
    refine LEN.out.mono ?_
    rintro e w2 ⟨rfl, rfl⟩
    go_wp2_with (first | (refine wpList_putRow rfl 32 (.tmp 4) (.tmp 15) rfl B 32 #[.int .i64 0, .int .u64 0, .int .u64 0, .int .u8 0, .string ⟨#[]⟩, .slice none 0 0, .float .f64 0, .int .i64 0] #[.int .i64 0, .int .u64 0, .int .u64 0, .int .u8 0, .string ⟨#[]⟩, .slice none 0 0, .float .f64 0, .int .i64 0] rfl rfl ?g2 (by kernel_rfl) rfl (by simp [Value.oneCell']) ?_))
    case g2 => exact HG0.out
    intro W5 hW5 hbe5
    obtain ⟨q0, q1, q2, q3, q4, q5, q6, q7⟩ := box8 hW5
    have HOG := Lib.hid (Below.beside HB1.out hbe5 HB1.out.size (fun x hx => by simp at hx; have := HB.out; omega))
    clear hW5 hbe5
    go_wp2
    refine bodyPost_ret (v := .tuple #[.agg #[.int .i64 0, .int .u64 0, .int .u64 0, .int .u8 0, .string ⟨#[]⟩, .slice none 0 0, .float .f64 0, .int .i64 0], .bool false]) ?_ rfl ⟨rfl, HOG.out⟩
    simp [results, Tryz.results28, go_sem, q0, q1, q2, q3, q4, q5, q6, q7]
set_option maxRecDepth 100000 in
set_option maxHeartbeats 1000000 in
/-- Fold's Cell, of a key that has something: the text is new. -/
theorem fcell_new (k : ByteArray) (C : Cel) (S : List Nat) (d mb : Nat) (F : Fo) (w : World) (h : FoldAt w S d mb F) (hk : k.size ≤ 100000) (hl : lk k.data.toList F.L = some C) :
    Calls Tryz.prog 61 #[.pointer (some ⟨d, 0, none⟩), .string k] w fun e w' => Below w.heap.size w w' ∧ ∃ A n cap, e = .returned (.tuple #[.agg #[.int .u8 (C.kind : Int), .slice A n cap, .float .f64 C.num], .bool true]) ∧ Sees w' A n C.text ∧ (0 < n → ∀ a, A = some a → w.heap.size ≤ a.block) := by
  have hsf := store_float Tryz.prog
  obtain ⟨L, hm, hL, ht⟩ := h.map
  have hlk : lk k.data.toList F.L = (lk k.data.toList L).map MC.cel := by rw [← hL, mapV_lk]
  have a0 : ∀ o, (w.alloc o).cell? ⟨d, 0, none⟩ = some (.map (some mb)) := fun o => (h.below ((Below.refl _ _).alloc (Nat.le_refl _) o)).c0
  have hrun : ∀ o, (Instr.lookup 78 (.map (some mb)) (.string k) true).run Tryz.prog (w.alloc o) = _ := fun o => (hm.kept (Below.heap_alloc _ _ _ hm.lt)).run_look_ok hk
  rw [hlk] at hl
  obtain ⟨m, hc, rfl⟩ := Option.map_eq_some_iff.1 hl
  rw [hc] at hrun
  have htx := ht _ (lk_some_mem hc)
  have hlen := (h.ok.cel (k.data.toList, m.cel) (by rw [← hL]; exact List.mem_map.2 ⟨_, lk_some_mem hc, rfl⟩)).2.1
  obtain ⟨kd, A, c, tx, nu⟩ := m
  have CL := Lib.hid (fun W (hb : Below w.heap.size w W) => Dsk.clone_bytes A tx.length c tx W (htx.sees.below hb) (by have : tx.length ≤ 1048576 := hlen; omega))
  have BX := Lib.hid (boxes2 #[.int .u8 0, .slice none 0 0, .float .f64 0] #[.int .u8 (kd : Int), .slice A tx.length c, .float .f64 nu] 69 w)
  simp only [valAt, MC.val, MC.cel, Option.isSome_some, Option.map_some] at hrun ⊢
  have N := Lib.hid (rfl : tx.length = tx.length)
  obtain ⟨n, hn⟩ : ∃ n, tx.length = n := ⟨_, rfl⟩
  rw [hn] at hrun CL BX
  have HN := Lib.hid hn
  clear h hm ht hL hlk htx hlen hc N hn
  go_enter Tryz.func61, Tryz.ntmps61
  go_wp2_with fail
  refine (CL.out _ (((Below.refl _ _).alloc (Nat.le_refl _) _).alloc (by simp) _)).mono ?_
  rintro e w1 ⟨A', c', rfl, hown, hb1⟩
  obtain ⟨hb, g0, g1, hz⟩ := BX.out w1 (by simpa using hb1)
  have p0 : w1.cell? ⟨w.heap.size, 0, none⟩ = some (.int .u8 0) := by rw [cell_of_row w1 _ _ _ _ _ g0]; rfl
  have p1 : w1.cell? ⟨w.heap.size, 1, none⟩ = some (.slice none 0 0) := by rw [cell_of_row w1 _ _ _ _ _ g0]; rfl
  have p2 : w1.cell? ⟨w.heap.size, 2, none⟩ = some (.float .f64 0) := by rw [cell_of_row w1 _ _ _ _ _ g0]; rfl
  have q0 : w1.cell? ⟨w.heap.size + 1, 0, none⟩ = some (.int .u8 (kd : Int)) := by rw [cell_of_row w1 _ _ _ _ _ g1]; rfl
  have q1 : w1.cell? ⟨w.heap.size + 1, 1, none⟩ = some (.slice A n c) := by rw [cell_of_row w1 _ _ _ _ _ g1]; rfl
  have q2 : w1.cell? ⟨w.heap.size + 1, 2, none⟩ = some (.float .f64 nu) := by rw [cell_of_row w1 _ _ _ _ _ g1]; rfl
  have y0 : w1.frozen? ⟨w.heap.size, 0, none⟩ = false := frozen_row0 g0
  have y1 : w1.frozen? ⟨w.heap.size, 1, none⟩ = false := frozen_row0 g0
  have y2 : w1.frozen? ⟨w.heap.size, 2, none⟩ = false := frozen_row0 g0
  have y3 : w1.frozen? ⟨w.heap.size + 1, 1, none⟩ = false := frozen_row0 g1
  have OWN := Lib.hid hown
  have HB := Lib.hid hb
  clear hown hb1 hb g0 g1 hrun a0
  go_wp2
  refine bodyPost_ret (v := .tuple #[.agg #[.int .u8 (kd : Int), .slice A' n c', .float .f64 nu], .bool true]) (by simp [results, Tryz.results61, go_sem, p0, p1, p2]) rfl ⟨?_, A', n, c', rfl, ?_⟩
  · exact Below.beside HB.out (((((Beside.refl [w.heap.size, w.heap.size + 1] _).setCell (by simp) _).setCell (by simp) _).setCell (by simp) _).setCell (by simp) _) HB.out.size (by simp)
  · refine ⟨?_, fun h0 a ha => ?_⟩
    · have hs := Sees.of_own OWN.out
      refine hs.beside (((((Beside.refl [w.heap.size, w.heap.size + 1] _).setCell (by simp) _).setCell (by simp) _).setCell (by simp) _).setCell (by simp) _) (Out.of_own OWN.out ?_)
      simp
      omega
    · obtain ⟨g, hg, hb⟩ := own_at8 OWN.out h0
      rw [hg] at ha; cases ha
      simp at hb
      show w.heap.size ≤ g
      omega
set_option maxRecDepth 100000 in
set_option maxHeartbeats 4000000 in
theorem vcell_any (h : ViewAt w vb b0 st F0 F A c R) (k : ByteArray) (C : Cel) (hk : k.size ≤ 100000) (hl : lk k.data.toList F.L = some C) :
    Calls Tryz.prog 27 #[.pointer (some ⟨vb, 0, none⟩), .string k] w fun e w' => ∃ A n cap, e = .returned (.tuple #[.agg #[.int .u8 (C.kind : Int), .slice A n cap, .float .f64 C.num], .bool true]) ∧ Sees w' A n C.text ∧ Below w.heap.size w w' := by
  have hsf := store_float Tryz.prog
  obtain ⟨u, hu⟩ : ∃ u, u = w.alloc (.cells #[.int .u8 0, .slice none 0 0, .float .f64 0] 69) := ⟨_, rfl⟩
  have hb1 : Below w.heap.size w u := by rw [hu]; exact (Below.refl _ _).alloc (Nat.le_refl _) _
  have g0 : u.heap[w.heap.size]? = some (.cells #[.int .u8 0, .slice none 0 0, .float .f64 0] 69 (0, 0)) := by rw [hu]; exact heap_alloc_new w _
  obtain ⟨B, hB⟩ : ∃ B, B = w.heap.size := ⟨_, rfl⟩
  rw [← hB] at g0
  have hvu := h.below hb1
  have EN := Lib.hid (end_any hvu)
  obtain ⟨S, mb, hs⟩ := hvu.state
  have CE := Lib.hid (fcell_new k C S st mb F u hs hk hl)
  have HU := Lib.hid hu
  have HB := Lib.hid hB
  have HB1 := Lib.hid hb1
  have HG0 := Lib.hid g0
  have HL := Lib.hid hl
  have HBL := Lib.hid (Array.getElem?_eq_some_iff.1 g0).1
  clear h hb1 g0 hu hB hs hvu hl
  go_enter Tryz.func27, Tryz.ntmps27
  go_upto_region 1 with fail
  rw [← HU.out, ← HB.out]
  go_wp2_with fail
  refine EN.out.mono ?_
  rintro e w2 ⟨rfl, rfl⟩
  go_wp2_with fail
  refine CE.out.mono ?_
  rintro e w3 ⟨hb3, A', n', cap, rfl, hse, hnw⟩
  have g3 := (hb3.block B HBL.out).trans HG0.out
  have HG3 := Lib.hid g3
  have HB3 := Lib.hid (And.intro (HB1.out.trans (hb3.mono HB1.out.size)) (And.intro hse hnw))
  obtain ⟨kd, hkd⟩ : ∃ kd, kd = C.kind := ⟨_, rfl⟩
  obtain ⟨nm, hnm⟩ : ∃ kd, kd = C.num := ⟨_, rfl⟩
  rw [← hkd, ← hnm]
  have HKD := Lib.hid (And.intro hkd hnm)
  clear g3 hb3 hse hnw hkd hnm
  go_wp2_with (first | (refine wpList_putRow rfl 69 (.tmp 4) (.tmp 10) rfl B 69 #[.int .u8 0, .slice none 0 0, .float .f64 0] #[.int .u8 (kd : Int), .slice A' n' cap, .float .f64 nm] rfl rfl ?g2 (by kernel_rfl) rfl (by simp [Value.oneCell']) ?_))
  case g2 => exact HG3.out
  intro W5 hW5 hbe5
  have q0 : W5.cell? ⟨B, 0, none⟩ = some (.int .u8 (kd : Int)) := by rw [cell_of_row W5 B _ _ _ _ hW5]; rfl
  have q1 : W5.cell? ⟨B, 1, none⟩ = some (.slice A' n' cap) := by rw [cell_of_row W5 B _ _ _ _ hW5]; rfl
  have q2 : W5.cell? ⟨B, 2, none⟩ = some (.float .f64 nm) := by rw [cell_of_row W5 B _ _ _ _ hW5]; rfl
  have OG : Sees W5 A' n' C.text ∧ Below w.heap.size w W5 := by
    obtain ⟨h1, h2, h3⟩ := HB3.out
    refine ⟨h2.beside hbe5 (fun h0 a ha => ?_), Below.beside h1 hbe5 h1.size (fun x hx => by simp at hx; have := HB.out; omega)⟩
    have := h3 h0 a ha
    have := HBL.out
    simp
    omega
  have HOG := Lib.hid OG
  clear OG hW5 hbe5
  go_wp2
  refine bodyPost_ret (v := .tuple #[.agg #[.int .u8 (kd : Int), .slice A' n' cap, .float .f64 nm], .bool true]) ?_ rfl ⟨A', n', cap, by rw [HKD.out.1, HKD.out.2], HOG.out.1, HOG.out.2⟩
  simp [results, Tryz.results27, go_sem, q0, q1, q2]
/-- What the law's told asks of a view. -/
theorem tells_of (h : ViewAt w vb b0 st F0 F A c R) {Q : List EvS} {n : Nat} (hn : n ≤ Q.length) (he : R.map EvS.e = (Q.drop n).map EvS.e) (hf : F.L.length ≤ 1000000) : Tells w vb Q n F := by
  have hl : R.length = Q.length - n := by have := congrArg List.length he; rw [List.length_map, List.length_map, List.length_drop] at this; exact this
  refine ⟨fun W hW => ?_, fun W hW => ?_, fun W hW => ?_, fun W hW => vhave_any (h.below hW), fun W hW => vkeys_any (h.below hW) hf, fun W hW k C hk hl => vcell_any (h.below hW) k C hk hl, fun W hW i r hr => ?_, fun W hW i hi => vat_no (h.below hW) i (by rw [hl]; exact hi)⟩
  · refine (vlen_any (h.below hW)).mono ?_
    rintro e w' ⟨rfl, rfl⟩
    exact ⟨by rw [hl], Below.refl _ _⟩
  · refine (vmark_any (h.below hW)).mono ?_
    rintro e w' ⟨rfl, rfl⟩
    exact ⟨rfl, Below.refl _ _⟩
  · refine (vfold_any (h.below hW)).mono ?_
    rintro e w' ⟨S, d, mb, rfl, h1, h2⟩
    exact ⟨d, mb, rfl, narrow h1, h2⟩
  · have h1 : (R.map EvS.e)[i]? = some r.e := by rw [he, List.getElem?_map, List.getElem?_drop, hr]; rfl
    rw [List.getElem?_map] at h1
    obtain ⟨r', h2, h3⟩ := Option.map_eq_some_iff.1 h1
    have h4 := vat_any (h.below hW) h2
    rw [h3] at h4
    exact h4
end
end Go.Proofs.YtmogoopkjkdkgaaGreat.Vw
namespace Go.Proofs.YtmogoopkjkdkgaaGreat.Fol
open Go Go.RowKit Go.Proofs.YtmogoopkjkdkgaaGreat.Words Go.Proofs.YtmogoopkjkdkgaaGreat.Enc Go.Proofs.YtmogoopkjkdkgaaGreat.Q Go.Proofs.YtmogoopkjkdkgaaGreat.Evt Go.Maps Go.Sort Go.Shelf
set_option linter.unusedVariables false
set_option linter.unusedSimpArgs false

def maskN (l : List Bool) : Nat → Nat
  | 0 => 0
  | j + 1 => maskN l j + if l.getD j false = true then 2 ^ j else 0
theorem maskN_lt (l : List Bool) (j : Nat) : maskN l j < 2 ^ j := by
  induction j with
  | zero => simp [maskN]
  | succ j ih =>
    unfold maskN
    rw [Nat.pow_succ]
    split <;> omega
theorem mask_step {l : List Bool} {j m : Nat} (hj : j < 64) (hm : m = maskN l j) : bits .or .u64 (m : Int) (IntKind.u64.wrap (2 ^ j)) = ((m + 2 ^ j : Nat) : Int) := by
  have h1 : m < 2 ^ j := by rw [hm]; exact maskN_lt l j
  have h2 : 2 ^ j ≤ 2 ^ 63 := Nat.pow_le_pow_right (by omega) (by omega)
  rw [show ((2 : Int) ^ j) = ((2 ^ j : Nat) : Int) by simp, wrap_in (2 ^ j) (by omega), u64_or_nat m (2 ^ j) (by omega) (by omega)]
  rw [Nat.or_comm]
  have h3 := Nat.two_pow_add_eq_or_of_lt h1 1
  rw [Nat.mul_one] at h3
  rw [← h3, Nat.add_comm]
theorem index_set {R : Array Value} {j : Nat} {b : Bool} (hj : j < 64) (hR : R[j]? = some (.bool b)) (w : World) :
    (Instr.index 80 (.agg R) (.int .i64 (j : Int))).run Tryz.prog w = .ok (.bool b) w := by
  have hn : 0 ≤ (j : Int) ∧ (j : Int) < ((64 : Nat) : Int) := by omega
  simp [Instr.index, run_underlying Tryz.underlying80, asIntOf, hn, hR, go_sem]
  intro h
  omega
set_option maxRecDepth 100000 in
set_option maxHeartbeats 1000000 in
theorem mask_any (l : List Bool) (w : World) (hl : l.length = 64) :
    Calls Tryz.prog 34 #[.agg (bs l).toArray] w fun e w' => e = .returned (.int .u64 (maskN l 64 : Int)) ∧ Below w.heap.size w w' := by
  obtain ⟨R, hR⟩ : ∃ R, R = (bs l).toArray := ⟨_, rfl⟩
  have hRs : R.size = 64 := by rw [hR]; simp [bs, hl]
  have hRg : ∀ j, j < 64 → R[j]? = some (.bool (l.getD j false)) := fun j hj => by rw [hR]; simp [bs, List.getD, hl, hj]
  rw [← hR]
  obtain ⟨M, hM⟩ : ∃ M, M = maskN l 64 := ⟨_, rfl⟩
  rw [← hM]
  have HM := Lib.hid hM
  have HG := Lib.hid hRg
  have hB := (Below.refl w.heap.size w).alloc (Nat.le_refl _) (.cells R 80)
  have hg := heap_alloc_new w (.cells R 80)
  clear hM hRg hR
  go_enter Tryz.func34, Tryz.ntmps34
  have hsi : (Tryz.prog.info? 80).map (·.size) = some R.size := by rw [hRs]; kernel_rfl
  obtain ⟨u, hu⟩ : ∃ u, u = w.alloc (.cells R 80) := ⟨_, rfl⟩
  rw [← hu] at hg hB
  have HU := Lib.hid hu
  clear hu
  go_wp2_with (first | (rw [← HU.out]; refine wpList_getRow rfl 80 (.tmp 1) rfl w.heap.size 80 R (0, 0) _ rfl hg Tryz.underlying80 rfl hsi ?_))
  clear hg hsi
  go_loopw [3, 7] (fun a3 a7 wr => ∃ (j m : Nat), a7 = .int .i64 (j : Int) ∧ a3 = .int .u64 (m : Int) ∧ j ≤ 64 ∧ Hid (m = maskN l j) ∧ wr = u) (fun a3 a7 _ => 64 - (intOf a7).toNat)
  case atStart => exact ⟨0, 0, rfl, rfl, by omega, Lib.hid rfl, rfl⟩
  case round =>
    obtain ⟨j, m, rfl, rfl, hj, HMJ, rfl⟩ := hrel
    by_cases h1 : j < 64
    · have hd : decide ((j : Int) < 64) = true := decide_eq_true (by omega)
      have hx := HG.out j h1
      obtain ⟨x, hxx⟩ : ∃ x, l.getD j false = x := ⟨_, rfl⟩
      rw [hxx] at hx
      have HX := Lib.hid hxx
      clear hxx
      have hix := index_set h1 hx
      cases x with
      | true =>
        have HN := Lib.hid (show m + 2 ^ j = maskN l (j + 1) by rw [maskN, if_pos HX.out, HMJ.out])
        have HO := Lib.hid (mask_step (l := l) h1 HMJ.out)
        go_wp2
        go_roundw
        case rel => exact ⟨j + 1, m + 2 ^ j, by simp, by rw [HO.out], by omega, HN, by trivial⟩
        case measure => simp [intOf]; omega
      | false =>
        have HN := Lib.hid (show m = maskN l (j + 1) by rw [HMJ.out, maskN, if_neg (by rw [HX.out]; simp)]; rfl)
        go_wp2
        go_roundw
        case rel => exact ⟨j + 1, m, by simp, rfl, by omega, HN, by trivial⟩
        case measure => simp [intOf]; omega
    · have hd : decide ((j : Int) < 64) = false := decide_eq_false (by omega)
      obtain rfl : j = 64 := by omega
      go_wp2
      go_ret
      have hm : m = M := HMJ.out.trans HM.out.symm
      subst hm
      exact ⟨rfl, hB⟩
end Go.Proofs.YtmogoopkjkdkgaaGreat.Fol
namespace Go.Proofs.YtmogoopkjkdkgaaGreat.Fol
open Go Go.RowKit Go.Proofs.YtmogoopkjkdkgaaGreat.Words Go.Proofs.YtmogoopkjkdkgaaGreat.Enc Go.Proofs.YtmogoopkjkdkgaaGreat.Q Go.Proofs.YtmogoopkjkdkgaaGreat.Evt Go.Maps Go.Sort Go.Shelf
set_option linter.unusedVariables false
set_option linter.unusedSimpArgs false

theorem node_step {l : List Bool} {j m : Nat} (hj : j < 64) (hm : m = maskN l j) : IntKind.u64.wrap ((m : Int) + IntKind.u64.wrap (2 ^ j)) = ((m + 2 ^ j : Nat) : Int) := by
  have h1 : m < 2 ^ j := by rw [hm]; exact maskN_lt l j
  have h2 : 2 ^ j ≤ 2 ^ 63 := Nat.pow_le_pow_right (by omega) (by omega)
  rw [show ((2 : Int) ^ j) = ((2 ^ j : Nat) : Int) by simp, wrap_in (2 ^ j) (by omega)]
  rw [← Int.natCast_add, wrap_in _ (by omega)]
set_option maxRecDepth 100000 in
set_option maxHeartbeats 1000000 in
theorem nodes_any (A : Option Addr) (c : Nat) (l : List Bool) (S : List Nat) (w : World) (hs : SeesV w S A (bs l)) (hl : l.length = 64) :
    Calls Tryz.prog 57 #[.slice A 64 c] w fun e w' => e = .returned (.int .u64 (maskN l 64 : Int)) ∧ w' = w := by
  obtain ⟨M, hM⟩ : ∃ M, M = maskN l 64 := ⟨_, rfl⟩
  rw [← hM]
  have HM := Lib.hid hM
  have HS := Lib.hid hs
  clear hM hs
  go_enter Tryz.func57, Tryz.ntmps57
  go_wp2_with fail
  go_loopw [3, 4] (fun a3 a4 wr => ∃ (j m : Nat), a4 = .int .i64 (j : Int) ∧ a3 = .int .u64 (m : Int) ∧ j ≤ 64 ∧ Hid (m = maskN l j) ∧ wr = w) (fun a3 a4 _ => 64 - (intOf a4).toNat)
  case atStart => exact ⟨0, 0, rfl, rfl, by omega, Lib.hid rfl, rfl⟩
  case round =>
    obtain ⟨j, m, rfl, rfl, hj, HMJ, rfl⟩ := hrel
    by_cases h1 : j < 64
    · have hd : decide ((j : Int) < 64) = true := decide_eq_true (by omega)
      obtain ⟨x, hxx⟩ : ∃ x, l.getD j false = x := ⟨_, rfl⟩
      obtain ⟨b, o, rfl, hx⟩ := HS.out.get (j := j) (v := .bool x) (by rw [← hxx]; simp [bs, List.getD, hl, h1])
      have HX := Lib.hid hxx
      clear hxx
      cases x with
      | true =>
        have HN := Lib.hid (show m + 2 ^ j = maskN l (j + 1) by rw [maskN, if_pos HX.out, HMJ.out])
        have HO := Lib.hid (node_step (l := l) h1 HMJ.out)
        go_wp2
        go_roundw
        case rel => exact ⟨j + 1, m + 2 ^ j, by simp, by rw [HO.out], by omega, HN, by trivial⟩
        case measure => simp [intOf]; omega
      | false =>
        have HN := Lib.hid (show m = maskN l (j + 1) by rw [HMJ.out, maskN, if_neg (by rw [HX.out]; simp)]; rfl)
        go_wp2
        go_roundw
        case rel => exact ⟨j + 1, m, by simp, rfl, by omega, HN, by trivial⟩
        case measure => simp [intOf]; omega
    · have hd : decide ((j : Int) < 64) = false := decide_eq_false (by omega)
      obtain rfl : j = 64 := by omega
      have hm : m = M := HMJ.out.trans HM.out.symm
      subst hm
      go_wp2
      go_ret
      exact ⟨rfl, rfl⟩
end Go.Proofs.YtmogoopkjkdkgaaGreat.Fol
namespace Go.Proofs.YtmogoopkjkdkgaaGreat.Fol
open Go Go.RowKit Go.Proofs.YtmogoopkjkdkgaaGreat.Words
set_option linter.unusedVariables false
set_option linter.unusedSimpArgs false
set_option maxRecDepth 100000 in
/-- Two vectors with the same numbers are one. -/
theorem sameV_yes (A B : Option Addr) (n c m d : Nat) (a b : List Nat) (w : World) (ha : Vec.SeesU w A n a) (hb : Vec.SeesU w B m b) (hn : n ≤ 900000) (hm : m ≤ 900000) (hab : ∀ i, Vec.at_ a i = Vec.at_ b i) :
    Calls Tryz.prog 24 #[.slice A n c, .slice B m d] w fun e w' => e = .returned (.bool true) ∧ w' = w := by
  have HAB := Lib.hid hab
  clear hab
  have GA := Lib.hid (fun i => Vec.refGet_any A n c a i w ha)
  have GB := Lib.hid (fun i => Vec.refGet_any B m d b i w hb)
  clear ha hb
  go_enter Tryz.func24, Tryz.ntmps24
  go_wp2_with fail
  go_loop [5] (fun v => ∃ j : Nat, v = .int .i64 (j : Int) ∧ j ≤ 900000) (fun v => n + m - (intOf v).toNat)
  case atStart => exact ⟨0, rfl, by omega⟩
  case round =>
    obtain ⟨j, rfl, hj⟩ := hrel
    have hab := HAB.out j
    have GA1 := Lib.hid (GA.out j)
    have GB1 := Lib.hid (GB.out j)
    rw [← hab] at GB1
    clear hab
    generalize Vec.at_ a j = x at GA1 GB1
    by_cases h1 : j < n
    · have d1 : decide ((j : Int) < (n : Int)) = true := decide_eq_true (by omega)
      have d2 : decide ((j : Int) < (n : Int) ∨ (j : Int) < (m : Int)) = true := decide_eq_true (by omega)
      go_wp2_with fail
      refine GA1.out.mono ?_
      rintro e w1 ⟨rfl, hw1⟩
      subst hw1
      go_wp2_with fail
      refine GB1.out.mono ?_
      rintro e w1 ⟨rfl, hw1⟩
      subst hw1
      go_wp2
      go_round
      case rel => exact ⟨j + 1, rfl, by omega⟩
      case measure => simp [intOf]; omega
    · by_cases h2 : j < m
      · go_wp2_with fail
        refine GA1.out.mono ?_
        rintro e w1 ⟨rfl, hw1⟩
        subst hw1
        go_wp2_with fail
        refine GB1.out.mono ?_
        rintro e w1 ⟨rfl, hw1⟩
        subst hw1
        go_wp2
        go_round
        case rel => exact ⟨j + 1, rfl, by omega⟩
        case measure => simp [intOf]; omega
      · go_wp2
        go_ret
        exact ⟨rfl, rfl⟩
end Go.Proofs.YtmogoopkjkdkgaaGreat.Fol
namespace Go.Proofs.YtmogoopkjkdkgaaGreat.Fol
open Go Go.RowKit Go.Proofs.YtmogoopkjkdkgaaGreat.Words Go.Proofs.YtmogoopkjkdkgaaGreat.Enc Go.Proofs.YtmogoopkjkdkgaaGreat.Q Go.Proofs.YtmogoopkjkdkgaaGreat.Evt Go.Maps Go.Sort Go.Shelf
set_option linter.unusedVariables false
set_option linter.unusedSimpArgs false

theorem below_bytes (w : World) (e : TypeId) (s : ByteArray) : Below w.heap.size w (Lib.bytesWorld w e s) :=
  ⟨rfl, rfl, rfl, by rw [Lib.bytesWorld_size]; omega, fun j hj => Lib.bytesWorld_at_old w e s j hj⟩
theorem sees_bytes (w : World) (e : TypeId) (s : ByteArray) : Sees (Lib.bytesWorld w e s) (some ⟨w.heap.size, 0, none⟩) s.size s.data.toList := by
  refine ⟨by simp, fun _ => ⟨_, _, rfl, fun j v hv => ?_⟩⟩
  have hj : j < s.size := by have := (List.getElem?_eq_some_iff.1 hv).1; simpa using this
  rw [Nat.zero_add, Lib.bytesWorld_cell w e s j hj]
  simp [List.getD, hv]
section
variable {w : World} {ops : Array Oper} {rest : List Oper} {op : Oper} {a : Act} {Q : Exit → Act → World → Prop}
end
end Go.Proofs.YtmogoopkjkdkgaaGreat.Fol
