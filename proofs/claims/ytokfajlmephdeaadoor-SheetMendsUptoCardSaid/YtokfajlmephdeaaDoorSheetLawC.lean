/- The example with which the laws of layer 5 begin. What Swap comes to, on a disk of one file: plain lists. Calls of the laws of layer 5, held against the world in which the law began. -/
import Derived.Test.YtokfajlmephdeaaDoorSheetLawLay
import Derived.Lib.SlBytesConst
namespace Go.Proofs.YtokfajlmephdeaaDoor.Sht
open Go Go.RowKit Go.Proofs.YtokfajlmephdeaaDoor.Words Go.Proofs.YtokfajlmephdeaaDoor.Enc Go.Proofs.YtokfajlmephdeaaDoor.Made Go.Proofs.YtokfajlmephdeaaDoor.Dsk
set_option linter.unusedVariables false

theorem hd_fits5 {h : Hd} (h1 : -9223372036854775808 ≤ h.room) (h2 : h.room ≤ 9223372036854775807) (h3 : h.acts ≤ 1000000000000) (h4 : -9223372036854775808 ≤ h.left) (h5 : h.left ≤ 9223372036854775807) (h6 : -9223372036854775808 ≤ h.torn) (h7 : h.torn ≤ 9223372036854775807) : h.fits := ⟨⟨h1, h2⟩, h3, ⟨h4, h5⟩, ⟨h6, h7⟩⟩
theorem ok_f5 : okName [102] = true := by decide +kernel
theorem ok_fn5 : okName ([102] ++ suff) = true := by decide +kernel
/-- Behind a step on a disk of the call's own. -/
theorem step_low5 {w0 w w' : World} {S S' : List Nat} (b : Below w0.heap.size w0 w) (hS : ∀ k ∈ S, w0.heap.size ≤ k) (hb : Beside S w w') (hs : ∀ k ∈ S', k ∈ S ∨ w.heap.size ≤ k) : Below w0.heap.size w0 w' ∧ ∀ k ∈ S', w0.heap.size ≤ k :=
  ⟨Below.beside b hb b.size hS, fun k hk => by
    rcases hs k hk with h | h
    · exact hS k h
    · have := b.size; omega⟩
theorem junk_ex : allL [49, 50, 51, 52] most = ([], 0, 5) := by decide +kernel
theorem head_ex : (headL 120 0 0).length = 12 := by
  rw [headL_len (by omega) (by omega)]
  simp [titleL, enc_small]
theorem wrap_ex : (wrap [120]).length = 6 := by
  rw [wrap_length]
  simp [enc_small]

set_option maxRecDepth 100000 in
set_option maxHeartbeats 1000000 in
theorem awake5 (w : World) (T : Chk.Tabs w) : Calls Tryd.prog 8 #[] w fun e w' => e = .returned (.bool true) ∧ Below w.heap.size w w' := by
  have hconv := fun (W : World) (C : Array Value) (n c : Nat) => Lib.run_convert_bytes_const (P := Tryd.prog) W 37 5 C n c Tryd.underlying37 Tryd.underlying5
  obtain ⟨h0, hh0⟩ : ∃ h0 : Hd, h0 = ⟨1000, 0, -1, 0, false⟩ := ⟨_, rfl⟩
  obtain ⟨hl, hhl⟩ : ∃ hl : List UInt8, hl = headL 120 0 0 := ⟨_, rfl⟩
  have hll : hl.length = 12 := by rw [hhl]; exact head_ex
  obtain ⟨xl, hxl⟩ : ∃ xl : List UInt8, xl = wrap [120] := ⟨_, rfl⟩
  have hxll : xl.length = 6 := by rw [hxl]; exact wrap_ex
  have HHL := Lib.hid hhl
  have HXL := Lib.hid hxl
  have HLL := Lib.hid hll
  have HXLL := Lib.hid hxll
  -- Begin, Add, Append, Mend: what they come to
  have r1 : beginR h0 [102] hl [] = (0, [⟨[102], hl, 12⟩], h0.act.act) := by
    subst hh0
    simp [beginR, readE, lookA, createR, appE, appF, Hd.may, Hd.act, sumA, put, thereE, thereF, upd, syncG, hll]
  have r2 : appE h0.act.act [102] xl [⟨[102], hl, 12⟩] = 0 ∧ appF h0.act.act [102] xl [⟨[102], hl, 12⟩] = [⟨[102], hl ++ xl, 12⟩] := by
    subst hh0
    simp [appE, appF, Hd.may, Hd.act, sumA, put, hll, hxll]
  have r3 : appE h0.act.act.act [102] [49, 50, 51, 52] [⟨[102], hl ++ xl, 12⟩] = 0 ∧ appF h0.act.act.act [102] [49, 50, 51, 52] [⟨[102], hl ++ xl, 12⟩] = [⟨[102], hl ++ xl ++ [49, 50, 51, 52], 12⟩] := by
    subst hh0
    simp [appE, appF, Hd.may, Hd.act, sumA, put, hll, hxll]
  have hall : allL (xl ++ [49, 50, 51, 52]) most = ([[120]], 6, 5) := by
    rw [hxl, allL_wrap [120] [49, 50, 51, 52] most (by decide) (by simp), junk_ex, wrap_ex]
    rfl
  have hgood : goodN 120 0 0 (xl ++ [49, 50, 51, 52]) = 18 := by unfold goodN; rw [hall, head_ex]; rfl
  have r4 : mendF [102] 120 0 0 (xl ++ [49, 50, 51, 52]) [⟨[102], hl ++ xl ++ [49, 50, 51, 52], 12⟩] = [⟨[102], hl ++ xl, 18⟩] := by
    unfold mendF
    rw [hall, hgood, if_neg (by decide)]
    simp [upd, cutG, hll, hxll, List.take_append]
    rw [List.take_of_length_le (by omega)]
  have hmay3 : h0.act.act.act.act.may = true := by subst hh0; decide +kernel
  have hof3 : h0.act.act.act.act.act.off = false := by subst hh0; decide +kernel
  have hfit : h0.fits ∧ h0.act.act.fits ∧ h0.act.act.act.fits ∧ h0.act.act.act.act.fits := by
    subst hh0
    refine ⟨?_, ?_, ?_, ?_⟩ <;> (refine hd_fits5 ?_ ?_ ?_ ?_ ?_ ?_ ?_ <;> decide +kernel)
  have hacts : h0.acts < 999999999999 ∧ h0.act.act.acts < 1000000000000 ∧ h0.act.act.act.acts < 1000000000000 := by
    subst hh0
    refine ⟨?_, ?_, ?_⟩ <;> decide +kernel
  have HR1 := Lib.hid r1
  have HR2 := Lib.hid r2
  have HR3 := Lib.hid r3
  have HR4 := Lib.hid r4
  have HALL := Lib.hid hall
  have HGOOD := Lib.hid hgood
  have HMAY := Lib.hid hmay3
  have HOF := Lib.hid hof3
  have HFIT := Lib.hid hfit
  have HAC := Lib.hid hacts
  have HH0 := Lib.hid hh0
  clear r1 r2 r3 r4 hall hgood hmay3 hof3 hfit hacts hhl hxl hll hxll hh0
  have hnew := newC 1000 w
  rw [← HH0.out] at hnew
  have hbeg := fun d S W hT hd => begin_any d S [] h0 [102] 120 0 0 W hT (by omega) (by omega) hd HFIT.out.1 HAC.out.1 ok_f5 (by simp [sumA])
    (by rw [← HHL.out]; have h1 := HLL.out; have h2 := HH0.out; subst h2; simp [appF, sumA, put, h1]) (by simp)
  rw [← HHL.out, HR1.out] at hbeg
  unfold titleV at hbeg
  simp only [show ((120 : UInt8).toNat : Int) = 120 from rfl, Int.natCast_zero] at hbeg
  have HB := Lib.hid hbeg
  clear hbeg
  go_enter Tryd.func8, Tryd.ntmps8
  go_wp2_with fail
  refine hnew.mono ?_
  rintro e w1 ⟨d, S1, rfl, hd1, hS1, b1⟩
  clear hnew
  go_wp2_with fail
  refine (HB.out d S1 w1 (T.below b1) hd1).mono ?_
  rintro e w2 ⟨rfl, S2, hd2, hb2, hs2⟩
  obtain ⟨b2, hS2⟩ := step_low5 b1 hS1 hb2 hs2
  clear hd1 hb2 hs2 hS1 b1
  have hbx : Below w2.heap.size w2 (w2.alloc (.cells #[.int .u8 120] 5 (1, 2))) := (Below.refl _ _).alloc (Nat.le_refl _) _
  have hadd := add_any d S2 [⟨[102], hl, 12⟩] h0.act.act [102] (some ⟨w2.heap.size, 0, none⟩) 1 1 [120] _ (T.below (b2.trans (hbx.mono b2.size))) (hd2.below hbx) HFIT.out.2.1 HAC.out.2.1 ok_f5 (by simp [sumA, HLL.out]) (by simp) (by omega) (by omega)
    (sees_marked w2 _ _ _ 1 [120] rfl (fun j u hj => by match j, hj with | 0, hj => simp at hj; subst hj; rfl))
  rw [← HXL.out, HR2.out.1, HR2.out.2] at hadd
  go_wp2_with fail
  refine hadd.mono ?_
  rintro e w3 ⟨rfl, S3, hd3, hb3, hs3⟩
  obtain ⟨b3, hS3⟩ := step_low5 (b2.trans (hbx.mono b2.size)) hS2 hb3 hs3
  clear hadd hd2 hb3 hs3 hS2 b2 hbx
  have hbx : Below w3.heap.size w3 (w3.alloc (.cells #[.int .u8 49, .int .u8 50, .int .u8 51, .int .u8 52] 5 (4, 5))) := (Below.refl _ _).alloc (Nat.le_refl _) _
  have happ := appendC d S3 [⟨[102], hl ++ xl, 12⟩] h0.act.act.act [102] (some ⟨w3.heap.size, 0, none⟩) 4 4 [49, 50, 51, 52] _ (hd3.below hbx) HFIT.out.2.2.1 HAC.out.2.2 ok_f5 (by simp [sumA, HLL.out, HXLL.out]) (by simp) (by omega) (by omega) (by omega)
    (sees_marked w3 _ _ _ 4 [49, 50, 51, 52] rfl (fun j u hj => by match j, hj with | 0, hj => simp at hj; subst hj; rfl | 1, hj => simp at hj; subst hj; rfl | 2, hj => simp at hj; subst hj; rfl | 3, hj => simp at hj; subst hj; rfl)) (fun _ a ha hm => by cases ha; have := hd3.lt _ hm; simp at this)
  rw [HR3.out.1, HR3.out.2] at happ
  go_wp2_with fail
  refine happ.mono ?_
  rintro e w4 ⟨rfl, S4, hd4, hb4, hs4⟩
  obtain ⟨b4, hS4⟩ := step_low5 (b3.trans (hbx.mono b3.size)) hS3 hb4 hs4
  clear happ hd3 hb4 hs4 hS3 b3 hbx
  have hmend := mend_any d S4 [⟨[102], hl ++ xl ++ [49, 50, 51, 52], 12⟩] h0.act.act.act.act [102] ⟨[102], hl ++ xl ++ [49, 50, 51, 52], 12⟩ 120 0 0 (xl ++ [49, 50, 51, 52]) w4 (T.below b4) (by omega) (by omega) hd4 (by simp) (by simp [sumA, HLL.out, HXLL.out]) HFIT.out.2.2.2 HMAY.out (by simp [lookA]) (by rw [← HHL.out, List.append_assoc])
  go_wp2_with fail
  refine hmend.mono ?_
  rintro e w5 ⟨Al, nl, cl, vs, rfl, hown5, heach5, S5, hd5, hb5, hs5⟩
  rw [HR4.out] at hd5
  rw [HALL.out] at heach5
  rw [HGOOD.out]
  obtain ⟨b5, hS5⟩ := step_low5 b4 hS4 hb5 hs5
  unfold sheetV
  simp only [show ((120 : UInt8).toNat : Int) = 120 from rfl, Int.natCast_zero]
  clear hmend hd4 hb5 hs5 hS4
  obtain ⟨x, rfl⟩ : ∃ x, vs = [x] := by
    have := heach5.1
    cases vs with
    | nil => simp at this
    | cons x r => cases r with
      | nil => exact ⟨x, rfl⟩
      | cons y r => simp at this
  obtain ⟨Ax, cx, hx, hownx⟩ := heach5.2 0 [120] rfl
  simp at hx
  subst hx
  have hnl : nl = 1 := by have := hown5.1; simp at this; omega
  subst hnl
  have hcl1 := (Own.cap hown5).1
  obtain ⟨g, rfl, _⟩ := Own.at_ hown5 (by omega)
  have hcg : w5.cell? ⟨g, 0, none⟩ = some (.slice Ax 1 cx) := by
    have := hown5.cells (g := g) rfl 0 (.slice Ax 1 cx) rfl
    simpa [Addr.add] using this
  have hsx : Sees w5 Ax 1 [120] := Sees.of_own hownx
  clear heach5 hown5 hownx
  go_upto_region 6 with fail
  have hbv : Below w5.heap.size w5 (w5.alloc (.cells #[.int .u8 120, .int .u64 0, .int .u64 0, .slice (some ⟨g, 0, none⟩) 1 cl, .int .i64 18, .int .i64 0] 32)) := (Below.refl _ _).alloc (Nat.le_refl _) _
  have v6 := sheetAt_new w5 (.int .u8 120) (.int .u64 0) (.int .u64 0) (.slice (some ⟨g, 0, none⟩) 1 cl) (.int .i64 18) (.int .i64 0)
  have hd6 := hd5.below hbv
  have b6 := b5.trans (hbv.mono b5.size)
  have hcg6 := (hbv.cell (World.block_lt_of_cell? _ _ hcg)).trans hcg
  have hsx6 := hsx.below hbv
  have hd6 : Disk (w5.alloc (.cells #[.int .u8 120, .int .u64 0, .int .u64 0, .slice (some ⟨g, 0, none⟩) 1 cl, .int .i64 18, .int .i64 0] 32)) d S5 [⟨[102], hl ++ xl, 18⟩] (mendH (xl ++ [49, 50, 51, 52]) h0.act.act.act.act) := hd6
  generalize w5.alloc (.cells #[.int .u8 120, .int .u64 0, .int .u64 0, .slice (some ⟨g, 0, none⟩) 1 cl, .int .i64 18, .int .i64 0] 32) = W6 at v6 hd6 b6 hcg6 hsx6 ⊢
  generalize w5.heap.size = r at v6 ⊢
  obtain ⟨p6, hp6⟩ : ∃ p6, p6 = hl ++ xl := ⟨_, rfl⟩
  have hp18 : p6.length = 18 := by rw [hp6, List.length_append, HLL.out, HXLL.out]
  rw [← hp6] at hd6
  have hH : mendH (xl ++ [49, 50, 51, 52]) h0.act.act.act.act = h0.act.act.act.act.act := by unfold mendH; rw [HALL.out, if_neg (by decide)]
  rw [hH] at hd6
  have hread := readC d S5 [⟨[102], p6, 18⟩] h0.act.act.act.act.act [102] W6 hd6 (by simp) (by simp [sumA, hp18])
  have hrp := read_bytes (h := h0.act.act.act.act.act) (s := [102]) (files := [⟨[102], p6, 18⟩]) (f := ⟨[102], p6, 18⟩) HOF.out (by simp [lookA])
  rw [hrp.1, hrp.2] at hread
  simp only [] at hread
  unfold Tells at hread
  rw [hp18] at hread
  clear hd6 hd5 hp6 hH hrp hS5 hbv hsx hcg b5
  go_wp2_with fail
  refine hread.mono ?_
  rintro e w7 ⟨A7, c7, rfl, hown7, hb7⟩
  have b7 := b6.trans (hb7.mono b6.size)
  have hc7 : w7.cell? ⟨g, 0, none⟩ = some (.slice Ax 1 cx) := by rw [hb7.cell (World.block_lt_of_cell? _ _ hcg6)]; exact hcg6
  have hs7 := (hsx6.below hb7).string (P := Tryd.prog) cx (s := 9) Tryd.underlying37 Tryd.underlying5 Tryd.underlying9
  obtain ⟨⟨y0, y1, y2, y3, y4, y5⟩, zz⟩ := (v6.below hb7).cells
  rw [show (⟨[120].toArray⟩ : ByteArray) = ⟨#[120]⟩ from rfl] at hs7
  have hcl : 1 ≤ cl := hcl1
  clear zz hown7 hb7 hcg6 hsx6 v6 hread
  go_wp2
  go_ret
  exact ⟨rfl, b7⟩
end Go.Proofs.YtokfajlmephdeaaDoor.Sht
namespace Go.Proofs.YtokfajlmephdeaaDoor.Sht
open Go Go.RowKit Go.Proofs.YtokfajlmephdeaaDoor.Words Go.Proofs.YtokfajlmephdeaaDoor.Enc Go.Proofs.YtokfajlmephdeaaDoor.Made Go.Proofs.YtokfajlmephdeaaDoor.Dsk
set_option linter.unusedVariables false

abbrev fN : List UInt8 := [102]
abbrev tN : List UInt8 := [102, 46, 110, 101, 119]
theorem tN_is : fN ++ suff = tN := rfl
theorem act_un {room left torn : Int} {acts : Nat} (hl : left < 0) : Hd.act ⟨room, acts, left, torn, false⟩ = ⟨room, acts + 1, left, torn, false⟩ := by
  have h1 : ¬ left = 0 := by omega
  have h2 : ¬ 0 < left := by omega
  simp [Hd.act, h1, h2]
theorem may_un {room left torn : Int} {acts : Nat} (hl : left ≠ 0) : Hd.may ⟨room, acts, left, torn, false⟩ = true := by simp [Hd.may, hl]

/-- The new file, made and moved: on a disk that holds nothing else. -/
theorem swap_new {room left torn : Int} {acts : Nat} {q : List UInt8} (hl : left < 0) (hq : (q.length : Int) ≤ room) :
    swapR ⟨room, acts, left, torn, false⟩ fN tN q [] = (0, [⟨fN, q, q.length⟩], ⟨room, acts + 4, left, torn, false⟩) := by
  have h0 : left ≠ 0 := by omega
  have hr : removeF ⟨room, acts, left, torn, false⟩ tN [] = [] := by simp [removeF, dropF]
  have ht : thereE ⟨room, acts, left, torn, false⟩ tN [] = 2 := by simp [thereE, may_un h0, lookA]
  have ha : appE ⟨room, acts + 1, left, torn, false⟩ tN q [] = 0 := by simp [appE, may_un h0, sumA, hq]
  have hf : appF ⟨room, acts + 1, left, torn, false⟩ tN q [] = [⟨tN, q, 0⟩] := by simp [appF, h0, sumA, hq, put]
  have hc : createR ⟨room, acts + 1, left, torn, false⟩ tN q [] = (0, [⟨tN, q, q.length⟩], ⟨room, acts + 3, left, torn, false⟩) := by
    unfold createR
    rw [ha, if_pos rfl, hf, act_un hl, act_un hl]
    simp [thereE, thereF, may_un h0, lookA, upd, syncG]
  unfold swapR
  rw [ht, if_neg (by decide), hr, act_un hl, hc, if_neg (by simp)]
  simp only [act_un hl]
  simp [thereE, moveF, may_un h0, moved, lookA, dropF]
/-- .. beside the old one; with what is left of a new file, or without. -/
theorem swap_old {room left torn : Int} {acts : Nat} {p q p2 : List UInt8} {n n2 : Nat} (hl : left < 0) (rest : List File) (hrest : rest = [] ∨ rest = [⟨tN, p2, n2⟩]) :
    swapR ⟨room, acts, left, torn, false⟩ fN tN q (⟨fN, p, n⟩ :: rest) = if (p.length : Int) + q.length ≤ room then (0, [⟨fN, q, q.length⟩], ⟨room, acts + 4, left, torn, false⟩) else (3, [⟨fN, p, n⟩], ⟨room, acts + 2, left, torn, false⟩) := by
  have h0 : left ≠ 0 := by omega
  have hr : removeF ⟨room, acts, left, torn, false⟩ tN (⟨fN, p, n⟩ :: rest) = [⟨fN, p, n⟩] := by
    rcases hrest with rfl | rfl <;> simp [removeF, dropF, may_un h0]
  have ht : thereE ⟨room, acts, left, torn, false⟩ tN (⟨fN, p, n⟩ :: rest) ≠ 7 := by
    rcases hrest with rfl | rfl <;> simp [thereE, may_un h0, lookA]
  unfold swapR
  rw [if_neg ht, hr, act_un hl]
  by_cases hq : (p.length : Int) + q.length ≤ room
  · have ha : appE ⟨room, acts + 1, left, torn, false⟩ tN q [⟨fN, p, n⟩] = 0 := by simp [appE, may_un h0, sumA, hq]
    have hf : appF ⟨room, acts + 1, left, torn, false⟩ tN q [⟨fN, p, n⟩] = [⟨fN, p, n⟩, ⟨tN, q, 0⟩] := by simp [appF, h0, sumA, hq, put]
    have hc : createR ⟨room, acts + 1, left, torn, false⟩ tN q [⟨fN, p, n⟩] = (0, [⟨fN, p, n⟩, ⟨tN, q, q.length⟩], ⟨room, acts + 3, left, torn, false⟩) := by
      unfold createR
      rw [ha, if_pos rfl, hf, act_un hl, act_un hl]
      simp [thereE, thereF, may_un h0, lookA, upd, syncG]
    rw [hc, if_neg (by simp), if_pos hq]
    simp only [act_un hl]
    simp [thereE, moveF, may_un h0, moved, lookA, dropF, upd]
  · have ha : appE ⟨room, acts + 1, left, torn, false⟩ tN q [⟨fN, p, n⟩] = 3 := by simp [appE, may_un h0, sumA, hq]
    have hf : appF ⟨room, acts + 1, left, torn, false⟩ tN q [⟨fN, p, n⟩] = [⟨fN, p, n⟩] := by simp [appF, h0, sumA, hq]
    have hc : createR ⟨room, acts + 1, left, torn, false⟩ tN q [⟨fN, p, n⟩] = (3, [⟨fN, p, n⟩], ⟨room, acts + 2, left, torn, false⟩) := by
      unfold createR
      rw [ha, if_neg (by decide), hf, act_un hl]
    rw [hc, if_pos (by simp), if_neg hq]
/-- The sums that Swap's contract asks for, where all is small. -/
theorem swap_small {h : Hd} {files : List File} {q : List UInt8} {B : Nat} (hB : sumA files + q.length ≤ B) :
    sumA (removeF h tN files) ≤ B ∧ sumA (appF h.act tN q (removeF h tN files)) ≤ B ∧ sumA (createR h.act tN q (removeF h tN files)).2.1 ≤ B := by
  have hdrop : ∀ l : List File, sumA (dropF tN l) ≤ sumA l := by
    intro l
    induction l with
    | nil => simp [dropF]
    | cons x r ih =>
      simp only [dropF, List.filter_cons] at ih ⊢
      split
      · simp only [sumA]; omega
      · simp only [sumA]; omega
  have h1 : sumA (removeF h tN files) ≤ sumA files := by
    unfold removeF
    split
    · exact hdrop files
    · exact Nat.le_refl _
  have hput : ∀ (x : List UInt8) (l : List File), sumA (put tN x l) = sumA l + x.length := by
    intro x l
    induction l with
    | nil => simp [put, sumA]
    | cons f r ih =>
      simp only [put]
      split
      · simp only [sumA, List.length_append]; omega
      · simp only [sumA, ih]; omega
  have h2 : ∀ (g : Hd) (l : List File), sumA (appF g tN q l) ≤ sumA l + q.length := by
    intro g l
    unfold appF tornF
    split
    · omega
    · split
      · split
        · rw [hput, List.length_take]; omega
        · omega
      · split
        · rw [hput]; omega
        · omega
  have hupd : ∀ l : List File, sumA (upd tN syncG l) = sumA l := by
    intro l
    induction l with
    | nil => rfl
    | cons f r ih =>
      simp only [upd, List.map_cons, sumA] at ih ⊢
      rw [ih]
      split <;> simp [syncG]
  have h3 := h2 h.act (removeF h tN files)
  refine ⟨by omega, by omega, ?_⟩
  unfold createR
  split
  · simp only [thereF]
    split
    · rw [hupd]; omega
    · omega
  · simp only []; omega
theorem swap_few {h : Hd} {files : List File} {q : List UInt8} : (removeF h tN files).length ≤ files.length ∧ (createR h.act tN q (removeF h tN files)).2.1.length ≤ files.length + 1 := by
  have h1 : (removeF h tN files).length ≤ files.length := by
    unfold removeF dropF
    split
    · exact List.length_filter_le _ _
    · exact Nat.le_refl _
  have hput : ∀ (x : List UInt8) (l : List File), (put tN x l).length ≤ l.length + 1 := by
    intro x l
    induction l with
    | nil => simp [put]
    | cons f r ih =>
      simp only [put]
      split
      · simp
      · simp only [List.length_cons]; omega
  have h2 : ∀ (g : Hd) (l : List File), (appF g tN q l).length ≤ l.length + 1 := by
    intro g l
    unfold appF tornF
    split
    · omega
    · split
      · split
        · exact hput _ _
        · omega
      · split
        · exact hput _ _
        · omega
  have h3 := h2 h.act (removeF h tN files)
  refine ⟨h1, ?_⟩
  unfold createR
  split
  · simp only [thereF]
    split
    · simp [upd]; omega
    · omega
  · simp only []; omega
end Go.Proofs.YtokfajlmephdeaaDoor.Sht
namespace Go.Proofs.YtokfajlmephdeaaDoor.Sht
open Go Go.RowKit Go.Proofs.YtokfajlmephdeaaDoor.Words Go.Proofs.YtokfajlmephdeaaDoor.Enc Go.Proofs.YtokfajlmephdeaaDoor.Made Go.Proofs.YtokfajlmephdeaaDoor.Dsk
set_option linter.unusedVariables false

/-- A disk of the law's own: all that it owns is new since w0; what was there in w0 is as it was. -/
def Since (w0 : World) (d : Nat) (files : List File) (h : Hd) (w : World) : Prop := ∃ S, Disk w d S files h ∧ Below w0.heap.size w0 w ∧ ∀ k ∈ S, w0.heap.size ≤ k
theorem Since.below {w0 w : World} {d : Nat} {files : List File} {h : Hd} (s : Since w0 d files h w) : Below w0.heap.size w0 w := by obtain ⟨_, _, b, _⟩ := s; exact b
theorem Since.after {w0 w w' : World} {d : Nat} {files : List File} {h : Hd} (s : Since w0 d files h w) (hb : Below w.heap.size w w') : Since w0 d files h w' := by
  obtain ⟨S, hd, b, hS⟩ := s
  exact ⟨S, hd.below hb, b.trans (hb.mono b.size), hS⟩
theorem since_next {w0 w w' : World} {d : Nat} {S : List Nat} {files : List File} {h : Hd} (b : Below w0.heap.size w0 w) (hS : ∀ k ∈ S, w0.heap.size ≤ k) (hn : Dsk.Next S w d files h w') : Since w0 d files h w' := by
  obtain ⟨S', hd, hb, hs⟩ := hn
  obtain ⟨b', hS'⟩ := step_low5 b hS hb hs
  exact ⟨S', hd, b', hS'⟩
/-- What is seen in w0 is seen still, and a disk's call leaves it alone. -/
theorem since_sees {w0 w W : World} {S : List Nat} {A : Option Addr} {n : Nat} {L : List (List UInt8)} (hs : SeesAll w0 A n L) (b : Below w0.heap.size w0 w) (hS : ∀ k ∈ S, w0.heap.size ≤ k) (hb : Beside S w W) : SeesAll W A n L :=
  hs.below (Below.beside b hb b.size hS)

theorem newL (w0 w : World) (b : Below w0.heap.size w0 w) (room : Int) :
    Calls Tryd.prog 10 #[.int .i64 room] w fun e w' => ∃ d, e = .returned (.pointer (some ⟨d, 0, none⟩)) ∧ Since w0 d [] ⟨room, 0, -1, 0, false⟩ w' := by
  refine (newC room w).mono ?_
  rintro e w1 ⟨d, S, rfl, hd, hS, hb⟩
  exact ⟨d, rfl, S, hd, b.trans (hb.mono b.size), fun k hk => Nat.le_trans b.size (hS k hk)⟩

theorem swapL (w0 w : World) (d : Nat) (files : List File) (h : Hd) (k : UInt8) (a b : Nat) (A : Option Addr) (n c : Nat) (L : List (List UInt8)) (T : Chk.Tabs w0) (hs : SeesAll w0 A n L) (ha : a < 18446744073709551616) (hb : b < 18446744073709551616)
    (hd : Since w0 d files h w) (hf : h.fits) (hac : h.acts < 1000) (hL : lens L ≤ 2000) (hsm : sumA files ≤ 100000) (hfl : files.length ≤ 10) {E : Int} {files' : List File} {h' : Hd} (hr : swapR h fN tN (wholeL k a b L) files = (E, files', h')) :
    Calls Tryd.prog 20 #[.pointer (some ⟨d, 0, none⟩), .string ⟨#[102]⟩, titleV k a b, .slice A n c] w fun e w' => e = .returned (.int .i64 E) ∧ Since w0 d files' h' w' := by
  obtain ⟨S, hd, bel, hS⟩ := hd
  have hln := hs.len
  have hl2 := lens_len L
  have hws := wraps_short hL
  have hhl := headL_len (k := k) ha hb
  have htl := (titleL_len (k := k) ha hb).2
  have hwh : (wholeL k a b L).length ≤ 2100 := by unfold wholeL; rw [List.length_append]; omega
  obtain ⟨s1, s2, s3⟩ := swap_small (h := h) (files := files) (q := wholeL k a b L) (B := 200000) (by omega)
  obtain ⟨f1, f2⟩ := swap_few (h := h) (files := files) (q := wholeL k a b L)
  have := swap_any d S files h fN k a b A n c L w (fun W hW => T.below (Below.beside bel hW bel.size hS)) ha hb hd hf (by omega) ok_f5 ok_fn5 (by omega) (by omega) (hs.below bel) (by omega)
    (fun l hl => by have := short_each hL l hl; omega) (by omega) (fun W hW => since_sees hs bel hS hW)
    (by rw [tN_is]; omega) (by rw [tN_is]; omega) (by rw [tN_is]; omega) (by rw [tN_is]; omega) (by rw [tN_is]; omega)
  rw [tN_is, hr] at this
  refine this.mono ?_
  rintro e w' ⟨rfl, hn⟩
  exact ⟨rfl, since_next bel hS hn⟩

theorem readL (w0 w : World) (d : Nat) (files : List File) (h : Hd) (s p : List UInt8) (E : Int) (hd : Since w0 d files h w) (hs : s.length ≤ 100) (hsm : sumA files ≤ 1000000000000) (hp : readP h s files = p) (hE : readE h s files = E) :
    Calls Tryd.prog 14 #[.pointer (some ⟨d, 0, none⟩), .string ⟨s.toArray⟩] w fun e w' => ∃ A c, e = .returned (.tuple #[.slice A p.length c, .int .i64 E]) ∧ w'.ownsRow w.heap.size 5 1 (.slice A p.length c) p.length (cs p) ∧ Below w.heap.size w w' ∧ Since w0 d files h w' := by
  obtain ⟨S, hd, bel, hS⟩ := hd
  have := readC d S files h s w hd (by omega) hsm
  rw [hp, hE] at this
  refine this.mono ?_
  rintro e w' ⟨A, c, rfl, hown, hb⟩
  exact ⟨A, c, rfl, hown, hb, S, hd.below hb, bel.trans (hb.mono bel.size), hS⟩
theorem widenL (w0 w : World) (d : Nat) (files : List File) (h : Hd) (room : Int) (hd : Since w0 d files h w) :
    Calls Tryd.prog 24 #[.pointer (some ⟨d, 0, none⟩), .int .i64 room] w fun e w' => e = .returned (.tuple #[]) ∧ Since w0 d files { h with room := room } w' := by
  obtain ⟨S, hd, bel, hS⟩ := hd
  refine (widenC d S files h room w hd).mono ?_
  rintro e w' ⟨rfl, hn⟩
  exact ⟨rfl, since_next bel hS hn⟩
theorem armL (w0 w : World) (d : Nat) (files : List File) (h : Hd) (acts torn : Int) (hd : Since w0 d files h w) :
    Calls Tryd.prog 21 #[.pointer (some ⟨d, 0, none⟩), .int .i64 acts, .int .i64 torn] w fun e w' => e = .returned (.tuple #[]) ∧ Since w0 d files { h with left := acts, torn := torn } w' := by
  obtain ⟨S, hd, bel, hS⟩ := hd
  refine (armC d S files h acts torn w hd).mono ?_
  rintro e w' ⟨rfl, hn⟩
  exact ⟨rfl, since_next bel hS hn⟩
theorem crashL (w0 w : World) (d : Nat) (files : List File) (h : Hd) (keep : Int) (hd : Since w0 d files h w) (hsm : sumA files ≤ 1000000000000) (hk1 : -9223372036854775808 ≤ keep) (hk2 : keep ≤ 9223372036854775807) :
    Calls Tryd.prog 22 #[.pointer (some ⟨d, 0, none⟩), .int .i64 keep] w fun e w' => e = .returned (.tuple #[]) ∧ Since w0 d (files.map (crashG keep)) { h with off := false, left := -1 } w' := by
  obtain ⟨S, hd, bel, hS⟩ := hd
  refine (crashC d S files h keep w hd hsm hk1 hk2).mono ?_
  rintro e w' ⟨rfl, hn⟩
  exact ⟨rfl, since_next bel hS hn⟩
theorem namesL (w0 w : World) (d : Nat) (f : File) (h : Hd) (hd : Since w0 d [f] h w) (hoff : h.off = false) (hlen : f.name.length ≤ 100000) :
    Calls Tryd.prog 23 #[.pointer (some ⟨d, 0, none⟩), .string ByteArray.empty] w fun e w' => ∃ A c, e = .returned (.slice A 1 c) ∧ Below w.heap.size w w' := by
  obtain ⟨S, hd, bel, hS⟩ := hd
  exact namesC d S f h w hd hoff hlen

/-- A title's variable. -/
def TitleAt (w : World) (m : Nat) (k : UInt8) (a b : Nat) : Prop := w.heap[m]? = some (.cells #[.int .u8 (k.toNat : Int), .int .u64 (a : Int), .int .u64 (b : Int)] 24 (0, 0))
theorem TitleAt.cells {w : World} {m : Nat} {k : UInt8} {a b : Nat} (h : TitleAt w m k a b) : w.cell? ⟨m, 0, none⟩ = some (.int .u8 (k.toNat : Int)) ∧ w.cell? ⟨m, 1, none⟩ = some (.int .u64 (a : Int)) ∧ w.cell? ⟨m, 2, none⟩ = some (.int .u64 (b : Int)) := by
  unfold TitleAt at h
  refine ⟨?_, ?_, ?_⟩ <;> (rw [cell_of_row w m _ _ _ _ h]; rfl)
theorem TitleAt.lt {w : World} {m : Nat} {k : UInt8} {a b : Nat} (h : TitleAt w m k a b) : m < w.heap.size := (Array.getElem?_eq_some_iff.1 h).1
theorem TitleAt.below {w0 w : World} {m : Nat} {k : UInt8} {a b : Nat} (h : TitleAt w0 m k a b) (hb : Below w0.heap.size w0 w) : TitleAt w m k a b := (hb.block m h.lt).trans h
end Go.Proofs.YtokfajlmephdeaaDoor.Sht
