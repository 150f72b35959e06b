/- Order: the law OrderRanges. -/
import Derived.Test.YtlacihgoammjgaaOrdRg
import Derived.Test.YtlacihgoammjgaaOrdT
import Derived.Test.YtlacihgoammjgaaOrdReg
namespace Go.Proofs.Ytlacihgoammjgaa.Ord
open Go Go.RowKit Go.Proofs.Ytlacihgoammjgaa.Words Go.Proofs.Ytlacihgoammjgaa.Enc Go.Proofs.Ytlacihgoammjgaa.Evt Go.Proofs.Ytlacihgoammjgaa.Seg
set_option linter.unusedVariables false
set_option linter.unusedSimpArgs false

/-- The document's list, after the first i events. -/
def wantL (st : Nat) (sw : Int) (M : Nat) (R : List EvS) (i : Nat) : List EvS := ((R.take i).filter (aftB st sw)).take M
theorem want_len (st : Nat) (sw : Int) (M : Nat) (R : List EvS) (i : Nat) : (wantL st sw M R i).length ≤ R.length := by
  unfold wantL
  rw [List.length_take]
  have h1 := List.length_filter_le (aftB st sw) (R.take i)
  rw [List.length_take] at h1
  omega
theorem want_step (st : Nat) (sw : Int) (M : Nat) (R : List EvS) (i : Nat) (hi : i < R.length) : wantL st sw M R (i + 1) = if aftB st sw (evAt R i) = true ∧ (wantL st sw M R i).length < M then wantL st sw M R i ++ [evAt R i] else wantL st sw M R i := by
  have hx : R[i] = evAt R i := by have := evAt_get hi; rw [List.getElem?_eq_getElem hi] at this; exact Option.some.inj this
  unfold wantL
  rw [← List.take_append_getElem hi, List.filter_append, hx]
  generalize evAt R i = x
  generalize (R.take i).filter (aftB st sw) = Q
  by_cases ha : aftB st sw x = true
  · rw [List.filter_cons_of_pos ha, List.filter_nil]
    by_cases hl : Q.length < M
    · rw [if_pos ⟨ha, by rw [List.length_take]; omega⟩, List.take_of_length_le (by simp; omega), List.take_of_length_le (by omega)]
    · rw [if_neg (by rw [List.length_take]; omega), List.take_append_of_le_length (by omega)]
  · rw [List.filter_cons_of_neg ha, List.filter_nil, List.append_nil, if_neg (fun h => ha h.1)]
theorem feeds_right {B0 lb wn i m ob : Nat} {w0 W : World} {L : List HV} {T : List Nat} (h : FeedsAt B0 ob lb wn w0 i m L T W) (hm : m ≤ 1000) (hw : wn ≤ 6) (r : EvS) (hr : r ∈ flat L) : Right r.e ∧ r.e.num < 18446744073709551616 := by
  obtain ⟨x, hx, hrx⟩ := List.mem_flatMap.1 hr
  obtain ⟨j, hj, rfl⟩ := List.getElem_of_mem hx
  have hjT : j < T.length := by rw [h.lenT, ← h.lenL]; exact hj
  have g1 := h.good j _ _ (List.getElem?_eq_getElem hj) (List.getElem?_eq_getElem hjT)
  have ht := h.time _ (List.getElem_mem hjT)
  obtain ⟨q1, q2, q3, q4, q5, q6, q7, q8, q9, q10, q11⟩ := g1.each r hrx
  have hjw : j < 6 := by have := h.lenL; omega
  refine ⟨⟨by omega, by omega, by omega, by omega, by omega, by omega, q6, by omega, fun h => by omega, fun _ => by omega, fun _ => ?_⟩, q11⟩
  rcases h.text _ (List.getElem_mem hj) r hrx with ⟨_, _, _, h4⟩ | ⟨tb, u, _, _, _, h4, _⟩
  · rw [h4]; simp
  · rw [h4]; simp
theorem GoodLists.later {B : Nat} {w w' : World} {Al : Option Addr} {L : List HV} (h : GoodLists B w Al L) (hb : Below B w w') (hB : B ≤ w'.heap.size) : GoodLists w'.heap.size w' Al L :=
  ⟨(h.lists.below hb).wide hB, h.rise, h.few, h.evs, fun r hr => ((h.text r hr).below hb).wide hB⟩

set_option maxRecDepth 100000 in
set_option maxHeartbeats 8000000 in
theorem ranges_law (A : Option Addr) (n c : Nat) (l : List Nat) (ws tm : Nat) (sw most : Int) (near : Bool) (w : World) (h : SeesH w A n l) (hws : ws < 256) (htm : tm < 18446744073709551616) (hsw : -9223372036854775808 ≤ sw ∧ sw ≤ 9223372036854775807) (hmo : -9223372036854775808 ≤ most ∧ most ≤ 9223372036854775807) :
    Calls Try.prog 5 #[.slice A n c, .int .u8 (ws : Int), .agg #[.int .u64 (tm : Int), .int .i64 sw], .int .i64 most, .bool near] w fun e w' => e = .returned (.bool true) ∧ Below w.heap.size w w' := by
  have AW := fun w => awake_yes w
  have hnot : ∀ (x : Bool) (w : World), (Op.unary .not (.bool x)).run Try.prog w = .ok (.bool (!x)) w := fun _ _ => rfl
  obtain ⟨w1, hw1⟩ : ∃ u, u = w.alloc (.cells #[.int .u64 (tm : Int), .int .i64 sw] 42) := ⟨_, rfl⟩
  have b1 : Below w.heap.size w w1 := by rw [hw1]; exact (Below.refl _ _).alloc (Nat.le_refl _) _
  have g1 : w1.heap[w.heap.size]? = some (.cells #[.int .u64 (tm : Int), .int .i64 sw] 42 (0, 0)) := by rw [hw1]; exact heap_alloc_new w _
  obtain ⟨b7, hb7⟩ : ∃ b, b = w.heap.size := ⟨_, rfl⟩
  rw [← hb7] at g1
  have HW1 := Lib.hid hw1
  have HB7 := Lib.hid hb7
  have HB1 := Lib.hid b1
  have HG1 := Lib.hid g1
  have HH := Lib.hid (h.below b1)
  have HSS := Lib.hid (fun W (hW : Below w.heap.size w W) => h.below hW)
  clear hw1 hb7 b1 g1 h
  by_cases hbig : 60 < n
  · have zb : (60 : Int) < (n : Int) := by omega
    go_enter Try.func5, Try.ntmps5
    go_upto_region 1 with fail
    rw [← HW1.out, ← HB7.out]
    go_wp2_with fail
    refine (AW w1).mono ?_
    rintro e w2 ⟨rfl, hb2⟩
    go_wp2_with fail
    refine (AW w2).mono ?_
    rintro e w3 ⟨rfl, hb3⟩
    have HF := Lib.hid (HB1.out.trans ((hb2.trans (hb3.mono hb2.size)).mono HB1.out.size))
    clear hb2 hb3
    go_wp2
    go_ret
    exact ⟨rfl, HF.out⟩
  · have zb : (n : Int) ≤ 60 := by omega
    obtain ⟨wn, hwn⟩ : ∃ wn, wn = 1 + ws % 6 := ⟨_, rfl⟩
    have zw : (1 : Int) + (ws : Int) % 6 = (wn : Int) := by omega
    have zw1 : 1 ≤ wn := by omega
    have zw6 : wn ≤ 6 := by omega
    have hn60 : n ≤ 60 := by omega
    clear hwn hbig
    go_enter Try.func5, Try.ntmps5
    go_upto_region 1 with fail
    rw [← HW1.out, ← HB7.out]
    go_wp2_with fail
    refine (AW w1).mono ?_
    rintro e w2 ⟨rfl, hb2⟩
    have hg2 := (hb2.block b7 (Array.getElem?_eq_some_iff.1 HG1.out).1).trans HG1.out
    have c0 : w2.cell? ⟨b7, 0, none⟩ = some (.int .u64 (tm : Int)) := by rw [cell_of_row w2 _ 0 _ _ _ hg2]; rfl
    have f0 : w2.frozen? ⟨b7, 0, none⟩ = false := frozen_row0 hg2
    have HG2 := Lib.hid hg2
    have HB2 := Lib.hid (HB1.out.trans (hb2.mono HB1.out.size))
    have HH2 := Lib.hid (HH.out.below hb2)
    clear hb2 hg2 HG1 HB1 HH
    cases near with
    | false =>
      have HG3 := Lib.hid (show w2.heap[b7]? = some (.cells #[.int .u64 (tm : Int), .int .i64 sw] 42 (0, 0)) from HG2.out)
      have HB3 := HB2
      have HH3 := HH2
      obtain ⟨w3, rfl⟩ : ∃ w3 : World, w3 = w2 := ⟨_, rfl⟩
      clear HG2 HB2 HH2
      go_wp2_with fail
      refine (feeds_any A n c wn l w3 HH3.out (by omega) (by omega) (by omega)).mono ?_
      rintro e w4 ⟨L, T, rfl, FE⟩
      have hGL := feeds_good FE (by omega) (by omega)
      have hfl := FE.few
      have hLn := FE.lenL
      have HRT := Lib.hid (feeds_right FE (by omega) (by omega))
      have HAN := Lib.hid (feeds_anti FE)
      have hg4 := (FE.below.block b7 (Array.getElem?_eq_some_iff.1 HG3.out).1).trans HG3.out
      have HB4 := Lib.hid (HB3.out.trans (FE.below.mono HB3.out.size))
      have HGL := Lib.hid hGL
      obtain ⟨ob, hob⟩ : ∃ b, b = w3.heap.size := ⟨_, rfl⟩
      rw [← hob] at HGL ⊢
      have WH := refWhole_any (some ⟨ob, 0, none⟩) wn L w4 HGL.out.lists (Nat.le_refl _) (by omega) (by omega)
      rw [hLn] at WH
      have HWH := Lib.hid WH
      have HG4 := Lib.hid hg4
      have HLN := Lib.hid hLn
      have HF0 := Lib.hid (show (flat L).length ≤ 60 by omega)
      clear WH hGL FE hg4 hLn hob hfl HH3 HG3 HB3
      clear T
      go_wp2_with fail
      refine HWH.out.mono ?_
      rintro e w5 ⟨AR, cR, R, rfl, hown, hperm, hrise, hb5⟩
      have hRl := hperm.length_eq
      have HRW := Lib.hid hown
      have HPR := Lib.hid (And.intro hperm (And.intro hrise hRl))
      have hg5 := (hb5.block b7 (Array.getElem?_eq_some_iff.1 HG4.out).1).trans HG4.out
      have HG5 := Lib.hid hg5
      have HB45 := Lib.hid hb5
      have HB5 := Lib.hid (HB4.out.trans (hb5.mono HB4.out.size))
      obtain ⟨F, hF⟩ : ∃ F, F = (flat L).length := ⟨_, rfl⟩
      rw [← hF] at HRW HF0 ⊢
      have HFF := Lib.hid hF
      obtain ⟨M, hM⟩ : ∃ M : Nat, M = most.toNat := ⟨_, rfl⟩
      have HMM := Lib.hid hM
      clear hown hperm hrise hRl hg5 hb5 hF HWH HG4 HB4 hM
      obtain ⟨ie, hie, hze, hsze, hbye⟩ := info_parts infoEv
      go_wp2_with fail
      go_loopw [13, 14, 38, 39, 40, 41, 42, 43, 44, 45, 46, 47, 48, 49, 50, 51, 52, 53, 54, 55, 56, 57, 58, 59, 60, 61, 62, 63] (fun a13 a14 a38 a39 a40 a41 a42 a43 a44 a45 a46 a47 a48 a49 a50 a51 a52 a53 a54 a55 a56 a57 a58 a59 a60 a61 a62 a63 wr => ∃ (i mw : Nat) (A' : Option Addr) (c' : Nat), a14 = .int .i64 (i : Int) ∧ a13 = .slice A' mw c' ∧ i ≤ F ∧ Hid (mw = (wantL tm sw M R i).length ∧ wr.ownsRow w5.heap.size 34 8 (.slice A' mw c') mw (rowsL (wantL tm sw M R i)) ∧ Below w5.heap.size w5 wr)) (fun a13 a14 a38 a39 a40 a41 a42 a43 a44 a45 a46 a47 a48 a49 a50 a51 a52 a53 a54 a55 a56 a57 a58 a59 a60 a61 a62 a63 _ => F - (intOf a14).toNat)
      case atStart => exact ⟨0, 0, none, 0, rfl, rfl, Nat.zero_le _, Lib.hid ⟨by simp [wantL], by simpa [wantL] using own_nil8 _ _ _, Below.refl _ _⟩⟩
      case round =>
        obtain ⟨i, mw, A', c', rfl, rfl, hi, HR⟩ := hrel
        by_cases hlt : i < F
        · have hiR : i < R.length := by rw [HPR.out.2.2, ← HFF.out]; exact hlt
          obtain ⟨gR, hAR, _⟩ := own_at8 HRW.out (by omega)
          subst hAR
          have hraw : RawEv wr (some ⟨gR, 0, none⟩) R := RawEv.of_own (own_below8 HRW.out HR.out.2.2 (Nat.le_refl _))
          obtain ⟨_, _, hAe, hcR⟩ := hraw (by omega)
          cases hAe
          have hx := RawEv.cells_at (w := wr) (b := gR) (o := 0) (S := R) (k := i) hcR hiR
          simp only [Nat.zero_add] at hx
          have HST := Lib.hid (want_step tm sw M R i hiR)
          have hml : mw ≤ 60 := by have h1 := HR.out.1; have h2 := want_len tm sw M R i; have := HF0.out; have := HPR.out.2.2; have := HFF.out; omega
          generalize evAt R i = x at hx HST
          have hgw := (HR.out.2.2.block b7 (Array.getElem?_eq_some_iff.1 HG5.out).1).trans HG5.out
          have s0 : wr.cell? ⟨b7, 0, none⟩ = some (.int .u64 (tm : Int)) := by rw [cell_of_row wr _ 0 _ _ _ hgw]; rfl
          have s1 : wr.cell? ⟨b7, 1, none⟩ = some (.int .i64 sw) := by rw [cell_of_row wr _ 1 _ _ _ hgw]; rfl
          have HC := Lib.hid (And.intro s0 (And.intro s1 hx))
          have keep : ∀ W, Below wr.heap.size wr W → (W.cell? ⟨b7, 0, none⟩ = some (.int .u64 (tm : Int)) ∧ W.cell? ⟨b7, 1, none⟩ = some (.int .i64 sw) ∧ (W.cell? ⟨gR, i * 8, none⟩ = some (.int .i64 x.e.writer) ∧ W.cell? ⟨gR, i * 8 + 1, none⟩ = some (.int .u64 (x.e.seq : Int)) ∧ W.cell? ⟨gR, i * 8 + 2, none⟩ = some (.int .u64 (x.e.time : Int)) ∧ W.cell? ⟨gR, i * 8 + 3, none⟩ = some (.int .u8 (x.e.kind : Int)) ∧ W.cell? ⟨gR, i * 8 + 4, none⟩ = some (.string x.e.key) ∧ W.cell? ⟨gR, i * 8 + 5, none⟩ = some (.slice x.A x.n x.c) ∧ W.cell? ⟨gR, i * 8 + 6, none⟩ = some (.float .f64 x.e.num) ∧ W.cell? ⟨gR, i * 8 + 7, none⟩ = some (.int .i64 x.e.node))) := fun W hb2 => by
            have old : ∀ {q : Addr} {v : Value}, wr.cell? q = some v → W.cell? q = some v := fun {q v} hq => by rw [hb2.cell (World.block_lt_of_cell? _ _ hq)]; exact hq
            obtain ⟨m1, m2, e0, e1, e2, e3, e4, e5, e6, e7⟩ := HC.out
            exact ⟨old m1, old m2, old e0, old e1, old e2, old e3, old e4, old e5, old e6, old e7⟩
          have HAT : ∀ (w0 : World), Below wr.heap.size wr w0 → Calls Try.prog 17 #[.agg #[.int .i64 x.e.writer, .int .u64 (x.e.seq : Int), .int .u64 (x.e.time : Int), .int .u8 (x.e.kind : Int), .string x.e.key, .slice x.A x.n x.c, .float .f64 x.e.num, .int .i64 x.e.node]] w0 fun e W => e = .returned (.agg #[.int .u64 (x.e.time : Int), .int .i64 x.e.writer]) ∧ Hid (Below wr.heap.size wr W) ∧ (W.cell? ⟨b7, 0, none⟩ = some (.int .u64 (tm : Int)) ∧ W.cell? ⟨b7, 1, none⟩ = some (.int .i64 sw) ∧ (W.cell? ⟨gR, i * 8, none⟩ = some (.int .i64 x.e.writer) ∧ W.cell? ⟨gR, i * 8 + 1, none⟩ = some (.int .u64 (x.e.seq : Int)) ∧ W.cell? ⟨gR, i * 8 + 2, none⟩ = some (.int .u64 (x.e.time : Int)) ∧ W.cell? ⟨gR, i * 8 + 3, none⟩ = some (.int .u8 (x.e.kind : Int)) ∧ W.cell? ⟨gR, i * 8 + 4, none⟩ = some (.string x.e.key) ∧ W.cell? ⟨gR, i * 8 + 5, none⟩ = some (.slice x.A x.n x.c) ∧ W.cell? ⟨gR, i * 8 + 6, none⟩ = some (.float .f64 x.e.num) ∧ W.cell? ⟨gR, i * 8 + 7, none⟩ = some (.int .i64 x.e.node))) := fun w0 hW => by
            refine (refAt_any x.e x.A x.n x.c w0).mono ?_
            rintro e w' ⟨rfl, hb⟩
            have hb2 := hW.trans (hb.mono hW.size)
            exact ⟨rfl, Lib.hid hb2, keep _ hb2⟩
          have HAH : ∀ (w0 : World), Below wr.heap.size wr w0 → Calls Try.prog 16 #[.agg #[.int .u64 (tm : Int), .int .i64 sw], .agg #[.int .u64 (x.e.time : Int), .int .i64 x.e.writer]] w0 fun e W => e = .returned (.bool (aftB tm sw x)) ∧ Hid (Below wr.heap.size wr W) ∧ (W.cell? ⟨b7, 0, none⟩ = some (.int .u64 (tm : Int)) ∧ W.cell? ⟨b7, 1, none⟩ = some (.int .i64 sw) ∧ (W.cell? ⟨gR, i * 8, none⟩ = some (.int .i64 x.e.writer) ∧ W.cell? ⟨gR, i * 8 + 1, none⟩ = some (.int .u64 (x.e.seq : Int)) ∧ W.cell? ⟨gR, i * 8 + 2, none⟩ = some (.int .u64 (x.e.time : Int)) ∧ W.cell? ⟨gR, i * 8 + 3, none⟩ = some (.int .u8 (x.e.kind : Int)) ∧ W.cell? ⟨gR, i * 8 + 4, none⟩ = some (.string x.e.key) ∧ W.cell? ⟨gR, i * 8 + 5, none⟩ = some (.slice x.A x.n x.c) ∧ W.cell? ⟨gR, i * 8 + 6, none⟩ = some (.float .f64 x.e.num) ∧ W.cell? ⟨gR, i * 8 + 7, none⟩ = some (.int .i64 x.e.node))) := fun w0 hW => by
            refine (ahead_any tm sw x.e.time x.e.writer w0).mono ?_
            rintro e w' ⟨rfl, hb⟩
            have hb2 := hW.trans (hb.mono hW.size)
            exact ⟨rfl, Lib.hid hb2, keep _ hb2⟩
          have HTB := Lib.hid (fun W (hW : Below wr.heap.size wr W) => (show W.ownsRow w5.heap.size 34 8 (.slice A' mw c') mw (rowsL (wantL tm sw M R i)) ∧ Below w5.heap.size w5 W from ⟨own_below8 HR.out.2.1 hW (Nat.le_refl _), HR.out.2.2.trans (hW.mono HR.out.2.2.size)⟩))
          have HML := Lib.hid HR.out.1
          have zi : (i : Int) < (F : Int) := by omega
          have zi0 : (0 : Int) ≤ (i : Int) := by omega
          have zi60 : (i : Int) ≤ 60 := by have := HF0.out; omega
          obtain ⟨e0, e1, e2, e3, e4, e5, e6, e7⟩ := hx
          have HKP := Lib.hid (fun W (hW : Below wr.drew.heap.size wr.drew W) => keep W (((Below.refl wr.heap.size wr).drew).trans hW))
          clear keep hgw hraw hcR
          obtain ⟨av, hav⟩ : ∃ av, aftB tm sw x = av := ⟨_, rfl⟩
          rw [hav] at HAH HST
          have HAV := Lib.hid hav
          clear hav
          go_upto_region 12 with fail
          cases av with
          | true =>
            go_region_held3 (fun W => (W.cell? ⟨b7, 0, none⟩ = some (.int .u64 (tm : Int)) ∧ W.cell? ⟨b7, 1, none⟩ = some (.int .i64 sw) ∧ (W.cell? ⟨gR, i * 8, none⟩ = some (.int .i64 x.e.writer) ∧ W.cell? ⟨gR, i * 8 + 1, none⟩ = some (.int .u64 (x.e.seq : Int)) ∧ W.cell? ⟨gR, i * 8 + 2, none⟩ = some (.int .u64 (x.e.time : Int)) ∧ W.cell? ⟨gR, i * 8 + 3, none⟩ = some (.int .u8 (x.e.kind : Int)) ∧ W.cell? ⟨gR, i * 8 + 4, none⟩ = some (.string x.e.key) ∧ W.cell? ⟨gR, i * 8 + 5, none⟩ = some (.slice x.A x.n x.c) ∧ W.cell? ⟨gR, i * 8 + 6, none⟩ = some (.float .f64 x.e.num) ∧ W.cell? ⟨gR, i * 8 + 7, none⟩ = some (.int .i64 x.e.node)))) (first | exact ⟨s0, s1, e0, e1, e2, e3, e4, e5, e6, e7⟩ | go_keep | assumption)
              (first
                | (go_at_call 17
                   refine (HAT _ ?h1).mono ?_
                   case h1 => first | exact Below.refl _ _ | exact (Below.refl _ _).drew | exact Hid.out (by assumption)
                   rintro e w' ⟨rfl, hb, q0, q1, q2, q3, q4, q5, q6, q7, q8, q9⟩)
                | (go_at_call 16
                   refine (HAH _ ?h1).mono ?_
                   case h1 => first | exact Below.refl _ _ | exact (Below.refl _ _).drew | exact Hid.out (by assumption)
                   rintro e w' ⟨rfl, hb, q0, q1, q2, q3, q4, q5, q6, q7, q8, q9⟩))
            have HW6 := Lib.hid (HTB.out w' hb.out)
            clear HAT HAH HC HTB e0 e1 e2 e3 e4 e5 e6 e7 s0 s1 q0 q1 hb
            by_cases hlm : (mw : Int) < most
            · have HNX := Lib.hid (show wantL tm sw M R (i + 1) = wantL tm sw M R i ++ [x] by rw [HST.out, if_pos ⟨by simp, by rw [← HML.out, HMM.out]; omega⟩])
              have hsf := store_float Try.prog
              go_wp2_with (first | (refine wpList_appE rfl (.tmp 57) (.tmp 62) 26 rfl w5.heap.size 34 ie zeroEV Try.underlying26 hie hze hsze hbye rfl A' mw c' (wantL tm sw M R i) ?hs ?hown (some ⟨w'.heap.size, 0, none⟩) 1 1 [x] ?hx ?hl ?hq ?h63 ?hbase ?h))
              case hs => rfl
              case hown => exact own_below8 HW6.out.1 ((Below.refl _ _).alloc (Nat.le_refl _) _) (Nat.le_refl _)
              case hx => rfl
              case hl => rfl
              case hq =>
                intro _
                refine ⟨w'.heap.size, 0, rfl, fun j v hv => ?_⟩
                rw [Nat.zero_add, cell_of_row _ _ _ _ _ _ (heap_alloc_new w' _)]
                have e : rowsL [x] = x.cells := by simp [rowsL]
                rw [e] at hv
                have hv2 : (x.cells.toArray)[j]? = some v := by rw [List.getElem?_toArray]; exact hv
                exact hv2
              case h63 => omega
              case hbase => have := HW6.out.2.size; simp; omega
              intro A2 c2 wb own2 hbb
              have HR2 := Lib.hid (show mw + 1 = (wantL tm sw M R (i + 1)).length ∧ wb.ownsRow w5.heap.size 34 8 (.slice A2 (mw + 1) c2) (mw + 1) (rowsL (wantL tm sw M R (i + 1))) ∧ Below w5.heap.size w5 wb from ⟨by rw [HNX.out, List.length_append, ← HML.out]; rfl, by rw [HNX.out]; exact own2, (HW6.out.2.alloc HW6.out.2.size _).trans hbb⟩)
              clear own2 hbb HNX HW6 HST HML q2 q3 q4 q5 q6 q7 q8 q9 hsf
              obtain ⟨mw2, hmw2⟩ : ∃ mw2, mw2 = mw + 1 := ⟨_, rfl⟩
              rw [← hmw2] at HR2 ⊢
              clear hmw2
              go_wp2
              go_roundw
              case rel => exact ⟨i + 1, mw2, A2, c2, by simp, rfl, by omega, HR2⟩
              case measure => simp [intOf]; omega
            · have HNX := Lib.hid (show wantL tm sw M R (i + 1) = wantL tm sw M R i by rw [HST.out, if_neg (fun h => by have h2 := h.2; rw [← HML.out, HMM.out] at h2; omega)])
              have HR2 := Lib.hid (show mw = (wantL tm sw M R (i + 1)).length ∧ w'.ownsRow w5.heap.size 34 8 (.slice A' mw c') mw (rowsL (wantL tm sw M R (i + 1))) ∧ Below w5.heap.size w5 w' from ⟨by rw [HNX.out]; exact HML.out, by rw [HNX.out]; exact HW6.out.1, HW6.out.2⟩)
              clear HNX HW6 HST HML q2 q3 q4 q5 q6 q7 q8 q9
              go_wp2
              go_roundw
              case rel => exact ⟨i + 1, mw, A', c', by simp, rfl, by omega, HR2⟩
              case measure => simp [intOf]; omega
          | false =>
            have HNX := Lib.hid (show wantL tm sw M R (i + 1) = wantL tm sw M R i by rw [HST.out, if_neg (fun h => absurd h.1 (by simp))])
            obtain ⟨HC1, HC2⟩ : Hid (∀ W, Below wr.drew.heap.size wr.drew W → (W.cell? ⟨b7, 0, none⟩ = some (.int .u64 (tm : Int)) ∧ W.cell? ⟨b7, 1, none⟩ = some (.int .i64 sw) ∧ (W.cell? ⟨gR, i * 8, none⟩ = some (.int .i64 x.e.writer) ∧ W.cell? ⟨gR, i * 8 + 1, none⟩ = some (.int .u64 (x.e.seq : Int)) ∧ W.cell? ⟨gR, i * 8 + 2, none⟩ = some (.int .u64 (x.e.time : Int)) ∧ W.cell? ⟨gR, i * 8 + 3, none⟩ = some (.int .u8 (x.e.kind : Int)) ∧ W.cell? ⟨gR, i * 8 + 4, none⟩ = some (.string x.e.key) ∧ W.cell? ⟨gR, i * 8 + 5, none⟩ = some (.slice x.A x.n x.c) ∧ W.cell? ⟨gR, i * 8 + 6, none⟩ = some (.float .f64 x.e.num) ∧ W.cell? ⟨gR, i * 8 + 7, none⟩ = some (.int .i64 x.e.node)))) ∧ Hid (wr = wr) := ⟨HKP, Lib.hid rfl⟩
            refine Facts.wp_region_preds (n := 70) (by kernel_rfl) (by kernel_rfl) rfl [Facts.Pred.is (.agg #[.int .u64 (tm : Int), .int .i64 sw]), Facts.Pred.is (.slice (some ⟨gR, 0, none⟩) F cR), Facts.Pred.is (.int .i64 (i : Int)), Facts.Pred.is (.pointer (some ⟨gR, i * 8, none⟩)), Facts.Pred.is (.agg #[.int .i64 x.e.writer, .int .u64 (x.e.seq : Int), .int .u64 (x.e.time : Int), .int .u8 (x.e.kind : Int), .string x.e.key, .slice x.A x.n x.c, .float .f64 x.e.num, .int .i64 x.e.node]), Facts.Pred.is (.agg #[.int .u64 (x.e.time : Int), .int .i64 x.e.writer]), Facts.Pred.is (.bool false), Facts.Pred.is (.bool false), Facts.Pred.any, Facts.Pred.any, Facts.Pred.any, Facts.Pred.any, Facts.Pred.is (.bool false)] ?_ ?_
            · refine ⟨?_, ?_, ?_, ?_, ?_, ?_, ?_, ?_, ?_, ?_, ?_, ?_, ?_, trivial⟩
              · refine Facts.step_is (.agg #[.int .u64 (tm : Int), .int .i64 sw]) fun a W hR hold hnew => ?_
                have f7 : a.tmps.getD 7 undef = Value.pointer (some ⟨b7, 0, none⟩) := hold 7 (by kernel_rfl)
                obtain ⟨q0, q1, q2, q3, q4, q5, q6, q7, q8, q9⟩ := HC1.out W hR
                refine ⟨Facts.wanted_free rfl, ?_, fun _ => rfl⟩
                simp [go_sem, Act.eval, f7, q0, q1]
              · refine Facts.step_is (.slice (some ⟨gR, 0, none⟩) F cR) fun a W hR hold hnew => ?_
                have f12 : a.tmps.getD 12 undef = Value.slice (some ⟨gR, 0, none⟩) F cR := hold 12 (by kernel_rfl)
                refine ⟨Facts.wanted_free rfl, ?_, fun _ => rfl⟩
                simp [go_sem, Act.eval, f12]
              · refine Facts.step_is (.int .i64 (i : Int)) fun a W hR hold hnew => ?_
                have f14 : a.tmps.getD 14 undef = Value.int .i64 (i : Int) := hold 14 (by kernel_rfl)
                refine ⟨Facts.wanted_free rfl, ?_, fun _ => rfl⟩
                simp [go_sem, Act.eval, f14]
              · refine Facts.step_is (.pointer (some ⟨gR, i * 8, none⟩)) fun a W hR hold hnew => ?_
                have f45 : a.tmps.getD 45 undef = Value.slice (some ⟨gR, 0, none⟩) F cR := hnew 1 45 (by kernel_rfl)
                have f46 : a.tmps.getD 46 undef = Value.int .i64 (i : Int) := hnew 2 46 (by kernel_rfl)
                refine ⟨Facts.wanted_free rfl, ?_, fun _ => rfl⟩
                simp [go_sem, Act.eval, f45, f46, zi, zi0]
              · refine Facts.step_is (.agg #[.int .i64 x.e.writer, .int .u64 (x.e.seq : Int), .int .u64 (x.e.time : Int), .int .u8 (x.e.kind : Int), .string x.e.key, .slice x.A x.n x.c, .float .f64 x.e.num, .int .i64 x.e.node]) fun a W hR hold hnew => ?_
                have f47 : a.tmps.getD 47 undef = Value.pointer (some ⟨gR, i * 8, none⟩) := hnew 3 47 (by kernel_rfl)
                obtain ⟨q0, q1, q2, q3, q4, q5, q6, q7, q8, q9⟩ := HC1.out W hR
                refine ⟨Facts.wanted_free rfl, ?_, fun _ => rfl⟩
                simp [go_sem, Act.eval, f47, q2, q3, q4, q5, q6, q7, q8, q9]
              · refine Facts.step_call fun a W hR hold hnew => ?_
                have f48 : a.tmps.getD 48 undef = Value.agg #[.int .i64 x.e.writer, .int .u64 (x.e.seq : Int), .int .u64 (x.e.time : Int), .int .u8 (x.e.kind : Int), .string x.e.key, .slice x.A x.n x.c, .float .f64 x.e.num, .int .i64 x.e.node] := hnew 4 48 (by kernel_rfl)
                refine ⟨Facts.wanted_free rfl, 17, #[.agg #[.int .i64 x.e.writer, .int .u64 (x.e.seq : Int), .int .u64 (x.e.time : Int), .int .u8 (x.e.kind : Int), .string x.e.key, .slice x.A x.n x.c, .float .f64 x.e.num, .int .i64 x.e.node]], by simp [go_sem, Act.eval, f48], (refAt_any x.e x.A x.n x.c W).mono ?_⟩
                rintro e w' ⟨rfl, hb⟩
                exact ⟨_, rfl, hb, rfl⟩
              · refine Facts.step_call fun a W hR hold hnew => ?_
                have f44 : a.tmps.getD 44 undef = Value.agg #[.int .u64 (tm : Int), .int .i64 sw] := hnew 0 44 (by kernel_rfl)
                have f49 : a.tmps.getD 49 undef = Value.agg #[.int .u64 (x.e.time : Int), .int .i64 x.e.writer] := hnew 5 49 (by kernel_rfl)
                refine ⟨Facts.wanted_free rfl, 16, #[.agg #[.int .u64 (tm : Int), .int .i64 sw], .agg #[.int .u64 (x.e.time : Int), .int .i64 x.e.writer]], by simp [go_sem, Act.eval, f44, f49], (ahead_any tm sw x.e.time x.e.writer W).mono ?_⟩
                rintro e w' ⟨rfl, hb⟩
                exact ⟨_, rfl, hb, congrArg Value.bool HAV.out⟩
              · refine Facts.step_is (.bool false) fun a W hR hold hnew => ?_
                have f50 : a.tmps.getD 50 undef = Value.bool false := hnew 6 50 (by kernel_rfl)
                refine ⟨Facts.wanted_free rfl, ?_, fun _ => rfl⟩
                simp [go_sem, Act.eval, f50]
              · refine step_skip (fun a W hnew => ?_) (fun _ => trivial)
                have g51 : a.tmps.getD 51 undef = .bool false := hnew 7 51 (by kernel_rfl)
                exact wanted_not rfl (by kernel_rfl) g51
              · refine step_skip (fun a W hnew => ?_) (fun _ => trivial)
                have g51 : a.tmps.getD 51 undef = .bool false := hnew 7 51 (by kernel_rfl)
                exact wanted_not rfl (by kernel_rfl) g51
              · refine step_skip (fun a W hnew => ?_) (fun _ => trivial)
                have g51 : a.tmps.getD 51 undef = .bool false := hnew 7 51 (by kernel_rfl)
                exact wanted_not rfl (by kernel_rfl) g51
              · refine step_skip (fun a W hnew => ?_) (fun _ => trivial)
                have g51 : a.tmps.getD 51 undef = .bool false := hnew 7 51 (by kernel_rfl)
                exact wanted_not rfl (by kernel_rfl) g51
              · refine Facts.step_is (.bool false) fun a W hR hold hnew => ?_
                have f51 : a.tmps.getD 51 undef = Value.bool false := hnew 7 51 (by kernel_rfl)
                refine ⟨Facts.wanted_free rfl, ?_, fun _ => rfl⟩
                simp [go_sem, Act.eval, f51]
            · intro a w9 hR' hsize hdef hnew hold
              have f56 : a.tmps.getD 56 undef = Value.bool false := hnew 12 56 (by kernel_rfl)
              obtain ⟨tm9, df⟩ := a
              have hfr := frame_region hsize (by rfl) hold
              clear hnew hold
              simp only [List.filterMap_cons, List.filterMap_nil] at hfr
              simp only [List.foldl_cons, List.foldl_nil, List.setIfInBounds_toArray, List.set_cons_succ, List.set_cons_zero] at hfr
              simp only [] at f56 hdef
              rw [f56] at hfr
              clear f56 hsize
              generalize tm9.getD 44 undef = y44 at hfr
              generalize tm9.getD 45 undef = y45 at hfr
              generalize tm9.getD 46 undef = y46 at hfr
              generalize tm9.getD 47 undef = y47 at hfr
              generalize tm9.getD 48 undef = y48 at hfr
              generalize tm9.getD 49 undef = y49 at hfr
              generalize tm9.getD 50 undef = y50 at hfr
              generalize tm9.getD 51 undef = y51 at hfr
              generalize tm9.getD 52 undef = y52 at hfr
              generalize tm9.getD 53 undef = y53 at hfr
              generalize tm9.getD 54 undef = y54 at hfr
              generalize tm9.getD 55 undef = y55 at hfr
              subst hfr
              subst hdef
              have HW6 := Lib.hid (HTB.out w9 (((Below.refl wr.heap.size wr).drew).trans hR'))
              have HR2 := Lib.hid (show mw = (wantL tm sw M R (i + 1)).length ∧ w9.ownsRow w5.heap.size 34 8 (.slice A' mw c') mw (rowsL (wantL tm sw M R (i + 1))) ∧ Below w5.heap.size w5 w9 from ⟨by rw [HNX.out]; exact HML.out, by rw [HNX.out]; exact HW6.out.1, HW6.out.2⟩)
              clear HNX HW6 HST HML HAT HAH HC HTB e0 e1 e2 e3 e4 e5 e6 e7 s0 s1 hR' HC1 HC2 HKP
              go_wp2_with fail
              go_roundw
              case rel => exact ⟨i + 1, mw, A', c', by simp, rfl, by omega, HR2⟩
              case measure => simp [intOf]; omega
        · obtain rfl : i = F := by omega
          have hmw := HR.out.1
          have hQ : wantL tm sw M R i = (R.filter (aftB tm sw)).take M := by
            have htk : R.take i = R := List.take_of_length_le (by rw [HPR.out.2.2, ← HFF.out]; exact Nat.le_refl _)
            unfold wantL
            rw [htk]
          obtain ⟨m, hmd⟩ : ∃ m, m = mw := ⟨_, rfl⟩
          have hml : mw = Nat.min M (R.filter (aftB tm sw)).length := by rw [hmw, hQ, List.length_take]
          have hpf : (R.filter (aftB tm sw)).Perm ((flat L).filter (aftB tm sw)) := HPR.out.1.filter _
          have hlf := List.length_filter_le (aftB tm sw) (flat L)
          have hml2 : (m : Int) = max 0 (min most (((flat L).filter (aftB tm sw)).length : Int)) := by
            rw [hmd, hml, ← hpf.length_eq, HMM.out]
            generalize (R.filter (aftB tm sw)).length = q
            show ((min most.toNat q : Nat) : Int) = _
            omega
          have hbW := HB45.out.trans (HR.out.2.2.mono HB45.out.size)
          have GLW := HGL.out.later hbW hbW.size
          have RG := range_any (some ⟨ob, 0, none⟩) wn L wr GLW (by rw [HLN.out]; omega) (by rw [← HFF.out]; have := HF0.out; omega) tm sw most hmo.1 hmo.2 m hml2
          rw [HLN.out] at RG
          have hg9 := (HR.out.2.2.block b7 (Array.getElem?_eq_some_iff.1 HG5.out).1).trans HG5.out
          have s0 : wr.cell? ⟨b7, 0, none⟩ = some (.int .u64 (tm : Int)) := by rw [cell_of_row wr _ 0 _ _ _ hg9]; rfl
          have s1 : wr.cell? ⟨b7, 1, none⟩ = some (.int .i64 sw) := by rw [cell_of_row wr _ 1 _ _ _ hg9]; rfl
          have SAM : ∀ g S rs rest W, S.length = m → RowAt g m S W → S.map EvS.e = rs.map EvS.e → (rs ++ rest).Perm ((flat L).filter (aftB tm sw)) → Rises rs → (∀ r ∈ rs, ∀ e ∈ rest, evLe r e) → rs.length = m → Below wr.heap.size wr W →
              Calls Try.prog 13 #[.slice (some ⟨g, 0, none⟩) m m, .slice A' mw c'] W fun e w' => e = .returned (.bool true) ∧ Hid (Below w.heap.size w w') := fun g S rs rest W h1 h2 h3 h4 h5 h6 h7 hW => by
            have hris : Rises (R.filter (aftB tm sw)) := List.Pairwise.sublist (List.filter_sublist) HPR.out.2.1
            have hrs := take_of_split hris (h4.trans hpf.symm) h5 h6 (fun a b ha hb => HAN.out a b ((HPR.out.1.mem_iff).1 (List.mem_filter.1 ha).1) ((HPR.out.1.mem_iff).1 (List.mem_filter.1 hb).1))
            have hwl : wantL tm sw M R i = rs := by
              rw [hQ, hrs, h7, hmd, hml]
              generalize R.filter (aftB tm sw) = Q
              show Q.take M = Q.take (min M Q.length)
              rcases Nat.le_total M Q.length with h | h
              · rw [Nat.min_eq_left h]
              · rw [Nat.min_eq_right h, List.take_of_length_le h, List.take_length]
            have hmem : ∀ r ∈ rs, r ∈ flat L := fun r hr => (List.mem_filter.1 (h4.mem_iff.1 (List.mem_append.2 (.inl hr)))).1
            have hgl := GLW.text
            rw [hmd]
            rw [hmd] at h1
            refine (sameAllR_any (some ⟨g, 0, none⟩) A' mw mw c' S rs W ⟨h2.raw, fun r hr => (h2.text r hr).sees⟩ ⟨RawEv.of_own (own_below8 (by rw [← hwl]; exact HR.out.2.1) hW (Nat.le_refl _)), fun r hr => ((hgl r (hmem r hr)).below hW).sees⟩ h1 (by rw [h7, hmd]) h3 (fun r hr => ?_) (by have := HF0.out; have := HFF.out; rw [hml]; have h8 := hpf.length_eq; have := Nat.min_le_right M (R.filter (aftB tm sw)).length; omega)).mono ?_
            · have hre : r.e ∈ rs.map EvS.e := by rw [← h3]; exact List.mem_map.2 ⟨r, hr, rfl⟩
              obtain ⟨r', hr', he'⟩ := List.mem_map.1 hre
              rw [← he']
              exact HRT.out r' (hmem r' hr')
            · rintro e w' ⟨rfl, hb⟩
              exact ⟨rfl, Lib.hid (HB5.out.trans ((HR.out.2.2.trans ((hW.trans (hb.mono hW.size)).mono HR.out.2.2.size)).mono HB5.out.size))⟩
          have HRG := Lib.hid RG
          have HSA := Lib.hid SAM
          clear hmw hQ hml hpf hlf hml2 hbW GLW RG hg9 SAM hmd
          clear HR HPR HGL
          go_wp2_with fail
          refine HRG.out.mono ?_
          rintro e w6 ⟨g, S, rs, rest, rfl, r1, r2, r3, r4, r5, r6, r7, r8, hb6⟩
          have HS6 := Lib.hid (HSA.out g S rs rest w6 r1 r2 r4 r5 r6 r7 r8 hb6)
          clear r1 r2 r3 r4 r5 r6 r7 r8 hb6 HRG HSA
          go_wp2_with fail
          refine HS6.out.mono ?_
          rintro e w7 ⟨rfl, H7⟩
          go_wp2
          go_ret
          exact ⟨rfl, H7.out⟩
    | true =>
      obtain ⟨t2, ht2⟩ : ∃ t2, t2 = tm % 60 := ⟨_, rfl⟩
      have zt2 : (tm : Int) % 60 = (t2 : Int) := by omega
      have hm21 : -9223372036854775808 ≤ most.tmod 20 := by have := Int.lt_tmod_of_pos most (b := 20) (by decide); omega
      have hm22 : most.tmod 20 ≤ 9223372036854775807 := by have := Int.tmod_lt_of_pos most (b := 20) (by decide); omega
      obtain ⟨m2, hm2⟩ : ∃ m2, most.tmod 20 = m2 := ⟨_, rfl⟩
      rw [hm2] at hm21 hm22
      have HG3 := Lib.hid (show (w2.setCell ⟨b7, 0, none⟩ (.int .u64 (t2 : Int))).heap[b7]? = some (.cells #[.int .u64 (t2 : Int), .int .i64 sw] 42 (0, 0)) by rw [heapSame HG2.out]; rfl)
      have HB3 := Lib.hid (HB2.out.setCell (p := ⟨b7, 0, none⟩) (by rw [HB7.out]; exact Nat.le_refl _) (.int .u64 (t2 : Int)))
      have HH3 := Lib.hid (show SeesH (w2.setCell ⟨b7, 0, none⟩ (.int .u64 (t2 : Int))) A n l from HSS.out _ HB3.out)
      clear HG2 HB2 HH2 ht2
      go_wp2_with fail
      generalize w2.setCell ⟨b7, 0, none⟩ (.int .u64 (t2 : Int)) = w3 at HG3 HB3 HH3 ⊢
      refine (feeds_any A n c wn l w3 HH3.out (by omega) (by omega) (by omega)).mono ?_
      rintro e w4 ⟨L, T, rfl, FE⟩
      have hGL := feeds_good FE (by omega) (by omega)
      have hfl := FE.few
      have hLn := FE.lenL
      have HRT := Lib.hid (feeds_right FE (by omega) (by omega))
      have HAN := Lib.hid (feeds_anti FE)
      have hg4 := (FE.below.block b7 (Array.getElem?_eq_some_iff.1 HG3.out).1).trans HG3.out
      have HB4 := Lib.hid (HB3.out.trans (FE.below.mono HB3.out.size))
      have HGL := Lib.hid hGL
      obtain ⟨ob, hob⟩ : ∃ b, b = w3.heap.size := ⟨_, rfl⟩
      rw [← hob] at HGL ⊢
      have WH := refWhole_any (some ⟨ob, 0, none⟩) wn L w4 HGL.out.lists (Nat.le_refl _) (by omega) (by omega)
      rw [hLn] at WH
      have HWH := Lib.hid WH
      have HG4 := Lib.hid hg4
      have HLN := Lib.hid hLn
      have HF0 := Lib.hid (show (flat L).length ≤ 60 by omega)
      clear WH hGL FE hg4 hLn hob hfl HH3 HG3 HB3
      clear T
      go_wp2_with fail
      refine HWH.out.mono ?_
      rintro e w5 ⟨AR, cR, R, rfl, hown, hperm, hrise, hb5⟩
      have hRl := hperm.length_eq
      have HRW := Lib.hid hown
      have HPR := Lib.hid (And.intro hperm (And.intro hrise hRl))
      have hg5 := (hb5.block b7 (Array.getElem?_eq_some_iff.1 HG4.out).1).trans HG4.out
      have HG5 := Lib.hid hg5
      have HB45 := Lib.hid hb5
      have HB5 := Lib.hid (HB4.out.trans (hb5.mono HB4.out.size))
      obtain ⟨F, hF⟩ : ∃ F, F = (flat L).length := ⟨_, rfl⟩
      rw [← hF] at HRW HF0 ⊢
      have HFF := Lib.hid hF
      obtain ⟨M, hM⟩ : ∃ M : Nat, M = m2.toNat := ⟨_, rfl⟩
      have HMM := Lib.hid hM
      clear hown hperm hrise hRl hg5 hb5 hF HWH HG4 HB4 hM
      obtain ⟨ie, hie, hze, hsze, hbye⟩ := info_parts infoEv
      go_wp2_with fail
      go_loopw [13, 14, 38, 39, 40, 41, 42, 43, 44, 45, 46, 47, 48, 49, 50, 51, 52, 53, 54, 55, 56, 57, 58, 59, 60, 61, 62, 63] (fun a13 a14 a38 a39 a40 a41 a42 a43 a44 a45 a46 a47 a48 a49 a50 a51 a52 a53 a54 a55 a56 a57 a58 a59 a60 a61 a62 a63 wr => ∃ (i mw : Nat) (A' : Option Addr) (c' : Nat), a14 = .int .i64 (i : Int) ∧ a13 = .slice A' mw c' ∧ i ≤ F ∧ Hid (mw = (wantL t2 sw M R i).length ∧ wr.ownsRow w5.heap.size 34 8 (.slice A' mw c') mw (rowsL (wantL t2 sw M R i)) ∧ Below w5.heap.size w5 wr)) (fun a13 a14 a38 a39 a40 a41 a42 a43 a44 a45 a46 a47 a48 a49 a50 a51 a52 a53 a54 a55 a56 a57 a58 a59 a60 a61 a62 a63 _ => F - (intOf a14).toNat)
      case atStart => exact ⟨0, 0, none, 0, rfl, rfl, Nat.zero_le _, Lib.hid ⟨by simp [wantL], by simpa [wantL] using own_nil8 _ _ _, Below.refl _ _⟩⟩
      case round =>
        obtain ⟨i, mw, A', c', rfl, rfl, hi, HR⟩ := hrel
        by_cases hlt : i < F
        · have hiR : i < R.length := by rw [HPR.out.2.2, ← HFF.out]; exact hlt
          obtain ⟨gR, hAR, _⟩ := own_at8 HRW.out (by omega)
          subst hAR
          have hraw : RawEv wr (some ⟨gR, 0, none⟩) R := RawEv.of_own (own_below8 HRW.out HR.out.2.2 (Nat.le_refl _))
          obtain ⟨_, _, hAe, hcR⟩ := hraw (by omega)
          cases hAe
          have hx := RawEv.cells_at (w := wr) (b := gR) (o := 0) (S := R) (k := i) hcR hiR
          simp only [Nat.zero_add] at hx
          have HST := Lib.hid (want_step t2 sw M R i hiR)
          have hml : mw ≤ 60 := by have h1 := HR.out.1; have h2 := want_len t2 sw M R i; have := HF0.out; have := HPR.out.2.2; have := HFF.out; omega
          generalize evAt R i = x at hx HST
          have hgw := (HR.out.2.2.block b7 (Array.getElem?_eq_some_iff.1 HG5.out).1).trans HG5.out
          have s0 : wr.cell? ⟨b7, 0, none⟩ = some (.int .u64 (t2 : Int)) := by rw [cell_of_row wr _ 0 _ _ _ hgw]; rfl
          have s1 : wr.cell? ⟨b7, 1, none⟩ = some (.int .i64 sw) := by rw [cell_of_row wr _ 1 _ _ _ hgw]; rfl
          have HC := Lib.hid (And.intro s0 (And.intro s1 hx))
          have keep : ∀ W, Below wr.heap.size wr W → (W.cell? ⟨b7, 0, none⟩ = some (.int .u64 (t2 : Int)) ∧ W.cell? ⟨b7, 1, none⟩ = some (.int .i64 sw) ∧ (W.cell? ⟨gR, i * 8, none⟩ = some (.int .i64 x.e.writer) ∧ W.cell? ⟨gR, i * 8 + 1, none⟩ = some (.int .u64 (x.e.seq : Int)) ∧ W.cell? ⟨gR, i * 8 + 2, none⟩ = some (.int .u64 (x.e.time : Int)) ∧ W.cell? ⟨gR, i * 8 + 3, none⟩ = some (.int .u8 (x.e.kind : Int)) ∧ W.cell? ⟨gR, i * 8 + 4, none⟩ = some (.string x.e.key) ∧ W.cell? ⟨gR, i * 8 + 5, none⟩ = some (.slice x.A x.n x.c) ∧ W.cell? ⟨gR, i * 8 + 6, none⟩ = some (.float .f64 x.e.num) ∧ W.cell? ⟨gR, i * 8 + 7, none⟩ = some (.int .i64 x.e.node))) := fun W hb2 => by
            have old : ∀ {q : Addr} {v : Value}, wr.cell? q = some v → W.cell? q = some v := fun {q v} hq => by rw [hb2.cell (World.block_lt_of_cell? _ _ hq)]; exact hq
            obtain ⟨m1, m2, e0, e1, e2, e3, e4, e5, e6, e7⟩ := HC.out
            exact ⟨old m1, old m2, old e0, old e1, old e2, old e3, old e4, old e5, old e6, old e7⟩
          have HAT : ∀ (w0 : World), Below wr.heap.size wr w0 → Calls Try.prog 17 #[.agg #[.int .i64 x.e.writer, .int .u64 (x.e.seq : Int), .int .u64 (x.e.time : Int), .int .u8 (x.e.kind : Int), .string x.e.key, .slice x.A x.n x.c, .float .f64 x.e.num, .int .i64 x.e.node]] w0 fun e W => e = .returned (.agg #[.int .u64 (x.e.time : Int), .int .i64 x.e.writer]) ∧ Hid (Below wr.heap.size wr W) ∧ (W.cell? ⟨b7, 0, none⟩ = some (.int .u64 (t2 : Int)) ∧ W.cell? ⟨b7, 1, none⟩ = some (.int .i64 sw) ∧ (W.cell? ⟨gR, i * 8, none⟩ = some (.int .i64 x.e.writer) ∧ W.cell? ⟨gR, i * 8 + 1, none⟩ = some (.int .u64 (x.e.seq : Int)) ∧ W.cell? ⟨gR, i * 8 + 2, none⟩ = some (.int .u64 (x.e.time : Int)) ∧ W.cell? ⟨gR, i * 8 + 3, none⟩ = some (.int .u8 (x.e.kind : Int)) ∧ W.cell? ⟨gR, i * 8 + 4, none⟩ = some (.string x.e.key) ∧ W.cell? ⟨gR, i * 8 + 5, none⟩ = some (.slice x.A x.n x.c) ∧ W.cell? ⟨gR, i * 8 + 6, none⟩ = some (.float .f64 x.e.num) ∧ W.cell? ⟨gR, i * 8 + 7, none⟩ = some (.int .i64 x.e.node))) := fun w0 hW => by
            refine (refAt_any x.e x.A x.n x.c w0).mono ?_
            rintro e w' ⟨rfl, hb⟩
            have hb2 := hW.trans (hb.mono hW.size)
            exact ⟨rfl, Lib.hid hb2, keep _ hb2⟩
          have HAH : ∀ (w0 : World), Below wr.heap.size wr w0 → Calls Try.prog 16 #[.agg #[.int .u64 (t2 : Int), .int .i64 sw], .agg #[.int .u64 (x.e.time : Int), .int .i64 x.e.writer]] w0 fun e W => e = .returned (.bool (aftB t2 sw x)) ∧ Hid (Below wr.heap.size wr W) ∧ (W.cell? ⟨b7, 0, none⟩ = some (.int .u64 (t2 : Int)) ∧ W.cell? ⟨b7, 1, none⟩ = some (.int .i64 sw) ∧ (W.cell? ⟨gR, i * 8, none⟩ = some (.int .i64 x.e.writer) ∧ W.cell? ⟨gR, i * 8 + 1, none⟩ = some (.int .u64 (x.e.seq : Int)) ∧ W.cell? ⟨gR, i * 8 + 2, none⟩ = some (.int .u64 (x.e.time : Int)) ∧ W.cell? ⟨gR, i * 8 + 3, none⟩ = some (.int .u8 (x.e.kind : Int)) ∧ W.cell? ⟨gR, i * 8 + 4, none⟩ = some (.string x.e.key) ∧ W.cell? ⟨gR, i * 8 + 5, none⟩ = some (.slice x.A x.n x.c) ∧ W.cell? ⟨gR, i * 8 + 6, none⟩ = some (.float .f64 x.e.num) ∧ W.cell? ⟨gR, i * 8 + 7, none⟩ = some (.int .i64 x.e.node))) := fun w0 hW => by
            refine (ahead_any t2 sw x.e.time x.e.writer w0).mono ?_
            rintro e w' ⟨rfl, hb⟩
            have hb2 := hW.trans (hb.mono hW.size)
            exact ⟨rfl, Lib.hid hb2, keep _ hb2⟩
          have HTB := Lib.hid (fun W (hW : Below wr.heap.size wr W) => (show W.ownsRow w5.heap.size 34 8 (.slice A' mw c') mw (rowsL (wantL t2 sw M R i)) ∧ Below w5.heap.size w5 W from ⟨own_below8 HR.out.2.1 hW (Nat.le_refl _), HR.out.2.2.trans (hW.mono HR.out.2.2.size)⟩))
          have HML := Lib.hid HR.out.1
          have zi : (i : Int) < (F : Int) := by omega
          have zi0 : (0 : Int) ≤ (i : Int) := by omega
          have zi60 : (i : Int) ≤ 60 := by have := HF0.out; omega
          obtain ⟨e0, e1, e2, e3, e4, e5, e6, e7⟩ := hx
          have HKP := Lib.hid (fun W (hW : Below wr.drew.heap.size wr.drew W) => keep W (((Below.refl wr.heap.size wr).drew).trans hW))
          clear keep hgw hraw hcR
          obtain ⟨av, hav⟩ : ∃ av, aftB t2 sw x = av := ⟨_, rfl⟩
          rw [hav] at HAH HST
          have HAV := Lib.hid hav
          clear hav
          go_upto_region 12 with fail
          cases av with
          | true =>
            go_region_held3 (fun W => (W.cell? ⟨b7, 0, none⟩ = some (.int .u64 (t2 : Int)) ∧ W.cell? ⟨b7, 1, none⟩ = some (.int .i64 sw) ∧ (W.cell? ⟨gR, i * 8, none⟩ = some (.int .i64 x.e.writer) ∧ W.cell? ⟨gR, i * 8 + 1, none⟩ = some (.int .u64 (x.e.seq : Int)) ∧ W.cell? ⟨gR, i * 8 + 2, none⟩ = some (.int .u64 (x.e.time : Int)) ∧ W.cell? ⟨gR, i * 8 + 3, none⟩ = some (.int .u8 (x.e.kind : Int)) ∧ W.cell? ⟨gR, i * 8 + 4, none⟩ = some (.string x.e.key) ∧ W.cell? ⟨gR, i * 8 + 5, none⟩ = some (.slice x.A x.n x.c) ∧ W.cell? ⟨gR, i * 8 + 6, none⟩ = some (.float .f64 x.e.num) ∧ W.cell? ⟨gR, i * 8 + 7, none⟩ = some (.int .i64 x.e.node)))) (first | exact ⟨s0, s1, e0, e1, e2, e3, e4, e5, e6, e7⟩ | go_keep | assumption)
              (first
                | (go_at_call 17
                   refine (HAT _ ?h1).mono ?_
                   case h1 => first | exact Below.refl _ _ | exact (Below.refl _ _).drew | exact Hid.out (by assumption)
                   rintro e w' ⟨rfl, hb, q0, q1, q2, q3, q4, q5, q6, q7, q8, q9⟩)
                | (go_at_call 16
                   refine (HAH _ ?h1).mono ?_
                   case h1 => first | exact Below.refl _ _ | exact (Below.refl _ _).drew | exact Hid.out (by assumption)
                   rintro e w' ⟨rfl, hb, q0, q1, q2, q3, q4, q5, q6, q7, q8, q9⟩))
            have HW6 := Lib.hid (HTB.out w' hb.out)
            clear HAT HAH HC HTB e0 e1 e2 e3 e4 e5 e6 e7 s0 s1 q0 q1 hb
            by_cases hlm : (mw : Int) < m2
            · have HNX := Lib.hid (show wantL t2 sw M R (i + 1) = wantL t2 sw M R i ++ [x] by rw [HST.out, if_pos ⟨by simp, by rw [← HML.out, HMM.out]; omega⟩])
              have hsf := store_float Try.prog
              go_wp2_with (first | (refine wpList_appE rfl (.tmp 57) (.tmp 62) 26 rfl w5.heap.size 34 ie zeroEV Try.underlying26 hie hze hsze hbye rfl A' mw c' (wantL t2 sw M R i) ?hs ?hown (some ⟨w'.heap.size, 0, none⟩) 1 1 [x] ?hx ?hl ?hq ?h63 ?hbase ?h))
              case hs => rfl
              case hown => exact own_below8 HW6.out.1 ((Below.refl _ _).alloc (Nat.le_refl _) _) (Nat.le_refl _)
              case hx => rfl
              case hl => rfl
              case hq =>
                intro _
                refine ⟨w'.heap.size, 0, rfl, fun j v hv => ?_⟩
                rw [Nat.zero_add, cell_of_row _ _ _ _ _ _ (heap_alloc_new w' _)]
                have e : rowsL [x] = x.cells := by simp [rowsL]
                rw [e] at hv
                have hv2 : (x.cells.toArray)[j]? = some v := by rw [List.getElem?_toArray]; exact hv
                exact hv2
              case h63 => omega
              case hbase => have := HW6.out.2.size; simp; omega
              intro A2 c2 wb own2 hbb
              have HR2 := Lib.hid (show mw + 1 = (wantL t2 sw M R (i + 1)).length ∧ wb.ownsRow w5.heap.size 34 8 (.slice A2 (mw + 1) c2) (mw + 1) (rowsL (wantL t2 sw M R (i + 1))) ∧ Below w5.heap.size w5 wb from ⟨by rw [HNX.out, List.length_append, ← HML.out]; rfl, by rw [HNX.out]; exact own2, (HW6.out.2.alloc HW6.out.2.size _).trans hbb⟩)
              clear own2 hbb HNX HW6 HST HML q2 q3 q4 q5 q6 q7 q8 q9 hsf
              obtain ⟨mw2, hmw2⟩ : ∃ mw2, mw2 = mw + 1 := ⟨_, rfl⟩
              rw [← hmw2] at HR2 ⊢
              clear hmw2
              go_wp2
              go_roundw
              case rel => exact ⟨i + 1, mw2, A2, c2, by simp, rfl, by omega, HR2⟩
              case measure => simp [intOf]; omega
            · have HNX := Lib.hid (show wantL t2 sw M R (i + 1) = wantL t2 sw M R i by rw [HST.out, if_neg (fun h => by have h2 := h.2; rw [← HML.out, HMM.out] at h2; omega)])
              have HR2 := Lib.hid (show mw = (wantL t2 sw M R (i + 1)).length ∧ w'.ownsRow w5.heap.size 34 8 (.slice A' mw c') mw (rowsL (wantL t2 sw M R (i + 1))) ∧ Below w5.heap.size w5 w' from ⟨by rw [HNX.out]; exact HML.out, by rw [HNX.out]; exact HW6.out.1, HW6.out.2⟩)
              clear HNX HW6 HST HML q2 q3 q4 q5 q6 q7 q8 q9
              go_wp2
              go_roundw
              case rel => exact ⟨i + 1, mw, A', c', by simp, rfl, by omega, HR2⟩
              case measure => simp [intOf]; omega
          | false =>
            have HNX := Lib.hid (show wantL t2 sw M R (i + 1) = wantL t2 sw M R i by rw [HST.out, if_neg (fun h => absurd h.1 (by simp))])
            obtain ⟨HC1, HC2⟩ : Hid (∀ W, Below wr.drew.heap.size wr.drew W → (W.cell? ⟨b7, 0, none⟩ = some (.int .u64 (t2 : Int)) ∧ W.cell? ⟨b7, 1, none⟩ = some (.int .i64 sw) ∧ (W.cell? ⟨gR, i * 8, none⟩ = some (.int .i64 x.e.writer) ∧ W.cell? ⟨gR, i * 8 + 1, none⟩ = some (.int .u64 (x.e.seq : Int)) ∧ W.cell? ⟨gR, i * 8 + 2, none⟩ = some (.int .u64 (x.e.time : Int)) ∧ W.cell? ⟨gR, i * 8 + 3, none⟩ = some (.int .u8 (x.e.kind : Int)) ∧ W.cell? ⟨gR, i * 8 + 4, none⟩ = some (.string x.e.key) ∧ W.cell? ⟨gR, i * 8 + 5, none⟩ = some (.slice x.A x.n x.c) ∧ W.cell? ⟨gR, i * 8 + 6, none⟩ = some (.float .f64 x.e.num) ∧ W.cell? ⟨gR, i * 8 + 7, none⟩ = some (.int .i64 x.e.node)))) ∧ Hid (wr = wr) := ⟨HKP, Lib.hid rfl⟩
            refine Facts.wp_region_preds (n := 70) (by kernel_rfl) (by kernel_rfl) rfl [Facts.Pred.is (.agg #[.int .u64 (t2 : Int), .int .i64 sw]), Facts.Pred.is (.slice (some ⟨gR, 0, none⟩) F cR), Facts.Pred.is (.int .i64 (i : Int)), Facts.Pred.is (.pointer (some ⟨gR, i * 8, none⟩)), Facts.Pred.is (.agg #[.int .i64 x.e.writer, .int .u64 (x.e.seq : Int), .int .u64 (x.e.time : Int), .int .u8 (x.e.kind : Int), .string x.e.key, .slice x.A x.n x.c, .float .f64 x.e.num, .int .i64 x.e.node]), Facts.Pred.is (.agg #[.int .u64 (x.e.time : Int), .int .i64 x.e.writer]), Facts.Pred.is (.bool false), Facts.Pred.is (.bool false), Facts.Pred.any, Facts.Pred.any, Facts.Pred.any, Facts.Pred.any, Facts.Pred.is (.bool false)] ?_ ?_
            · refine ⟨?_, ?_, ?_, ?_, ?_, ?_, ?_, ?_, ?_, ?_, ?_, ?_, ?_, trivial⟩
              · refine Facts.step_is (.agg #[.int .u64 (t2 : Int), .int .i64 sw]) fun a W hR hold hnew => ?_
                have f7 : a.tmps.getD 7 undef = Value.pointer (some ⟨b7, 0, none⟩) := hold 7 (by kernel_rfl)
                obtain ⟨q0, q1, q2, q3, q4, q5, q6, q7, q8, q9⟩ := HC1.out W hR
                refine ⟨Facts.wanted_free rfl, ?_, fun _ => rfl⟩
                simp [go_sem, Act.eval, f7, q0, q1]
              · refine Facts.step_is (.slice (some ⟨gR, 0, none⟩) F cR) fun a W hR hold hnew => ?_
                have f12 : a.tmps.getD 12 undef = Value.slice (some ⟨gR, 0, none⟩) F cR := hold 12 (by kernel_rfl)
                refine ⟨Facts.wanted_free rfl, ?_, fun _ => rfl⟩
                simp [go_sem, Act.eval, f12]
              · refine Facts.step_is (.int .i64 (i : Int)) fun a W hR hold hnew => ?_
                have f14 : a.tmps.getD 14 undef = Value.int .i64 (i : Int) := hold 14 (by kernel_rfl)
                refine ⟨Facts.wanted_free rfl, ?_, fun _ => rfl⟩
                simp [go_sem, Act.eval, f14]
              · refine Facts.step_is (.pointer (some ⟨gR, i * 8, none⟩)) fun a W hR hold hnew => ?_
                have f45 : a.tmps.getD 45 undef = Value.slice (some ⟨gR, 0, none⟩) F cR := hnew 1 45 (by kernel_rfl)
                have f46 : a.tmps.getD 46 undef = Value.int .i64 (i : Int) := hnew 2 46 (by kernel_rfl)
                refine ⟨Facts.wanted_free rfl, ?_, fun _ => rfl⟩
                simp [go_sem, Act.eval, f45, f46, zi, zi0]
              · refine Facts.step_is (.agg #[.int .i64 x.e.writer, .int .u64 (x.e.seq : Int), .int .u64 (x.e.time : Int), .int .u8 (x.e.kind : Int), .string x.e.key, .slice x.A x.n x.c, .float .f64 x.e.num, .int .i64 x.e.node]) fun a W hR hold hnew => ?_
                have f47 : a.tmps.getD 47 undef = Value.pointer (some ⟨gR, i * 8, none⟩) := hnew 3 47 (by kernel_rfl)
                obtain ⟨q0, q1, q2, q3, q4, q5, q6, q7, q8, q9⟩ := HC1.out W hR
                refine ⟨Facts.wanted_free rfl, ?_, fun _ => rfl⟩
                simp [go_sem, Act.eval, f47, q2, q3, q4, q5, q6, q7, q8, q9]
              · refine Facts.step_call fun a W hR hold hnew => ?_
                have f48 : a.tmps.getD 48 undef = Value.agg #[.int .i64 x.e.writer, .int .u64 (x.e.seq : Int), .int .u64 (x.e.time : Int), .int .u8 (x.e.kind : Int), .string x.e.key, .slice x.A x.n x.c, .float .f64 x.e.num, .int .i64 x.e.node] := hnew 4 48 (by kernel_rfl)
                refine ⟨Facts.wanted_free rfl, 17, #[.agg #[.int .i64 x.e.writer, .int .u64 (x.e.seq : Int), .int .u64 (x.e.time : Int), .int .u8 (x.e.kind : Int), .string x.e.key, .slice x.A x.n x.c, .float .f64 x.e.num, .int .i64 x.e.node]], by simp [go_sem, Act.eval, f48], (refAt_any x.e x.A x.n x.c W).mono ?_⟩
                rintro e w' ⟨rfl, hb⟩
                exact ⟨_, rfl, hb, rfl⟩
              · refine Facts.step_call fun a W hR hold hnew => ?_
                have f44 : a.tmps.getD 44 undef = Value.agg #[.int .u64 (t2 : Int), .int .i64 sw] := hnew 0 44 (by kernel_rfl)
                have f49 : a.tmps.getD 49 undef = Value.agg #[.int .u64 (x.e.time : Int), .int .i64 x.e.writer] := hnew 5 49 (by kernel_rfl)
                refine ⟨Facts.wanted_free rfl, 16, #[.agg #[.int .u64 (t2 : Int), .int .i64 sw], .agg #[.int .u64 (x.e.time : Int), .int .i64 x.e.writer]], by simp [go_sem, Act.eval, f44, f49], (ahead_any t2 sw x.e.time x.e.writer W).mono ?_⟩
                rintro e w' ⟨rfl, hb⟩
                exact ⟨_, rfl, hb, congrArg Value.bool HAV.out⟩
              · refine Facts.step_is (.bool false) fun a W hR hold hnew => ?_
                have f50 : a.tmps.getD 50 undef = Value.bool false := hnew 6 50 (by kernel_rfl)
                refine ⟨Facts.wanted_free rfl, ?_, fun _ => rfl⟩
                simp [go_sem, Act.eval, f50]
              · refine step_skip (fun a W hnew => ?_) (fun _ => trivial)
                have g51 : a.tmps.getD 51 undef = .bool false := hnew 7 51 (by kernel_rfl)
                exact wanted_not rfl (by kernel_rfl) g51
              · refine step_skip (fun a W hnew => ?_) (fun _ => trivial)
                have g51 : a.tmps.getD 51 undef = .bool false := hnew 7 51 (by kernel_rfl)
                exact wanted_not rfl (by kernel_rfl) g51
              · refine step_skip (fun a W hnew => ?_) (fun _ => trivial)
                have g51 : a.tmps.getD 51 undef = .bool false := hnew 7 51 (by kernel_rfl)
                exact wanted_not rfl (by kernel_rfl) g51
              · refine step_skip (fun a W hnew => ?_) (fun _ => trivial)
                have g51 : a.tmps.getD 51 undef = .bool false := hnew 7 51 (by kernel_rfl)
                exact wanted_not rfl (by kernel_rfl) g51
              · refine Facts.step_is (.bool false) fun a W hR hold hnew => ?_
                have f51 : a.tmps.getD 51 undef = Value.bool false := hnew 7 51 (by kernel_rfl)
                refine ⟨Facts.wanted_free rfl, ?_, fun _ => rfl⟩
                simp [go_sem, Act.eval, f51]
            · intro a w9 hR' hsize hdef hnew hold
              have f56 : a.tmps.getD 56 undef = Value.bool false := hnew 12 56 (by kernel_rfl)
              obtain ⟨tm9, df⟩ := a
              have hfr := frame_region hsize (by rfl) hold
              clear hnew hold
              simp only [List.filterMap_cons, List.filterMap_nil] at hfr
              simp only [List.foldl_cons, List.foldl_nil, List.setIfInBounds_toArray, List.set_cons_succ, List.set_cons_zero] at hfr
              simp only [] at f56 hdef
              rw [f56] at hfr
              clear f56 hsize
              generalize tm9.getD 44 undef = y44 at hfr
              generalize tm9.getD 45 undef = y45 at hfr
              generalize tm9.getD 46 undef = y46 at hfr
              generalize tm9.getD 47 undef = y47 at hfr
              generalize tm9.getD 48 undef = y48 at hfr
              generalize tm9.getD 49 undef = y49 at hfr
              generalize tm9.getD 50 undef = y50 at hfr
              generalize tm9.getD 51 undef = y51 at hfr
              generalize tm9.getD 52 undef = y52 at hfr
              generalize tm9.getD 53 undef = y53 at hfr
              generalize tm9.getD 54 undef = y54 at hfr
              generalize tm9.getD 55 undef = y55 at hfr
              subst hfr
              subst hdef
              have HW6 := Lib.hid (HTB.out w9 (((Below.refl wr.heap.size wr).drew).trans hR'))
              have HR2 := Lib.hid (show mw = (wantL t2 sw M R (i + 1)).length ∧ w9.ownsRow w5.heap.size 34 8 (.slice A' mw c') mw (rowsL (wantL t2 sw M R (i + 1))) ∧ Below w5.heap.size w5 w9 from ⟨by rw [HNX.out]; exact HML.out, by rw [HNX.out]; exact HW6.out.1, HW6.out.2⟩)
              clear HNX HW6 HST HML HAT HAH HC HTB e0 e1 e2 e3 e4 e5 e6 e7 s0 s1 hR' HC1 HC2 HKP
              go_wp2_with fail
              go_roundw
              case rel => exact ⟨i + 1, mw, A', c', by simp, rfl, by omega, HR2⟩
              case measure => simp [intOf]; omega
        · obtain rfl : i = F := by omega
          have hmw := HR.out.1
          have hQ : wantL t2 sw M R i = (R.filter (aftB t2 sw)).take M := by
            have htk : R.take i = R := List.take_of_length_le (by rw [HPR.out.2.2, ← HFF.out]; exact Nat.le_refl _)
            unfold wantL
            rw [htk]
          obtain ⟨m, hmd⟩ : ∃ m, m = mw := ⟨_, rfl⟩
          have hml : mw = Nat.min M (R.filter (aftB t2 sw)).length := by rw [hmw, hQ, List.length_take]
          have hpf : (R.filter (aftB t2 sw)).Perm ((flat L).filter (aftB t2 sw)) := HPR.out.1.filter _
          have hlf := List.length_filter_le (aftB t2 sw) (flat L)
          have hml2 : (m : Int) = max 0 (min m2 (((flat L).filter (aftB t2 sw)).length : Int)) := by
            rw [hmd, hml, ← hpf.length_eq, HMM.out]
            generalize (R.filter (aftB t2 sw)).length = q
            show ((min m2.toNat q : Nat) : Int) = _
            omega
          have hbW := HB45.out.trans (HR.out.2.2.mono HB45.out.size)
          have GLW := HGL.out.later hbW hbW.size
          have RG := range_any (some ⟨ob, 0, none⟩) wn L wr GLW (by rw [HLN.out]; omega) (by rw [← HFF.out]; have := HF0.out; omega) t2 sw m2 hm21 hm22 m hml2
          rw [HLN.out] at RG
          have hg9 := (HR.out.2.2.block b7 (Array.getElem?_eq_some_iff.1 HG5.out).1).trans HG5.out
          have s0 : wr.cell? ⟨b7, 0, none⟩ = some (.int .u64 (t2 : Int)) := by rw [cell_of_row wr _ 0 _ _ _ hg9]; rfl
          have s1 : wr.cell? ⟨b7, 1, none⟩ = some (.int .i64 sw) := by rw [cell_of_row wr _ 1 _ _ _ hg9]; rfl
          have SAM : ∀ g S rs rest W, S.length = m → RowAt g m S W → S.map EvS.e = rs.map EvS.e → (rs ++ rest).Perm ((flat L).filter (aftB t2 sw)) → Rises rs → (∀ r ∈ rs, ∀ e ∈ rest, evLe r e) → rs.length = m → Below wr.heap.size wr W →
              Calls Try.prog 13 #[.slice (some ⟨g, 0, none⟩) m m, .slice A' mw c'] W fun e w' => e = .returned (.bool true) ∧ Hid (Below w.heap.size w w') := fun g S rs rest W h1 h2 h3 h4 h5 h6 h7 hW => by
            have hris : Rises (R.filter (aftB t2 sw)) := List.Pairwise.sublist (List.filter_sublist) HPR.out.2.1
            have hrs := take_of_split hris (h4.trans hpf.symm) h5 h6 (fun a b ha hb => HAN.out a b ((HPR.out.1.mem_iff).1 (List.mem_filter.1 ha).1) ((HPR.out.1.mem_iff).1 (List.mem_filter.1 hb).1))
            have hwl : wantL t2 sw M R i = rs := by
              rw [hQ, hrs, h7, hmd, hml]
              generalize R.filter (aftB t2 sw) = Q
              show Q.take M = Q.take (min M Q.length)
              rcases Nat.le_total M Q.length with h | h
              · rw [Nat.min_eq_left h]
              · rw [Nat.min_eq_right h, List.take_of_length_le h, List.take_length]
            have hmem : ∀ r ∈ rs, r ∈ flat L := fun r hr => (List.mem_filter.1 (h4.mem_iff.1 (List.mem_append.2 (.inl hr)))).1
            have hgl := GLW.text
            rw [hmd]
            rw [hmd] at h1
            refine (sameAllR_any (some ⟨g, 0, none⟩) A' mw mw c' S rs W ⟨h2.raw, fun r hr => (h2.text r hr).sees⟩ ⟨RawEv.of_own (own_below8 (by rw [← hwl]; exact HR.out.2.1) hW (Nat.le_refl _)), fun r hr => ((hgl r (hmem r hr)).below hW).sees⟩ h1 (by rw [h7, hmd]) h3 (fun r hr => ?_) (by have := HF0.out; have := HFF.out; rw [hml]; have h8 := hpf.length_eq; have := Nat.min_le_right M (R.filter (aftB t2 sw)).length; omega)).mono ?_
            · have hre : r.e ∈ rs.map EvS.e := by rw [← h3]; exact List.mem_map.2 ⟨r, hr, rfl⟩
              obtain ⟨r', hr', he'⟩ := List.mem_map.1 hre
              rw [← he']
              exact HRT.out r' (hmem r' hr')
            · rintro e w' ⟨rfl, hb⟩
              exact ⟨rfl, Lib.hid (HB5.out.trans ((HR.out.2.2.trans ((hW.trans (hb.mono hW.size)).mono HR.out.2.2.size)).mono HB5.out.size))⟩
          have HRG := Lib.hid RG
          have HSA := Lib.hid SAM
          clear hmw hQ hml hpf hlf hml2 hbW GLW RG hg9 SAM hmd
          clear HR HPR HGL
          go_wp2_with fail
          refine HRG.out.mono ?_
          rintro e w6 ⟨g, S, rs, rest, rfl, r1, r2, r3, r4, r5, r6, r7, r8, hb6⟩
          have HS6 := Lib.hid (HSA.out g S rs rest w6 r1 r2 r4 r5 r6 r7 r8 hb6)
          clear r1 r2 r3 r4 r5 r6 r7 r8 hb6 HRG HSA
          go_wp2_with fail
          refine HS6.out.mono ?_
          rintro e w7 ⟨rfl, H7⟩
          go_wp2
          go_ret
          exact ⟨rfl, H7.out⟩
end Go.Proofs.Ytlacihgoammjgaa.Ord
