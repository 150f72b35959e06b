/- EventJunk, walked. -/
import Derived.Test.YtpakjlgohbofhaaEvBytes
namespace Go.Proofs.Ytpakjlgohbofhaa.Evt
open Go Go.RowKit Go.Proofs.Ytpakjlgohbofhaa.Words Go.Proofs.Ytpakjlgohbofhaa.Enc Go.Proofs.Ytpakjlgohbofhaa.Q Go.Proofs.Ytpakjlgohbofhaa.Made Go.Proofs.Ytpakjlgohbofhaa.Tape
set_option linter.unusedVariables false
set_option linter.unusedSimpArgs false

/-! An error's number is not 0. -/
theorem frame_fold (tm : Array Value) : ∀ (ds : List Nat) (u : Array Value), u.size = tm.size → (∀ t, t ∉ ds → tm.getD t undef = u.getD t undef) → tm = ds.foldl (fun u d => u.setIfInBounds d (tm.getD d undef)) u
  | [], u, hs, h => by
    apply Array.ext
    · exact hs.symm
    · intro i h1 h2
      have h3 : i < u.size := by omega
      have := h i (by simp)
      simpa [Array.getD, h1, h3] using this
  | d :: ds, u, hs, h => by
    refine frame_fold tm ds (u.setIfInBounds d (tm.getD d undef)) (by simp [hs]) fun t ht => ?_
    by_cases e : d = t
    · subst e
      by_cases hb : d < u.size
      · have hb' : d < tm.size := by omega
        simp [Array.getD, hb, hb']
      · have hb' : ¬ d < tm.size := by omega
        simp [Array.getD, hb, hb']
    · have := h t (by simp only [List.mem_cons, not_or]; exact ⟨fun x => e x.symm, ht⟩)
      rw [this]
      simp only [Array.getD_eq_getD_getElem?]
      rw [Array.getElem?_setIfInBounds_ne e]
theorem frame_region {n : Nat} {l : List Oper} {tm tm0 : Array Value} (hs : tm.size = n) (hs0 : tm0.size = n) (hold : ∀ t : Nat, (∀ i : Nat, (l.toArray[i]?).bind (·.dst) ≠ some t) → tm.getD t undef = tm0.getD t undef) :
    tm = (l.filterMap (·.dst)).foldl (fun u d => u.setIfInBounds d (tm.getD d undef)) tm0 := by
  refine frame_fold tm _ tm0 (by omega) fun t ht => hold t fun i e => ht ?_
  rw [List.getElem?_toArray] at e
  cases ho : l[i]? with
  | none => rw [ho] at e; cases e
  | some o =>
    rw [ho] at e
    exact List.mem_filterMap.2 ⟨o, List.mem_of_getElem? ho, e⟩
/-- A guard that is itself left out. -/
theorem wanted_undef {ops : Array Oper} {o : Oper} {a : Act} {g d : Nat} {b : Bool} (h : o.guard = some (g, b)) (hd : (ops[g]?).bind (·.dst) = some d) (hv : a.tmps.getD d undef = undef) : Region.wanted o (yielded ops a.tmps) = false := by
  have hy : yielded ops a.tmps g = none := by
    unfold yielded
    rw [hd]
    simp only [Option.bind_some]
    rw [Array.getD_eq_getD_getElem?] at hv
    cases hc : a.tmps[d]? with
    | none => rfl
    | some v =>
      rw [hc] at hv
      simp only [Option.getD_some] at hv
      rw [hv]
      rfl
  simp [Region.wanted, h, hy]

theorem evL_pos (e : Ev) : 0 < (evL e).length := by
  have := enc_pos e.writer.toNat
  unfold evL
  simp only [List.length_append]
  omega

set_option maxRecDepth 100000 in
set_option maxHeartbeats 4000000 in
theorem junk_law (P : Option Addr) (pn pc : Nat) (p : List UInt8) (e : Ev) (A : Option Addr) (n c x t z : Nat) (w : World) (hp : Sees w P pn p) (hpc : pn ≤ pc) (hpn : pn ≤ 9223372036854775807) (hf : e.Fit) (hs : Sees w A n e.text) (hn : n ≤ 9223372036854775807) (hk : e.key.size ≤ 9223372036854775807) (hx : x < 65536) (ht : t < 256) (hz : z < 65536) :
    Calls Try.prog 4 #[.slice P pn pc, e.val A n c, .int .u16 (x : Int), .int .u8 (t : Int), .int .u16 (z : Int)] w fun e' w' => e' = .returned (.bool true) ∧ Below w.heap.size w w' := by
  show Calls _ _ #[_, .agg (e.row A n c), _, _, _] _ _
  unfold Ev.row
  have hsf := store_float Try.prog
  have hbx : ∀ W, Below (w.heap.size + 1) (w.alloc (.cells #[.int .i64 e.writer, .int .u64 (e.seq : Int), .int .u64 (e.time : Int), .int .u8 (e.kind : Int), .string e.key, .slice A n c, .float .f64 e.num, .int .i64 e.node] 26)) W → _ := fun W hW => boxed _ w hW
  have HBX := Lib.hid hbx
  clear hbx
  by_cases h1 : 300 < pn
  case pos =>
    go_enter Try.func4, Try.ntmps4
    go_wp2_with fail
    refine (awake_any _).mono ?_
    rintro e' u1 ⟨rfl, hb⟩
    obtain ⟨bel, g0, hz0⟩ := HBX.out u1 (hb.mono (by simp))
    obtain ⟨p0, p1, p2, p3, p4, p5, p6, p7⟩ := box8 g0
    go_wp2_with fail
    refine (awake_any _).mono ?_
    rintro e' u2 ⟨rfl, hb2⟩
    have bel2 := bel.trans (hb2.mono (by omega))
    clear p0 p1 p2 p3 p4 p5 p6 p7
    go_wp2
    go_ret
    exact ⟨rfl, bel2⟩
  by_cases h2 : 64 < e.key.size
  case pos =>
    go_enter Try.func4, Try.ntmps4
    go_wp2_with fail
    refine (awake_any _).mono ?_
    rintro e' u1 ⟨rfl, hb⟩
    obtain ⟨bel, g0, hz0⟩ := HBX.out u1 (hb.mono (by simp))
    obtain ⟨p0, p1, p2, p3, p4, p5, p6, p7⟩ := box8 g0
    go_wp2_with fail
    refine (awake_any _).mono ?_
    rintro e' u2 ⟨rfl, hb2⟩
    have bel2 := bel.trans (hb2.mono (by omega))
    clear p0 p1 p2 p3 p4 p5 p6 p7
    go_wp2
    go_ret
    exact ⟨rfl, bel2⟩
  by_cases h3 : 200 < n
  case pos =>
    go_enter Try.func4, Try.ntmps4
    go_wp2_with fail
    refine (awake_any _).mono ?_
    rintro e' u1 ⟨rfl, hb⟩
    obtain ⟨bel, g0, hz0⟩ := HBX.out u1 (hb.mono (by simp))
    obtain ⟨p0, p1, p2, p3, p4, p5, p6, p7⟩ := box8 g0
    go_wp2_with fail
    refine (awake_any _).mono ?_
    rintro e' u2 ⟨rfl, hb2⟩
    have bel2 := bel.trans (hb2.mono (by omega))
    clear p0 p1 p2 p3 p4 p5 p6 p7
    go_wp2
    go_ret
    exact ⟨rfl, bel2⟩
  go_enter Try.func4, Try.ntmps4
  go_wp2_with fail
  refine (awake_any _).mono ?_
  rintro e' u1 ⟨rfl, hb⟩
  obtain ⟨bel, g0, hz0⟩ := HBX.out u1 (hb.mono (by simp))
  obtain ⟨p0, p1, p2, p3, p4, p5, p6, p7⟩ := box8 g0
  go_wp2_with fail
  refine (near_any e A n c 255 u1 hf hk).mono ?_
  rintro e' u2 ⟨rfl, hb2⟩
  have bel2 := bel.trans (hb2.mono (by omega))
  have fit := near_fit (how := 255) hf
  have hR := near_right (how := 255) (e := e) (by decide) (by omega) (by have := hs.1; omega)
  have s2 : Sees u2 A n (nearE e 255).text := by rw [near_text]; exact hs.below bel2
  have htl : n = (nearE e 255).text.length := s2.1.symm
  have hpp2 := hp.below bel2
  obtain ⟨v, hv⟩ : ∃ v, v = nearE e 255 := ⟨_, rfl⟩
  rw [← hv] at fit hR s2 htl ⊢
  clear hv
  clear p0 p1 p2 p3 p4 p5 p6 p7 g0 hb bel hb2 hs hf hk HBX h2 hz0 hp
  have hq : v.num < 18446744073709551616 := fit.q
  have HTL := Lib.hid htl
  clear htl
  go_wp2_with fail
  refine (refEncode_any v A n c u2 s2 hq hR).mono ?_
  rintro e' u3 ⟨A5, c5, rfl, own5, hb5⟩
  have bel3 := bel2.trans (hb5.mono bel2.size)
  have hpp3 := hpp2.below hb5
  have hcap5 := Own.cap own5
  have sb3 := Sees.of_own own5
  have hL : (evL v).length ≤ 2000 := by
    have := evL_len hR
    have := HTL.out
    omega
  have hL0 := evL_pos v
  clear own5 bel2 s2 hpp2 HTL hq hR fit
  generalize evL v = b at hL hL0 sb3 hcap5 ⊢
  obtain ⟨PN, hPN⟩ : ∃ PN, PN = b.length := ⟨_, rfl⟩
  rw [← hPN] at hL hL0 sb3 hcap5 ⊢
  have HPN := Lib.hid hPN
  clear hPN
  obtain ⟨i, hi, hz', hsz, hby⟩ := info_parts info8
  go_wp2_with (first | (at_builtin; refine wpList_app rfl _ _ 23 rfl u3.heap.size 5 i (.int .u8 0) Try.underlying23 hi hz' hsz hby rfl none 0 0 [] rfl (Own.nil _ _ _) A5 PN c5 b rfl sb3 ?d1 ?d2 ?_))
  case d1 => omega
  case d2 => exact Nat.le_refl _
  intro A6 c6 u4 hown hb4
  obtain ⟨hcap6, hcap7⟩ := Own.cap hown
  obtain ⟨g6, rfl, hg6⟩ := Own.at_ hown hL0
  clear hi hz' hsz hby
  obtain ⟨j, hj⟩ : ∃ j, j = x % PN := ⟨_, rfl⟩
  have hjl : j < PN := by rw [hj]; exact Nat.mod_lt _ hL0
  have hxj : (x : Int) % (PN : Int) = (j : Int) := by rw [hj]; omega
  clear hj
  have hjw : j < b.length := by rw [← HPN.out]; exact hjl
  obtain ⟨T, hT⟩ : ∃ T : UInt8, T.toNat = t := ⟨b8 t, by rw [b8_toNat]; omega⟩
  have hcell : u4.cell? ⟨g6, j, none⟩ = some (.int .u8 (b[j].toNat : Int)) := by
    rw [hown.cellAt j (by omega), cs_get (List.getElem?_eq_getElem hjw)]
  have hfr : u4.frozen? ⟨g6, j, none⟩ = false := hown.frozenAt j
  have hstored := hown.stored j (.int .u8 ((b[j] ^^^ T).toNat : Int))
  have hset : (cs b).set j (.int .u8 ((b[j] ^^^ T).toNat : Int)) = cs (b.set j (b[j] ^^^ T)) := by simp [cs, List.map_set]
  rw [hset] at hstored
  have hxor : bits .xor .u8 (b[j].toNat : Int) (t : Int) = ((b[j] ^^^ T).toNat : Int) := by
    rw [← hT, u8_xor_nat _ _ b[j].toNat_lt T.toNat_lt, UInt8.toNat_xor]
  generalize b[j] ^^^ T = y2 at hstored hxor
  generalize b[j] = y1 at hcell hxor
  have HST := Lib.hid hstored.1
  clear hset hstored hjw hT
  go_wp2_with fail
  go_region
  have b35 : Below u3.heap.size u3 ((u4.setCell ⟨g6, j, none⟩ (.int .u8 (y2.toNat : Int))).drew) := (hb4.setCell hg6 _).drew
  have sc5 : Sees ((u4.setCell ⟨g6, j, none⟩ (.int .u8 (y2.toNat : Int))).drew) (some ⟨g6, 0, none⟩) PN (b.set j y2) := (Sees.of_own HST.out).drew
  have sb5 := sb3.below b35
  have sp5 := hpp3.below b35
  have bel5 := bel3.trans (b35.mono bel3.size)
  generalize (u4.setCell ⟨g6, j, none⟩ (.int .u8 (y2.toNat : Int))).drew = u5 at sb5 sp5 sc5 bel5 ⊢
  clear hown hcell hfr hxor b35 hb4 HST sb3 hpp3 bel3 hxj hjl hg6
  obtain ⟨k, hk⟩ : ∃ k, k = z % (PN + 1) := ⟨_, rfl⟩
  have hkl : k ≤ PN := by rw [hk]; exact Nat.le_of_lt_succ (Nat.mod_lt _ (Nat.succ_pos _))
  have hzk : (z : Int) % ((PN : Int) + 1) = (k : Int) := by rw [hk]; rfl
  clear hk
  have sk5 := sb5.take hkl
  obtain ⟨g, o, rfl, hgo⟩ := sb5.2 hL0
  clear hgo sb5
  go_wp2_with fail
  have hA := (Below.refl u5.heap.size u5).alloc (Nat.le_refl _) (.cells #[.slice P pn pc, .slice (some ⟨g6, 0, none⟩) PN c6, .slice (some ⟨g, o, none⟩) k c5] 23)
  have f6 := heap_alloc_new u5 (.cells #[.slice P pn pc, .slice (some ⟨g6, 0, none⟩) PN c6, .slice (some ⟨g, o, none⟩) k c5] 23)
  have sp6 := sp5.below hA
  have sc6 := sc5.below hA
  have sk6 := sk5.below hA
  have bel6 := bel5.trans (hA.mono bel5.size)
  have hz6 : (u5.alloc (.cells #[.slice P pn pc, .slice (some ⟨g6, 0, none⟩) PN c6, .slice (some ⟨g, o, none⟩) k c5] 23)).heap.size = u5.heap.size + 1 := by simp
  generalize u5.alloc (.cells #[.slice P pn pc, .slice (some ⟨g6, 0, none⟩) PN c6, .slice (some ⟨g, o, none⟩) k c5] 23) = w6 at f6 sp6 sc6 sk6 bel6 hz6 ⊢
  have HQ : Hid (∀ W, Below w6.heap.size w6 W → Below w.heap.size w W ∧ ∀ j : Nat, j < 3 → ∃ A7 n7 c7 l7, W.cell? ⟨u5.heap.size, j, none⟩ = some (.slice A7 n7 c7) ∧ Sees W A7 n7 l7 ∧ n7 ≤ c7 ∧ n7 ≤ 900000000) := Lib.hid fun W hW => by
    have hb : W.heap[u5.heap.size]? = some (.cells #[.slice P pn pc, .slice (some ⟨g6, 0, none⟩) PN c6, .slice (some ⟨g, o, none⟩) k c5] 23 (0, 0)) := (hW.block u5.heap.size (by omega)).trans f6
    refine ⟨bel6.trans (hW.mono bel6.size), fun j hj => ?_⟩
    match j, hj with
    | 0, _ => exact ⟨P, pn, pc, p, by rw [cell_of_row W u5.heap.size _ _ _ _ hb]; rfl, sp6.below hW, hpc, by omega⟩
    | 1, _ => exact ⟨some ⟨g6, 0, none⟩, PN, c6, _, by rw [cell_of_row W u5.heap.size _ _ _ _ hb]; rfl, sc6.below hW, hcap6, by omega⟩
    | 2, _ => exact ⟨some ⟨g, o, none⟩, k, c5, _, by rw [cell_of_row W u5.heap.size _ _ _ _ hb]; rfl, sk6.below hW, by omega, by omega⟩
    | j + 3, h => omega
  clear hA f6 sp6 sc6 sk6 bel6 hz6 sp5 sc5 sk5 bel5 hzk hkl hL hL0 hcap5 hcap6 hcap7 h1 h3 hpc hpn hn hx ht hz HPN
  generalize v.val A n c = vv
  go_loopw [71] (fun v wr => ∃ j : Nat, v = .int .i64 (j : Int) ∧ j ≤ 3 ∧ Below w6.heap.size w6 wr) (fun v _ => 3 - (intOf v).toNat)
  case atStart => exact ⟨0, rfl, by omega, Below.refl _ _⟩
  case round =>
    obtain ⟨j, rfl, hj, hrel⟩ := hrel
    obtain ⟨bel, hcells⟩ := HQ.out wr hrel
    by_cases hlt : j < 3
    · obtain ⟨A7, n7, c7, l7, hcell, hs7, hc7, hn7⟩ := hcells j hlt
      have hj1 : (j : Int) < 3 := by omega
      clear hcells
      go_wp2_with fail
      refine (decode_any A7 n7 c7 l7 wr hs7 hc7 hn7).mono ?_
      intro e' w8 hd
      cases hg : decG l7 with
      | inl E =>
        rw [hg] at hd
        obtain ⟨rfl, hb8⟩ := hd
        have hE := decG_ne hg
        have d1 : ((E : Int) == 0) = false := by rw [beq_eq_false_iff_ne]; omega
        have d2 : ((E : Int) != 0) = true := by rw [bne_iff_ne]; omega
        have b8 := hrel.trans (hb8.mono hrel.size)
        clear hb8 hs7 hc7 hn7 hcell hg hE bel
        unfold zeroRow
        go_wp2_with fail
        go_quiet (fail)
        go_wp2
        go_roundw
        case rel =>
          have b9 := b8.alloc b8.size (.cells #[.int .i64 0, .int .u64 0, .int .u64 0, .int .u8 0, .string ⟨#[]⟩, .slice none 0 0, .float .f64 0, .int .i64 0] 26)
          exact ⟨j + 1, by simp, by omega, ⟨b9.os, b9.tape, b9.output, b9.size, b9.block⟩⟩
        case measure => simp [intOf]; omega
      | inr ev =>
        rw [hg] at hd
        obtain ⟨A8, n8, c8, rfl, hs8, -, -, -, hb8⟩ := hd
        obtain ⟨rfl, hR, fit, -⟩ := decG_ok hg
        obtain ⟨htx, hky⟩ := decG_small hg
        have b8 := hrel.trans (hb8.mono hrel.size)
        have hs7 := hs7.below hb8
        have EF := Lib.hid (And.intro hs8.1.symm (And.intro fit (And.intro hR (And.intro (show ev.text.length ≤ 9223372036854775807 by omega) (show ev.key.size ≤ 9223372036854775807 by omega)))))
        clear hg hR fit htx hky hb8 hc7 hn7 hcell bel
        unfold Ev.val
        go_wp2_with fail
        have hal := (Below.refl w8.heap.size w8).alloc (Nat.le_refl _) (.cells #[.int .i64 ev.writer, .int .u64 (ev.seq : Int), .int .u64 (ev.time : Int), .int .u8 (ev.kind : Int), .string ev.key, .slice A8 n8 c8, .float .f64 ev.num, .int .i64 ev.node] 26)
        have f9 := heap_alloc_new w8 (.cells #[.int .i64 ev.writer, .int .u64 (ev.seq : Int), .int .u64 (ev.time : Int), .int .u8 (ev.kind : Int), .string ev.key, .slice A8 n8 c8, .float .f64 ev.num, .int .i64 ev.node] 26)
        have hs9 := hs8.below hal
        have hq9 := hs7.below hal
        have b9 := b8.trans (hal.mono b8.size)
        have hz9 : (w8.alloc (.cells #[.int .i64 ev.writer, .int .u64 (ev.seq : Int), .int .u64 (ev.time : Int), .int .u8 (ev.kind : Int), .string ev.key, .slice A8 n8 c8, .float .f64 ev.num, .int .i64 ev.node] 26)).heap.size = w8.heap.size + 1 := by simp
        clear hal hs8 hs7 b8
        generalize w8.alloc (.cells #[.int .i64 ev.writer, .int .u64 (ev.seq : Int), .int .u64 (ev.time : Int), .int .u8 (ev.kind : Int), .string ev.key, .slice A8 n8 c8, .float .f64 ev.num, .int .i64 ev.node] 26) = w9 at f9 hs9 hq9 b9 hz9 ⊢
        have HW6 : Hid (∀ W, Below w9.drew.heap.size w9.drew W → Below w6.heap.size w6 W) := Lib.hid fun W hW => b9.drew.trans (hW.mono b9.drew.size)
        have HC : Hid (∀ W, Below w9.drew.heap.size w9.drew W → W.heap[w8.heap.size]? = some (.cells (ev.row A8 n8 c8) 26 (0, 0))) := Lib.hid fun W hW => (hW.block w8.heap.size (by show _ < w9.heap.size; omega)).trans f9
        have HSE : Hid (∀ W, Below w9.drew.heap.size w9.drew W → Sees W A8 n8 ev.text) := Lib.hid fun W hW => hs9.drew.below hW
        have HSQ : Hid (∀ W, Below w9.drew.heap.size w9.drew W → Sees W A7 n7 (evL ev)) := Lib.hid fun W hW => hq9.drew.below hW
        clear f9 hs9 hq9 b9 hz9
        refine Facts.wp_region_preds (n := 113) (by kernel_rfl) (by kernel_rfl) rfl [Facts.Pred.is (Value.int .i64 0), Facts.Pred.is (Value.bool true), Facts.Pred.is (Value.bool true), Facts.Pred.is ((ev.val A8 n8 c8)), Facts.Pred.shows (evL ev).length (evL ev), Facts.Pred.is (Value.string ⟨(evL ev).toArray⟩), Facts.Pred.is (Value.slice A7 n7 c7), Facts.Pred.is (Value.string ⟨(evL ev).toArray⟩), Facts.Pred.is (Value.bool false), Facts.Pred.is (Value.bool false), Facts.Pred.is ((ev.val A8 n8 c8)), Facts.Pred.is (Value.int .i64 ((0 : Nat) : Int)), Facts.Pred.is (Value.bool false), Facts.Pred.is (Value.bool false), Facts.Pred.is (Value.bool false)] ?_ ?_
        · refine ⟨?_, ?_, ?_, ?_, ?_, ?_, ?_, ?_, ?_, ?_, ?_, ?_, ?_, ?_, ?_, trivial⟩
          · refine Facts.step_is (Value.int .i64 0) fun a W hR hold hnew => ?_
            have f16 : a.tmps.getD 16 undef = Value.int .i64 0 := hold 16 (by kernel_rfl)
            refine ⟨Facts.wanted_free rfl, ?_, fun _ => rfl⟩
            simp [go_sem, Act.eval, f16]
          · refine Facts.step_is (Value.bool true) fun a W hR hold hnew => ?_
            have f80 : a.tmps.getD 80 undef = Value.int .i64 0 := hnew 0 80 (by kernel_rfl)
            refine ⟨Facts.wanted_free rfl, ?_, fun _ => rfl⟩
            simp [go_sem, Act.eval, f80]
          · refine Facts.step_is (Value.bool true) fun a W hR hold hnew => ?_
            have f81 : a.tmps.getD 81 undef = Value.bool true := hnew 1 81 (by kernel_rfl)
            refine ⟨Facts.wanted_free rfl, ?_, fun _ => rfl⟩
            simp [go_sem, Act.eval, f81]
          · refine Facts.step_is ((ev.val A8 n8 c8)) fun a W hR hold hnew => ?_
            have f15 : a.tmps.getD 15 undef = Value.pointer (some ⟨w8.heap.size, 0, none⟩) := hold 15 (by kernel_rfl)
            have g82 : a.tmps.getD 82 undef = .bool true := hnew 2 82 (by kernel_rfl)
            have hc := HC.out W hR
            obtain ⟨k0, k1, k2, k3, k4, k5, k6, k7⟩ := box8 hc
            refine ⟨Facts.wanted_by rfl (by kernel_rfl) g82, ?_, fun _ => rfl⟩
            simp [go_sem, Act.eval, f15, k0, k1, k2, k3, k4, k5, k6, k7, Ev.val]
          · -- 4: Op.call { value (Operand.func 15), args := #[t83], argTypes 
            refine Facts.step_call fun a W hR hold hnew => ?_
            have f83 : a.tmps.getD 83 undef = (ev.val A8 n8 c8) := hnew 3 83 (by kernel_rfl); have g82 : a.tmps.getD 82 undef = .bool true := hnew 2 82 (by kernel_rfl)
            refine ⟨Facts.wanted_by rfl (by kernel_rfl) g82, 12, #[(ev.val A8 n8 c8)], by simp [go_sem, Act.eval, f83], ?_⟩
            refine (refEncode_any ev _ _ _ W (HSE.out W hR) EF.out.2.1.q EF.out.2.2.1).mono ?_
            rintro e' w7 ⟨A9, c9, rfl, hown9, hb9⟩
            exact ⟨_, rfl, hb9, A9, c9, rfl, Sees.of_own hown9⟩
          · -- 5: Op.convert 23 9 t84
            refine Facts.step_is (Value.string ⟨(evL ev).toArray⟩) fun a W hR hold hnew => ?_
            have h84 : ∃ A' c', a.tmps.getD 84 undef = .slice A' (evL ev).length c' ∧ Sees W A' (evL ev).length (evL ev) := hnew 4 84 (by kernel_rfl)
            have g82 : a.tmps.getD 82 undef = .bool true := hnew 2 82 (by kernel_rfl)
            obtain ⟨A9, c9, f84, hs84⟩ := h84
            have r := hs84.string (P := Try.prog) c9 (t := 23) (s := 9) (e := 5) Try.underlying23 Try.underlying5 Try.underlying9
            refine ⟨Facts.wanted_by rfl (by kernel_rfl) g82, ?_, fun _ => rfl⟩
            simp [go_sem, Act.eval, f84, r]
          · refine Facts.step_is (Value.slice A7 n7 c7) fun a W hR hold hnew => ?_
            have f14 : a.tmps.getD 14 undef = Value.slice A7 n7 c7 := hold 14 (by kernel_rfl)
            have g82 : a.tmps.getD 82 undef = .bool true := hnew 2 82 (by kernel_rfl)
            refine ⟨Facts.wanted_by rfl (by kernel_rfl) g82, ?_, fun _ => rfl⟩
            simp [go_sem, Act.eval, f14]
          · refine Facts.step_is (Value.string ⟨(evL ev).toArray⟩) fun a W hR hold hnew => ?_
            have f86 : a.tmps.getD 86 undef = Value.slice A7 n7 c7 := hnew 6 86 (by kernel_rfl)
            have g82 : a.tmps.getD 82 undef = .bool true := hnew 2 82 (by kernel_rfl)
            have r := (HSQ.out W hR).string (P := Try.prog) c7 (t := 23) (s := 9) (e := 5) Try.underlying23 Try.underlying5 Try.underlying9
            refine ⟨Facts.wanted_by rfl (by kernel_rfl) g82, ?_, fun _ => rfl⟩
            simp [go_sem, Act.eval, f86, r]
          · refine Facts.step_is (Value.bool false) fun a W hR hold hnew => ?_
            have f85 : a.tmps.getD 85 undef = Value.string ⟨(evL ev).toArray⟩ := hnew 5 85 (by kernel_rfl)
            have f87 : a.tmps.getD 87 undef = Value.string ⟨(evL ev).toArray⟩ := hnew 7 87 (by kernel_rfl)
            have g82 : a.tmps.getD 82 undef = .bool true := hnew 2 82 (by kernel_rfl)
            refine ⟨Facts.wanted_by rfl (by kernel_rfl) g82, ?_, fun _ => rfl⟩
            simp [go_sem, Act.eval, f85, f87]
          · refine Facts.step_is (Value.bool false) fun a W hR hold hnew => ?_
            have f88 : a.tmps.getD 88 undef = Value.bool false := hnew 8 88 (by kernel_rfl)
            have g82 : a.tmps.getD 82 undef = .bool true := hnew 2 82 (by kernel_rfl)
            refine ⟨Facts.wanted_by rfl (by kernel_rfl) g82, ?_, fun _ => rfl⟩
            simp [go_sem, Act.eval, f88]
          · refine Facts.step_is ((ev.val A8 n8 c8)) fun a W hR hold hnew => ?_
            have f15 : a.tmps.getD 15 undef = Value.pointer (some ⟨w8.heap.size, 0, none⟩) := hold 15 (by kernel_rfl)
            have g89 : a.tmps.getD 89 undef = .bool false := hnew 9 89 (by kernel_rfl)
            have hc := HC.out W hR
            obtain ⟨k0, k1, k2, k3, k4, k5, k6, k7⟩ := box8 hc
            refine ⟨Facts.wanted_by rfl (by kernel_rfl) g89, ?_, fun _ => rfl⟩
            simp [go_sem, Act.eval, f15, k0, k1, k2, k3, k4, k5, k6, k7, Ev.val]
          · -- 11: Op.call { value (Operand.func 11), args := #[t90], argTypes 
            refine Facts.step_call fun a W hR hold hnew => ?_
            have f90 : a.tmps.getD 90 undef = (ev.val A8 n8 c8) := hnew 10 90 (by kernel_rfl); have g89 : a.tmps.getD 89 undef = .bool false := hnew 9 89 (by kernel_rfl)
            refine ⟨Facts.wanted_by rfl (by kernel_rfl) g89, 8, #[(ev.val A8 n8 c8)], by simp [go_sem, Act.eval, f90], ?_⟩
            refine (refRight_any ev _ _ _ W EF.out.2.1 EF.out.1 EF.out.2.2.2.1 EF.out.2.2.2.2).mono ?_
            rintro e' w7 ⟨rfl, hb7⟩
            exact ⟨_, rfl, hb7, by rw [(right_iff ev).2 EF.out.2.2.1]; exact rfl⟩
          · refine Facts.step_is (Value.bool false) fun a W hR hold hnew => ?_
            have f91 : a.tmps.getD 91 undef = Value.int .i64 ((0 : Nat) : Int) := hnew 11 91 (by kernel_rfl)
            have g89 : a.tmps.getD 89 undef = .bool false := hnew 9 89 (by kernel_rfl)
            refine ⟨Facts.wanted_by rfl (by kernel_rfl) g89, ?_, fun _ => rfl⟩
            simp [go_sem, Act.eval, f91]
          · refine Facts.step_is (Value.bool false) fun a W hR hold hnew => ?_
            have f89 : a.tmps.getD 89 undef = Value.bool false := hnew 9 89 (by kernel_rfl)
            have f92 : a.tmps.getD 92 undef = Value.bool false := hnew 12 92 (by kernel_rfl)
            have g82 : a.tmps.getD 82 undef = .bool true := hnew 2 82 (by kernel_rfl)
            refine ⟨Facts.wanted_by rfl (by kernel_rfl) g82, ?_, fun _ => rfl⟩
            simp [go_sem, Act.eval, f89, f92]
          · refine Facts.step_is (Value.bool false) fun a W hR hold hnew => ?_
            have f82 : a.tmps.getD 82 undef = Value.bool true := hnew 2 82 (by kernel_rfl)
            have f93 : a.tmps.getD 93 undef = Value.bool false := hnew 13 93 (by kernel_rfl)
            refine ⟨Facts.wanted_free rfl, ?_, fun _ => rfl⟩
            simp [go_sem, Act.eval, f82, f93]
        · intro a w10 hR' hsize hdef hnew hold
          have f94 : a.tmps.getD 94 undef = Value.bool false := hnew 14 94 (by kernel_rfl)
          have hb11 := HW6.out w10 hR'
          obtain ⟨tm, df⟩ := a
          have hfr := frame_region hsize (by rfl) hold
          clear hnew hold
          simp only [List.filterMap_cons, List.filterMap_nil] at hfr
          simp only [List.foldl_cons, List.foldl_nil, List.setIfInBounds_toArray, List.set_cons_succ, List.set_cons_zero] at hfr
          simp only [] at f94 hdef
          rw [f94] at hfr
          clear f94 hsize
          generalize tm.getD 80 undef = y80 at hfr
          generalize tm.getD 81 undef = y81 at hfr
          generalize tm.getD 82 undef = y82 at hfr
          generalize tm.getD 83 undef = y83 at hfr
          generalize tm.getD 84 undef = y84 at hfr
          generalize tm.getD 85 undef = y85 at hfr
          generalize tm.getD 86 undef = y86 at hfr
          generalize tm.getD 87 undef = y87 at hfr
          generalize tm.getD 88 undef = y88 at hfr
          generalize tm.getD 89 undef = y89 at hfr
          generalize tm.getD 90 undef = y90 at hfr
          generalize tm.getD 91 undef = y91 at hfr
          generalize tm.getD 92 undef = y92 at hfr
          generalize tm.getD 93 undef = y93 at hfr
          subst hfr
          subst hdef
          clear HSE HSQ EF
          go_wp2
          go_roundw
          case rel => exact ⟨j + 1, by simp, by omega, hb11⟩
          case measure => simp [intOf]; omega
    · obtain rfl : j = 3 := by omega
      clear hcells
      go_wp2
      go_ret
      exact ⟨rfl, bel⟩
end Go.Proofs.Ytpakjlgohbofhaa.Evt
