/- FeedPlays, walked. -/
import Derived.Test.YtkphklmgbdljiaaGreatDoorFdPl
import Derived.Maps.AppendAt
namespace Go.Proofs.YtkphklmgbdljiaaGreatDoor.Fd
open Go Go.RowKit Go.Proofs.YtkphklmgbdljiaaGreatDoor.Words Go.Proofs.YtkphklmgbdljiaaGreatDoor.Enc Go.Proofs.YtkphklmgbdljiaaGreatDoor.Evt Go.Proofs.YtkphklmgbdljiaaGreatDoor.Made Go.Proofs.YtkphklmgbdljiaaGreatDoor.Dsk Go.Proofs.YtkphklmgbdljiaaGreatDoor.Sht Go.Proofs.YtkphklmgbdljiaaGreatDoor.Seg
set_option linter.unusedVariables false
set_option linter.unusedSimpArgs false

set_option maxRecDepth 100000 in
set_option maxHeartbeats 8000000 in
theorem plays_short (HB9 : ∀ I : Inhabited XS, @BeginSaid I) (n0 : Nat) (A : Option Addr) (n c : Nat) (l : List (Nat × Nat)) (w : World) (TC : Chk.Tabs w) (ST : STabs w) (hP : SeesP w A n l) (hn : n ≤ 50) (h0 : n0 < 256) :
    Calls Tryz.prog 3 #[.int .u8 (n0 : Int), .slice A n c] w fun e w' => e = .returned (.bool true) ∧ Below w.heap.size w w' := by
  obtain ⟨i1, hi, hz, hsz, hby⟩ := info_parts infoE
  have hsf := store_float Tryz.prog
  have HP := Lib.hid hP
  have HT := Lib.hid (And.intro TC ST)
  have hn50 : decide ((50 : Int) < (n : Int)) = false := decide_eq_false (by omega)
  have hw0 : IntKind.i64.wrap (n0 : Int) = (n0 : Int) := wi _ _ (by omega) (by omega)
  clear hP TC
  go_enter Tryz.func3, Tryz.ntmps3
  go_wp2_with fail
  refine (awake9 w ST).mono ?_
  rintro e w1 ⟨rfl, hb1⟩
  go_wp2_with fail
  refine (newC 65536 w1).mono ?_
  rintro e w2 ⟨d, S, rfl, hd, hS, hb2⟩
  have b2 := hb1.trans (hb2.mono hb1.size)
  go_wp2_with fail
  refine (openN d S _ 3 (n0 : Int) 0 0 w2 (ST.below b2) hd rfl (by omega) (by omega)).mono ?_
  rintro e w3 ⟨f, rfl, hf, g, hb3⟩
  have b3 := b2.trans (hb3.mono b2.size)
  have hS3 : ∀ b ∈ S ++ [f], w.heap.size ≤ b := fun b hb => by
    rcases List.mem_append.1 hb with h | h
    · exact Nat.le_trans hb1.size (hS b h)
    · simp at h; subst h; exact Nat.le_trans b2.size hf
  have s0 : PlS w w3 d f (n0 : Int) 0 0 0 0 (300 * 0) none 0 [] False := by
    letI := xl none
    exact ⟨0, 1, [], 0, 0, S ++ [f], StF.start9 w w3 d f (n0 : Int) S (TabsOn.of HT.out.1 ST b3 hS3) (hd.below hb3) g (fun hm => by have := hd.lt f hm; omega) hS3 b3 (fun k hk => by cases hk), rfl, PlL.start, ⟨[], rfl, World.ownsRow_nil _ _ _ _, (fun t ht => by cases ht), (fun g hg => by cases hg)⟩, fun h => h.elim⟩
  have S0 := Lib.hid s0
  clear hb1 hd hS hb2 b2 hf g hb3 b3 hS3 s0 ST
  go_wp2_with fail
  go_loopw [6, 8, 9, 10, 11] (fun v6 v8 v9 v10 v11 wr => ∃ (i f k floor tm cl : Nat) (Al : Option Addr) (L : List Ev), v6 = .pointer (some ⟨f, 0, none⟩) ∧ v8 = .slice Al k cl ∧ v9 = .int .i64 (floor : Int) ∧ v10 = .int .u64 (tm : Int) ∧ v11 = .int .i64 (i : Int) ∧ i ≤ n ∧ Hid (PlS w wr d f (n0 : Int) floor tm k i (300 * i) Al cl L False)) (fun _ _ _ _ v11 _ => n - (intOf v11).toNat)
  case atStart => exact ⟨0, f, 0, 0, 0, 0, none, [], rfl, rfl, by first | rfl | simp, by first | rfl | simp, by first | rfl | simp, Nat.zero_le _, S0⟩
  case round =>
    obtain ⟨i, f, k, floor, tm, cl, Al, L, rfl, rfl, rfl, rfl, rfl, hin, HS⟩ := hrel
    by_cases hlt : i < n
    · obtain ⟨b, o, hA, hcl⟩ := HP.out.2.2 (by omega)
      obtain ⟨a, ha⟩ : ∃ a, l[i]? = some a := ⟨_, List.getElem?_eq_getElem (by rw [HP.out.1]; exact hlt)⟩
      obtain ⟨ha1, ha2⟩ := HP.out.2.1 a (List.mem_of_getElem? ha)
      obtain ⟨q0, q1⟩ := hcl i a ha
      have hbl : b < w.heap.size := World.block_lt_of_cell? _ _ q0
      have ACT := Lib.hid (fun W (hW : Below w.heap.size w W) => (And.intro ((hW.cell (p := ⟨b, o + i * 2, none⟩) hbl).trans q0) ((hW.cell (p := ⟨b, o + i * 2 + 1, none⟩) hbl).trans q1) : W.cell? ⟨b, o + i * 2, none⟩ = some (.int .u8 (a.1 : Int)) ∧ W.cell? ⟨b, o + i * 2 + 1, none⟩ = some (.int .u8 (a.2 : Int))))
      subst hA
      clear q0 q1 hcl ha
      obtain ⟨q0, q1⟩ := ACT.out wr HS.out.base
      obtain ⟨kk, hkk⟩ : ∃ kk, kk = a.1 % 10 := ⟨_, rfl⟩
      have hki : (a.1 : Int) % 10 = (kk : Int) := by omega
      have hkl : kk < 10 := by omega
      clear hkk
      have hsi : i ≤ 50 := by omega
      have HJ1 := Lib.hid (show wrap64 ((i : Int) + 1) = ((i + 1 : Nat) : Int) from intWrap_small i (by omega))
      have HJ2 := Lib.hid (Nat.succ_le_of_lt hlt)
      have HJ3 := Lib.hid (Nat.sub_lt_sub_left hlt (Nat.lt_succ_self i))
      obtain ⟨hki2, hflk, htmi⟩ := HS.out.pl
      obtain ⟨hkc, hcc, hLk⟩ := HS.out.cap
      have hj2 : IntKind.i64.wrap ((i : Int) + 1) = ((i + 1 : Nat) : Int) := wi _ _ (by omega) (by omega)
      have hwf : IntKind.u64.wrap (floor : Int) = (floor : Int) := wu _ _ (by omega) (by omega)
      have hin2 : (i : Int) < (n : Int) := by omega
      by_cases hc7 : kk < 7
      ·
        have h7 : decide ((kk : Int) < 7) = true := decide_eq_true (by omega)
        have hwk : IntKind.u64.wrap (k : Int) = (k : Int) := wu _ _ (by omega) (by omega)
        have hwk1 : IntKind.u64.wrap ((k : Int) + 1) = ((k + 1 : Nat) : Int) := wu _ _ (by omega) (by omega)
        have hwi1 : IntKind.u64.wrap ((i + 1 : Nat) : Int) = ((i + 1 : Nat) : Int) := wu _ _ (by omega) (by omega)
        go_wp2_with fail
        refine (event9 a.1 a.2 (k + 1) (i + 1) wr ha2).mono ?_
        rintro e w4 ⟨Be, me, ke, rfl, hs, hme, hke, hfr, hb4⟩
        obtain ⟨ev, hev⟩ : ∃ ev, ev = evE a.2 (k + 1) (i + 1) := ⟨_, rfl⟩
        rw [← hev] at hs ⊢
        have htx : TextOk [] w4 ⟨ev, Be, me, ke⟩ := ⟨hs, hme, hke, fun _ _ _ h => by cases h⟩
        have t2 := htx.next (B' := [w4.heap.size]) (Beside.of_below ((Below.refl w4.heap.size w4).alloc (Nat.le_refl _) (.cells zeroRow 37)) _) (fun k hk => by simp at hk; subst hk; exact .inr (Nat.le_refl _))
        have g2 : (w4.alloc (.cells zeroRow 37)).heap[w4.heap.size]? = _ := heap_alloc_new w4 (.cells zeroRow 37)
        have b2 := hb4.alloc hb4.size (.cells zeroRow 37)
        have hz4 := hb4.size
        unfold zeroRow at g2 t2 b2
        have G2 := Lib.hid g2
        have T2 := Lib.hid t2
        have B2 := Lib.hid b2
        have HX := Lib.hid (And.intro hme (And.intro hke (And.intro hfr hev)))
        clear g2 t2 b2 hs hme hke hfr hb4 hev htx
        go_wp2_with (first
          | (refine wpList_putRow rfl 37 (.tmp 13) (.tmp 73) rfl w4.heap.size 37 zeroRow (ev.row Be me ke) rfl rfl ?g1 (by kernel_rfl) rfl (by simp [Ev.row, Value.oneCell']) ?_))
        case g1 => unfold zeroRow; exact G2.out
        intro W3 hW3 hbe3
        have hb3 : Below wr.heap.size wr W3 := Below.beside B2.out hbe3 B2.out.size (by simp; omega)
        have hsW : Sees W3 Be me ev.text := T2.out.1.beside hbe3 (fun hn a ha hm => T2.out.2.2.2 hn a ha hm)
        obtain ⟨hme, hke, hfr, hev⟩ := HX.out
        have ADDC := Lib.hid (HS.out.adds HB9 HT.out.1 HT.out.2 hsi (by omega) hev hb3 hsW hme hke hfr hW3 hz4)
        unfold Ev.val at ADDC
        unfold Ev.row at hW3
        obtain ⟨k0, k1, k2, k3, k4, k5, k6, k7⟩ := box8 hW3
        clear hW3 hbe3 hb3 hsW hme hke hfr hev G2 T2 B2 HX hz4
        generalize w4.heap.size = b13 at *
        go_wp2_with fail
        refine ADDC.out.mono ?_
        rintro e w5 ⟨rfl, T, hAD⟩
        have HAD := Lib.hid hAD
        have hbx := hAD.box
        unfold Ev.row at hbx
        obtain ⟨k0, k1, k2, k3, k4, k5, k6, k7⟩ := box8 hbx
        have hEo := fun (o : Obj) => own_below8 hAD.own (Below.alloc (Below.refl w5.heap.size w5) (Nat.le_refl _) o) (Nat.le_refl _)
        clear hAD hbx ADDC
        go_wp2_with (first | (at_builtin; refine wpList_append_own_at _ rfl _ _ 31 rfl w.heap.size 37 i1 zeroEv 8 88 Tryz.underlying31 hi hz hsz hby rfl (by decide) (.slice Al k cl) k (rowsL T) rfl (hEo _) ⟨w5.heap.size, 0, none⟩ 1 1 (EvS.cells ⟨ev, Be, me, ke⟩) rfl rfl ?c1 ?c2 ?c3 ?c4 ?c5 ?_))
        case c1 =>
          intro jj uu hjj
          rw [add_plain, Nat.zero_add, cell_of_row _ _ _ _ _ _ (heap_alloc_new w5 _)]
          rw [← hjj, ← Array.getElem?_toList]
          rfl
        case c2 => exact EvS.one _
        case c3 => unfold maxLen; omega
        case c4 => omega
        case c5 => have := HAD.out.size; simp; omega
        intro v' w6 hown6 hgrow6 _ hat6
        obtain ⟨Al', cl', rfl, hc'⟩ := own_shape8 hown6
        have hown7 : w6.ownsRow w.heap.size 37 8 (.slice Al' (k + 1) cl') (k + 1) (rowsL (T ++ [⟨ev, Be, me, ke⟩])) := by
          rw [rowsL_append]
          simpa [rowsL] using hown6
        have HSZ := Lib.hid ((HAD.out.goes _ w6 Al' cl' ((Below.refl w5.heap.size w5).alloc (Nat.le_refl _) _) hgrow6 hown7 (hat6.imp id fun h => h.trans (by simp))).more (A' := 300 * (i + 1)) (by omega))
        clear hown6 hgrow6 hat6 hown7 HAD hEo k0 k1 k2 k3 k4 k5 k6 k7 hc' q0 q1
        go_wp2_with fail
        refine (HSZ.out.told (by omega)).mono ?_
        rintro e w8 ⟨rfl, hb8⟩
        obtain ⟨cnt, hnames, hsegs⟩ := (HSZ.out.below hb8).counts _ beg3
        have HNM := Lib.hid hnames
        have HSG := Lib.hid hsegs
        clear hnames hsegs
        go_wp2_with fail
        refine (HNM.out w8 (Below.refl _ _)).mono ?_
        rintro e w9 ⟨⟨A9, c9, rfl⟩, hb9⟩
        have HB9w := Lib.hid hb9
        go_wp2_with fail
        refine (HSG.out w9 HB9w.out).mono ?_
        rintro e w10 ⟨rfl, rfl⟩
        have HEND := Lib.hid ((HSZ.out.below hb8).below HB9w.out)
        clear hb8 hb9 HNM HSG
        go_wp2
        go_roundw
        case rel => exact ⟨i + 1, f, k + 1, floor, tm, cl', Al', L ++ [ev], rfl, rfl, by first | rfl | simp, by first | rfl | simp, by first | rfl | (rw [HJ1.out]), HJ2.out, HEND⟩
        case measure =>
          try rw [HJ1.out]
          exact HJ3.out
      · by_cases hc77 : kk = 7
        ·
          have h7 : decide ((kk : Int) < 7) = false := decide_eq_false (by omega)
          have h77 : ((kk : Int) == 7) = true := by rw [beq_iff_eq]; omega
          go_wp2_with fail
          refine (HS.out.sync hsi (by omega)).mono ?_
          rintro e w5 ⟨rfl, s5⟩
          have HSZ := Lib.hid (s5.later (A' := 300 * (i + 1)) (by omega))
          clear s5
          go_wp2_with fail
          refine (HSZ.out.told (by omega)).mono ?_
          rintro e w8 ⟨rfl, hb8⟩
          obtain ⟨cnt, hnames, hsegs⟩ := (HSZ.out.below hb8).counts _ beg3
          have HNM := Lib.hid hnames
          have HSG := Lib.hid hsegs
          clear hnames hsegs
          go_wp2_with fail
          refine (HNM.out w8 (Below.refl _ _)).mono ?_
          rintro e w9 ⟨⟨A9, c9, rfl⟩, hb9⟩
          have HB9w := Lib.hid hb9
          go_wp2_with fail
          refine (HSG.out w9 HB9w.out).mono ?_
          rintro e w10 ⟨rfl, rfl⟩
          have HEND := Lib.hid ((HSZ.out.below hb8).below HB9w.out)
          clear hb8 hb9 HNM HSG
          go_wp2
          go_roundw
          case rel => exact ⟨i + 1, f, k, floor, tm, cl, Al, L, rfl, rfl, by first | rfl | simp, by first | rfl | simp, by first | rfl | (rw [HJ1.out]), HJ2.out, HEND⟩
          case measure =>
            try rw [HJ1.out]
            exact HJ3.out
        · by_cases hc8 : kk = 8
          ·
            have h7 : decide ((kk : Int) < 7) = false := decide_eq_false (by omega)
            have h77 : ((kk : Int) == 7) = false := by rw [beq_eq_false_iff_ne]; omega
            have h78 : ((kk : Int) == 8) = true := by rw [beq_iff_eq]; omega
            by_cases hfk : floor < k
            ·
              by_cases hqz : 0 < a.2 % (k - floor + 1)
              ·
                have hd1 : decide ((floor : Int) < (k : Int)) = true := decide_eq_true (by omega)
                obtain ⟨d1, hd1e⟩ : ∃ d1, d1 = k - floor := ⟨_, rfl⟩
                obtain ⟨dd, hdd⟩ : ∃ dd, dd = d1 + 1 := ⟨_, rfl⟩
                obtain ⟨q, hq⟩ : ∃ q, q = a.2 % dd := ⟨_, rfl⟩
                have hqd : q < dd := by rw [hq]; exact Nat.mod_lt _ (by omega)
                obtain ⟨nn, hnn⟩ : ∃ nn, nn = floor + q := ⟨_, rfl⟩
                have hq1 : IntKind.i64.wrap ((k : Int) - (floor : Int)) = (d1 : Int) := wi _ _ (by omega) (by omega)
                have hq2 : IntKind.i64.wrap ((d1 : Int) + 1) = (dd : Int) := wi _ _ (by omega) (by omega)
                have hq3 : IntKind.i64.wrap (a.2 : Int) = (a.2 : Int) := wi _ _ (by omega) (by omega)
                have hq4 : (a.2 : Int) % (dd : Int) = (q : Int) := by rw [hq]; rfl
                have hq5 : ¬ (dd : Int) = 0 := by omega
                have hq6 : IntKind.i64.wrap ((floor : Int) + (q : Int)) = (nn : Int) := wi _ _ (by omega) (by omega)
                have hq7 : IntKind.u64.wrap (nn : Int) = (nn : Int) := wu _ _ (by omega) (by omega)
                have hnk : nn ≤ k := by omega
                have HQ := Lib.hid (And.intro hd1e (And.intro hdd (And.intro hq hnn)))
                have hnf : floor ≤ nn := by omega
                have hqq : a.2 % (k - floor + 1) = q := by rw [hq, hdd, hd1e]
                have HN := Lib.hid (show (0 < a.2 % (k - floor + 1) → floor < nn) ∧ (¬ 0 < a.2 % (k - floor + 1) → nn = floor) from ⟨fun h => by rw [hqq] at h; omega, fun h => by rw [hqq] at h; omega⟩)
                clear hqq hd1e hdd hq hnn
                go_wp2_with fail
                refine (HS.out.sync hsi (by omega)).mono ?_
                rintro e w5 ⟨rfl, s5⟩
                have S5 := Lib.hid s5
                obtain ⟨q0, q1⟩ := ACT.out w5 s5.base
                clear s5
                have hlt3 := HN.out.1 hqz
                clear hqz
                have hd2 : decide ((floor : Int) < (nn : Int)) = true := decide_eq_true (by omega)
                obtain ⟨n1, hn1⟩ : ∃ n1, n1 = nn - 1 := ⟨_, rfl⟩
                have hq8 : IntKind.i64.wrap ((nn : Int) - 1) = (n1 : Int) := wi _ _ (by omega) (by omega)
                have hn10 : (0 : Int) ≤ (n1 : Int) := by omega
                have hn1k : (n1 : Int) < (k : Int) := by omega
                have hn1k2 : n1 < k := by omega
                obtain ⟨bb, oo, r, hAl, hr, htx, m0, m1, m2, m3, m4, m5, m6, m7⟩ := S5.out.sees.get (j := n1) (by omega)
                have hrt := S5.out.times r.e (List.mem_of_getElem? hr)
                have hsee := Lib.hid (S5.out.fold hsi (by omega) nn r.e.time (by omega) hnf hnk (.inr ⟨hlt3, r.e, by rw [← hn1]; exact hr, rfl⟩))
                rw [Nat.mul_comm 8 n1] at m0 m1 m2 m3 m4 m5 m6 m7
                subst hAl
                have HR := Lib.hid hr
                clear hr htx m0 m1 m3 m4 m5 m6 m7 hn1
                obtain ⟨tt, htt⟩ : ∃ tt, tt = r.e.time := ⟨_, rfl⟩
                rw [← htt] at m2 hsee
                clear htt hrt HR
                go_wp2_with fail
                refine hsee.out.mono ?_
                rintro e w6 ⟨rfl, s6⟩
                have HSZ := Lib.hid (s6.later (A' := 300 * (i + 1)) (by omega))
                clear s6 S5 m2 hsee
                go_wp2_with fail
                refine (HSZ.out.told (by omega)).mono ?_
                rintro e w8 ⟨rfl, hb8⟩
                obtain ⟨cnt, hnames, hsegs⟩ := (HSZ.out.below hb8).counts _ beg3
                have HNM := Lib.hid hnames
                have HSG := Lib.hid hsegs
                clear hnames hsegs
                go_wp2_with fail
                refine (HNM.out w8 (Below.refl _ _)).mono ?_
                rintro e w9 ⟨⟨A9, c9, rfl⟩, hb9⟩
                have HB9w := Lib.hid hb9
                go_wp2_with fail
                refine (HSG.out w9 HB9w.out).mono ?_
                rintro e w10 ⟨rfl, rfl⟩
                have HEND := Lib.hid ((HSZ.out.below hb8).below HB9w.out)
                clear hb8 hb9 HNM HSG
                go_wp2
                go_roundw
                case rel => exact ⟨i + 1, f, k, nn, tt, cl, (some ⟨bb, oo, none⟩), L, rfl, rfl, by first | rfl | simp, by first | rfl | simp, by first | rfl | (rw [HJ1.out]), HJ2.out, HEND⟩
                case measure =>
                  try rw [HJ1.out]
                  exact HJ3.out
              ·
                have hd1 : decide ((floor : Int) < (k : Int)) = true := decide_eq_true (by omega)
                obtain ⟨d1, hd1e⟩ : ∃ d1, d1 = k - floor := ⟨_, rfl⟩
                obtain ⟨dd, hdd⟩ : ∃ dd, dd = d1 + 1 := ⟨_, rfl⟩
                obtain ⟨q, hq⟩ : ∃ q, q = a.2 % dd := ⟨_, rfl⟩
                have hqd : q < dd := by rw [hq]; exact Nat.mod_lt _ (by omega)
                obtain ⟨nn, hnn⟩ : ∃ nn, nn = floor + q := ⟨_, rfl⟩
                have hq1 : IntKind.i64.wrap ((k : Int) - (floor : Int)) = (d1 : Int) := wi _ _ (by omega) (by omega)
                have hq2 : IntKind.i64.wrap ((d1 : Int) + 1) = (dd : Int) := wi _ _ (by omega) (by omega)
                have hq3 : IntKind.i64.wrap (a.2 : Int) = (a.2 : Int) := wi _ _ (by omega) (by omega)
                have hq4 : (a.2 : Int) % (dd : Int) = (q : Int) := by rw [hq]; rfl
                have hq5 : ¬ (dd : Int) = 0 := by omega
                have hq6 : IntKind.i64.wrap ((floor : Int) + (q : Int)) = (nn : Int) := wi _ _ (by omega) (by omega)
                have hq7 : IntKind.u64.wrap (nn : Int) = (nn : Int) := wu _ _ (by omega) (by omega)
                have hnk : nn ≤ k := by omega
                have HQ := Lib.hid (And.intro hd1e (And.intro hdd (And.intro hq hnn)))
                have hnf : floor ≤ nn := by omega
                have hqq : a.2 % (k - floor + 1) = q := by rw [hq, hdd, hd1e]
                have HN := Lib.hid (show (0 < a.2 % (k - floor + 1) → floor < nn) ∧ (¬ 0 < a.2 % (k - floor + 1) → nn = floor) from ⟨fun h => by rw [hqq] at h; omega, fun h => by rw [hqq] at h; omega⟩)
                clear hqq hd1e hdd hq hnn
                go_wp2_with fail
                refine (HS.out.sync hsi (by omega)).mono ?_
                rintro e w5 ⟨rfl, s5⟩
                have S5 := Lib.hid s5
                obtain ⟨q0, q1⟩ := ACT.out w5 s5.base
                clear s5
                have hd2 : decide ((floor : Int) < (nn : Int)) = false := decide_eq_false (by have := HN.out.2 hqz; omega)
                have hd3 : ¬ floor < nn := by have := HN.out.2 hqz; omega
                have hd4 : ¬ (floor : Int) < (nn : Int) := by have := HN.out.2 hqz; omega
                have FOLDC := Lib.hid (S5.out.fold hsi (by omega) nn tm (by omega) hnf hnk (.inl ⟨HN.out.2 hqz, rfl⟩))
                have HQZ := Lib.hid hqz
                clear hqz hnf
                go_wp2_with fail
                refine FOLDC.out.mono ?_
                rintro e w6 ⟨rfl, s6⟩
                have HSZ := Lib.hid (s6.later (A' := 300 * (i + 1)) (by omega))
                clear s6 S5 FOLDC
                go_wp2_with fail
                refine (HSZ.out.told (by omega)).mono ?_
                rintro e w8 ⟨rfl, hb8⟩
                obtain ⟨cnt, hnames, hsegs⟩ := (HSZ.out.below hb8).counts _ beg3
                have HNM := Lib.hid hnames
                have HSG := Lib.hid hsegs
                clear hnames hsegs
                go_wp2_with fail
                refine (HNM.out w8 (Below.refl _ _)).mono ?_
                rintro e w9 ⟨⟨A9, c9, rfl⟩, hb9⟩
                have HB9w := Lib.hid hb9
                go_wp2_with fail
                refine (HSG.out w9 HB9w.out).mono ?_
                rintro e w10 ⟨rfl, rfl⟩
                have HEND := Lib.hid ((HSZ.out.below hb8).below HB9w.out)
                clear hb8 hb9 HNM HSG
                go_wp2
                go_roundw
                case rel => exact ⟨i + 1, f, k, nn, tm, cl, Al, L, rfl, rfl, by first | rfl | simp, by first | rfl | simp, by first | rfl | (rw [HJ1.out]), HJ2.out, HEND⟩
                case measure =>
                  try rw [HJ1.out]
                  exact HJ3.out
            ·
              go_wp2_with fail
              refine (HS.out.sync hsi (by omega)).mono ?_
              rintro e w5 ⟨rfl, s5⟩
              have S5 := Lib.hid s5
              obtain ⟨q0, q1⟩ := ACT.out w5 s5.base
              clear s5
              have hfl2 : floor = k := by omega
              subst hfl2
              have hd1 : decide ((floor : Int) < (floor : Int)) = false := decide_eq_false (by omega)
              go_wp2_with fail
              refine (S5.out.fold hsi (by omega) floor tm (by omega) (Nat.le_refl _) (Nat.le_refl _) (.inl ⟨rfl, rfl⟩)).mono ?_
              rintro e w6 ⟨rfl, s6⟩
              have HSZ := Lib.hid (s6.later (A' := 300 * (i + 1)) (by omega))
              clear s6 S5
              go_wp2_with fail
              refine (HSZ.out.told (by omega)).mono ?_
              rintro e w8 ⟨rfl, hb8⟩
              obtain ⟨cnt, hnames, hsegs⟩ := (HSZ.out.below hb8).counts _ beg3
              have HNM := Lib.hid hnames
              have HSG := Lib.hid hsegs
              clear hnames hsegs
              go_wp2_with fail
              refine (HNM.out w8 (Below.refl _ _)).mono ?_
              rintro e w9 ⟨⟨A9, c9, rfl⟩, hb9⟩
              have HB9w := Lib.hid hb9
              go_wp2_with fail
              refine (HSG.out w9 HB9w.out).mono ?_
              rintro e w10 ⟨rfl, rfl⟩
              have HEND := Lib.hid ((HSZ.out.below hb8).below HB9w.out)
              clear hb8 hb9 HNM HSG
              go_wp2
              go_roundw
              case rel => exact ⟨i + 1, f, floor, floor, tm, cl, Al, L, rfl, rfl, by first | rfl | simp, by first | rfl | simp, by first | rfl | (rw [HJ1.out]), HJ2.out, HEND⟩
              case measure =>
                try rw [HJ1.out]
                exact HJ3.out
          ·
            have h7 : decide ((kk : Int) < 7) = false := decide_eq_false (by omega)
            have h77 : ((kk : Int) == 7) = false := by rw [beq_eq_false_iff_ne]; omega
            have h78 : ((kk : Int) == 8) = false := by rw [beq_eq_false_iff_ne]; omega
            go_wp2_with fail
            refine (HS.out.sync hsi (by omega)).mono ?_
            rintro e w5 ⟨rfl, s5⟩
            have S5 := Lib.hid s5
            obtain ⟨q0, q1⟩ := ACT.out w5 s5.base
            clear s5
            go_wp2_with fail
            refine (S5.out.open9 hsi (by omega)).mono ?_
            rintro e w6 ⟨f', rfl, s6⟩
            have HSZ := Lib.hid (s6.later (A' := 300 * (i + 1)) (by omega))
            clear s6 S5
            go_wp2_with fail
            refine (HSZ.out.told (by omega)).mono ?_
            rintro e w8 ⟨rfl, hb8⟩
            obtain ⟨cnt, hnames, hsegs⟩ := (HSZ.out.below hb8).counts _ beg3
            have HNM := Lib.hid hnames
            have HSG := Lib.hid hsegs
            clear hnames hsegs
            go_wp2_with fail
            refine (HNM.out w8 (Below.refl _ _)).mono ?_
            rintro e w9 ⟨⟨A9, c9, rfl⟩, hb9⟩
            have HB9w := Lib.hid hb9
            go_wp2_with fail
            refine (HSG.out w9 HB9w.out).mono ?_
            rintro e w10 ⟨rfl, rfl⟩
            have HEND := Lib.hid ((HSZ.out.below hb8).below HB9w.out)
            clear hb8 hb9 HNM HSG
            go_wp2
            go_roundw
            case rel => exact ⟨i + 1, f', k, floor, tm, cl, Al, L, rfl, rfl, by first | rfl | simp, by first | rfl | simp, by first | rfl | (rw [HJ1.out]), HJ2.out, HEND⟩
            case measure =>
              try rw [HJ1.out]
              exact HJ3.out
    · have hlt2 : decide ((i : Int) < (n : Int)) = false := decide_eq_false (by omega)
      go_wp2
      go_ret
      exact ⟨rfl, HS.out.base⟩
set_option maxRecDepth 100000 in
theorem plays_law (HB9 : ∀ I : Inhabited XS, @BeginSaid I) (n0 : Nat) (A : Option Addr) (n c : Nat) (l : List (Nat × Nat)) (w : World) (TC : Chk.Tabs w) (ST : STabs w) (hP : SeesP w A n l) (h0 : n0 < 256) :
    Calls Tryz.prog 3 #[.int .u8 (n0 : Int), .slice A n c] w fun e w' => e = .returned (.bool true) ∧ Below w.heap.size w w' := by
  by_cases hn : n ≤ 50
  · exact plays_short HB9 n0 A n c l w TC ST hP hn h0
  · have hn50 : decide ((50 : Int) < (n : Int)) = true := decide_eq_true (by omega)
    have HST := Lib.hid ST
    clear TC hP
    go_enter Tryz.func3, Tryz.ntmps3
    go_wp2_with fail
    refine (awake9 w ST).mono ?_
    rintro e w1 ⟨rfl, hb1⟩
    go_wp2_with fail
    refine (awake9 w1 (HST.out.below hb1)).mono ?_
    rintro e w2 ⟨rfl, hb2⟩
    have b2 := hb1.trans (hb2.mono hb1.size)
    go_wp2
    go_ret
    exact ⟨rfl, b2⟩
end Go.Proofs.YtkphklmgbdljiaaGreatDoor.Fd
