/- The law ManifestErrs, where nothing is too long. -/
import Derived.Test.YtffhepdhkpldlaaDoorManErrs
import Derived.Deep.Cut
namespace Go.Proofs.YtffhepdhkpldlaaDoor.Man
open Go Go.RowKit Go.Proofs.YtffhepdhkpldlaaDoor.Words Go.Proofs.YtffhepdhkpldlaaDoor.Enc Go.Proofs.YtffhepdhkpldlaaDoor.Made Go.Proofs.YtffhepdhkpldlaaDoor.Tape Go.Proofs.YtffhepdhkpldlaaDoor.Vec Go.Proofs.YtffhepdhkpldlaaDoor.Dsk
set_option linter.unusedVariables false
set_option linter.unusedSimpArgs false
open Go.Proofs.YtffhepdhkpldlaaDoor.Sht (Since since_next newL armL)

/-- What Write answers on a new disk, as a number. -/
def ansW (b : Bool) : Int := if b then 0 else 1
theorem ansW_is (b : Bool) : (ansW b == 1) = !b := by cases b <;> rfl
theorem mwriteNew (w0 w : World) (d : Nat) (m : Mn) (A : Option Addr) (n c : Nat) (T : Chk.Tabs w0) (hd : Since w0 d [] ⟨65536, 0, -1, 0, false⟩ w) (hn0 : -9223372036854775808 ≤ m.node) (hn1 : m.node ≤ 9223372036854775807) (hsr : m.serial < 18446744073709551616) (htm : m.time < 18446744073709551616) (tv : Took2 w A n c m.floor) (hn : n ≤ 64) (hf : m.fold.size ≤ 1000) :
    Calls Tryd.prog 16 #[.pointer (some ⟨d, 0, none⟩), m.val A n c] w fun e w' => e = .returned (.int .i64 (ansW (mayB m))) ∧ Below w0.heap.size w0 w' := by
  cases hb : mayB m with
  | false =>
    refine (mwriteBad w0 w d [] _ m A n c hd hn0 hn1 (by omega) hb).mono ?_
    rintro e w' ⟨rfl, h⟩
    exact ⟨rfl, h.below⟩
  | true =>
    have hm : 0 ≤ m.node ∧ m.node < 64 := by
      simp only [mayB, Bool.and_eq_true, decide_eq_true_eq] at hb
      exact ⟨hb.1.1, hb.1.2⟩
    have hl := (fileL_len hm hsr (manL_small hm hsr htm tv.2.1 (by rw [tv.1.1]; exact hn) hf)).1
    have hsw := Sht.swap_newN mN_ne (room := 65536) (left := -1) (torn := 0) (acts := 0) (q := fileL m) (by decide) (by omega)
    refine (mwriteL w0 w d [] _ ⟨65536, 0, -1, 0, false⟩ _ 0 m A n c T hd (Sht.hd_fits5 (by simp) (by simp) (by simp) (by simp) (by simp) (by simp) (by simp)) (by simp) hb hsr htm tv hn (by simp [sumA]) (by simp) hsw).mono ?_
    rintro e w' ⟨rfl, h⟩
    exact ⟨rfl, h.below⟩
/-- What Read answers of any file: a manifest, or none. -/
def ReadAny (w0 : World) (d : Nat) (files : List File) (h : Hd) (e : Ending) (w' : World) : Prop :=
  ∃ (f nd : Int) (sr tm : Nat) (A : Option Addr) (n c : Nat) (fd : ByteArray), e = .returned (.tuple #[.agg #[.int .i64 nd, .int .u64 (sr : Int), .slice A n c, .int .u64 (tm : Int), .string fd], .int .i64 f]) ∧ (f = 0 ∨ (f = 4 ∧ nd = 0)) ∧ Since w0 d files h w'
theorem mreadAny (w0 w : World) (d : Nat) (q : List UInt8) (T : Chk.Tabs w0) (hd : Since w0 d [⟨mN, q, 0⟩] ⟨65536, 1, -1, 0, false⟩ w) (hp : q.length ≤ 300) :
    Calls Tryd.prog 19 #[.pointer (some ⟨d, 0, none⟩)] w (ReadAny w0 d [⟨mN, q, 0⟩] ⟨65536, 1, -1, 0, false⟩) := by
  refine (mreadFile w0 w d [⟨mN, q, 0⟩] ⟨65536, 1, -1, 0, false⟩ ⟨mN, q, 0⟩ T hd rfl (by simp [lookA]) (by simp only []; omega) (by simp [sumA]; omega)).mono ?_
  rintro e w' ⟨hg, hs⟩
  cases hm : fileM q with
  | inl E =>
    rw [hm] at hg
    obtain rfl := fileM_errs hm
    obtain ⟨rfl, -⟩ := hg
    exact ⟨4, 0, 0, 0, none, 0, 0, ⟨#[]⟩, rfl, .inr ⟨rfl, rfl⟩, hs⟩
  | inr m =>
    rw [hm] at hg
    obtain ⟨A, n, c, rfl, -, -⟩ := hg
    exact ⟨0, m.node, m.serial, m.time, A, n, c, m.fold, rfl, .inl rfl, hs⟩

def exR : Mn := ⟨3, 4, [], 0, ⟨#[]⟩⟩
theorem exR_right : Right exR := ⟨by decide, by decide, by decide, ⟨by decide, fun i => by rw [show exR.floor = [] from rfl, at_ge (by simp)]; exact Nat.zero_le _⟩, by decide, rfl⟩
theorem exR_bytes : manL exR = [3, 4, 0, 0, 0] := by
  have e0 : (⟨#[]⟩ : ByteArray).size = 0 := rfl
  simp [manL, exR, layL, trimL, trimN, encs, enc_small, e0]
  decide
theorem exR_yes : readM 109 3 4 [manL exR] 0 = .inr { exR with floor := trimL exR.floor } := readM_of exR_right
theorem exR_no {k : UInt8} {a b : Nat} (h : ¬ (k = 109 ∧ a = 3 ∧ b = 4)) : readM k a b [manL exR] 0 = .inl 4 := by
  unfold readM
  rw [if_neg (by simp)]
  simp only [decM_of exR_right]
  exact if_neg h
theorem title_facts {k : UInt8} {a b : Nat} (h : ¬ (k = 109 ∧ a = 3 ∧ b = 4)) : ((k.toNat : Int) == 109) = false ∨ (((k.toNat : Int) == 109) = true ∧ ((a : Int) == 3) = false) ∨ (((k.toNat : Int) == 109) = true ∧ ((a : Int) == 3) = true ∧ ((b : Int) == 4) = false) := by
  have hk : ((k.toNat : Int) == 109) = decide (k = 109) := by
    by_cases h : k = 109
    · subst h; rfl
    · rw [decide_eq_false h, beq_eq_false_iff_ne]
      exact fun e => h (UInt8.toNat_inj.1 (by have : (109 : UInt8).toNat = 109 := rfl; omega))
  have ha : ((a : Int) == 3) = decide (a = 3) := by
    by_cases h : a = 3
    · subst h; rfl
    · rw [decide_eq_false h, beq_eq_false_iff_ne]; omega
  have hb : ((b : Int) == 4) = decide (b = 4) := by
    by_cases h : b = 4
    · subst h; rfl
    · rw [decide_eq_false h, beq_eq_false_iff_ne]; omega
  rw [hk, ha, hb]
  simp only [decide_eq_true_eq, decide_eq_false_iff_not]
  by_cases h1 : k = 109
  · by_cases h2 : a = 3
    · exact .inr (.inr ⟨h1, h2, fun h3 => h ⟨h1, h2, h3⟩⟩)
    · exact .inr (.inl ⟨h1, h2⟩)
  · exact .inl h1

set_option maxRecDepth 100000 in
set_option maxHeartbeats 4000000 in
theorem errs_main (a : Mn) (A P : Option Addr) (n c pn pc : Nat) (q : List UInt8) (kt : UInt8) (tA tB : Nat) (w : World) (T : Chk.Tabs w) (ha : Arg w a A n c) (hq : Sees w P pn q) (hpc : pn ≤ pc) (hpc2 : pc ≤ 9223372036854775807) (hA : tA < 18446744073709551616) (hB : tB < 18446744073709551616) (h1 : n ≤ 64) (h3 : a.fold.size ≤ 60) (h4 : pn ≤ 300) :
    Calls Tryd.prog 5 #[a.val A n c, .slice P pn pc, Sht.titleV kt tA tB] w fun e w' => e = .returned (.bool true) ∧ Below w.heap.size w w' := by
  have b0 := ((Below.refl w.heap.size w).alloc (Nat.le_refl _) (.cells (a.row A n c) 26)).alloc (by simp) (.cells #[.int .u8 (kt.toNat : Int), .int .u64 (tA : Int), .int .u64 (tB : Int)] 50)
  have g0 : Box ((w.alloc (.cells (a.row A n c) 26)).alloc (.cells #[.int .u8 (kt.toNat : Int), .int .u64 (tA : Int), .int .u64 (tB : Int)] 50)) w.heap.size a A n c := by
    unfold Box
    rw [Below.heap_alloc _ _ _ (by simp)]
    exact heap_alloc_new w _
  have g1 : Sht.TitleAt ((w.alloc (.cells (a.row A n c) 26)).alloc (.cells #[.int .u8 (kt.toNat : Int), .int .u64 (tA : Int), .int .u64 (tB : Int)] 50)) (w.heap.size + 1) kt tA tB := by
    have := heap_alloc_new (w.alloc (.cells (a.row A n c) 26)) (.cells #[.int .u8 (kt.toNat : Int), .int .u64 (tA : Int), .int .u64 (tB : Int)] 50)
    unfold Sht.TitleAt
    simpa using this
  have TK := Lib.hid (ha.took h1)
  have HAA := Lib.hid ha
  have HQ := Lib.hid hq
  have hql : q.length ≤ 300 := by rw [hq.1]; exact h4
  obtain ⟨bo, hbo⟩ : ∃ bo, bo = mayB a := ⟨_, rfl⟩
  have HBO := Lib.hid hbo
  have WR := Lib.hid (fun w0 W d T hd tv => mwriteNew w0 W d a A n c T hd ha.n0 ha.n1 ha.sr ha.tm tv h1 (by omega))
  rw [← hbo] at WR
  clear ha hq hbo
  obtain ⟨nd, sr, v, tm, fd⟩ := a
  simp only [] at h3
  unfold Mn.row at b0 g0 g1
  unfold Mn.val Mn.row at WR
  simp only [] at b0 g0 g1 WR
  unfold Mn.val Mn.row Sht.titleV
  simp only []
  go_enter Tryd.func5, Tryd.ntmps5
  go_wp2_with fail
  generalize (w.alloc (.cells #[.int .i64 nd, .int .u64 (sr : Int), .slice A n c, .int .u64 (tm : Int), .string fd] 26)).alloc (.cells #[.int .u8 (kt.toNat : Int), .int .u64 (tA : Int), .int .u64 (tB : Int)] 50) = w1 at b0 g0 g1 ⊢
  refine (awakeM w1 (T.below b0)).mono ?_
  rintro e w2 ⟨rfl, hb2⟩
  have k0 := g0.below hb2
  have k1 := g1.below hb2
  obtain ⟨p0, p1, p2, p3, p4⟩ := box5 k0
  have B2 := Lib.hid (b0.trans (hb2.mono b0.size))
  clear hb2 g0 g1 b0
  have f1 : fd.size ≤ 9223372036854775807 := by omega
  go_wp2_with fail
  refine (newL w2 w2 (Below.refl _ _) 65536).mono ?_
  rintro e w3 ⟨d, rfl, hd3⟩
  have k03 := k0.below hd3.below
  clear p0 p1 p2 p3 p4
  obtain ⟨p0, p1, p2, p3, p4⟩ := box5 k03
  have HD3 := Lib.hid hd3
  clear hd3
  go_upto_region 4 with fail
  go_cut [8] from 19 (fun s8 wx => s8 = .bool (!bo) ∧ Hid (Below w3.heap.size w3 wx))
  case first =>
    by_cases a1 : 0 ≤ nd
    case neg =>
      have q0 : decide (nd < 0) = true := decide_eq_true (by omega)
      have hb : bo = false := by rw [HBO.out]; simp [mayB, a1]
      subst hb
      clear a1
      go_wp2_with fail
      go_meet
      case rel => exact ⟨rfl, Lib.hid (Below.refl _ _)⟩
    have q0 : decide (nd < 0) = false := decide_eq_false (by omega)
    by_cases a2 : nd < 64
    case neg =>
      have q1 : decide ((64 : Int) ≤ nd) = true := decide_eq_true (by omega)
      have hb : bo = false := by rw [HBO.out]; simp [mayB, a2]
      subst hb
      clear a1 a2
      go_wp2_with fail
      go_meet
      case rel => exact ⟨rfl, Lib.hid (Below.refl _ _)⟩
    have q1 : decide ((64 : Int) ≤ nd) = false := decide_eq_false (by omega)
    have HF : Hid (bo = foldB fd) := Lib.hid (by rw [HBO.out]; simp [mayB, a1, a2])
    clear a1 a2
    have hemp := empty_iff fd
    by_cases a6 : fd.size = 0
    · have hb : bo = true := by rw [HF.out]; simp [foldB, a6]
      subst hb
      rw [decide_eq_true a6] at hemp
      have hnil : fd.toList = [] := by simpa using hemp
      clear a6
      go_wp2_with fail
      go_meet
      case rel => exact ⟨rfl, Lib.hid (Below.refl _ _)⟩
    · have hb : bo = okName fd.data.toList := by rw [HF.out]; simp [foldB, a6]
      rw [decide_eq_false a6] at hemp
      have hnil : ¬ fd.toList = [] := fun e => by rw [e] at hemp; cases hemp
      have NM := named_full fd w3 f1
      rw [← hb] at NM
      have NM2 := Lib.hid NM
      clear a6 hb NM HF HBO
      go_wp2_with fail
      refine NM2.out.mono ?_
      rintro e w4 ⟨rfl, hb4⟩
      have HB4 := Lib.hid hb4
      clear hb4
      cases bo
      · go_wp2_with fail
        go_meet
        case rel => exact ⟨rfl, HB4⟩
      · go_wp2_with fail
        go_meet
        case rel => exact ⟨rfl, HB4⟩
  case rest =>
    obtain ⟨rfl, HCUT⟩ := hcut
    have hd4 := HD3.out.after HCUT.out
    have k04 := k0.below hd4.below
    clear p0 p1 p2 p3 p4
    obtain ⟨p0, p1, p2, p3, p4⟩ := box5 k04
    have WR2 := Lib.hid (WR.out w2 wc d (T.below B2.out) hd4 (TK.out.below (B2.out.trans (hd4.below.mono B2.out.size))))
    have b4 := Lib.hid (B2.out.trans (hd4.below.mono B2.out.size))
    have an := ansW_is bo
    clear WR k04 hd4 HCUT HD3
    go_wp2_with fail
    refine WR2.out.mono ?_
    rintro e w5 ⟨rfl, hb5⟩
    have B5 := Lib.hid (B2.out.trans (hb5.mono B2.out.size))
    have k15 := k1.below hb5
    clear p0 p1 p2 p3 p4 WR2 hb5 b4
    generalize ansW bo = X at an ⊢
    go_wp2_with fail
    refine (newL w5 w5 (Below.refl _ _) 65536).mono ?_
    rintro e w6 ⟨d2, rfl, hd6⟩
    clear an
    go_wp2_with fail
    refine (mappendL w5 w6 d2 P pn pc q hd6 (HQ.out.below B5.out) (by omega) hpc hpc2).mono ?_
    rintro e w7 ⟨rfl, hd7⟩
    clear hd6
    go_wp2_with fail
    refine (mreadAny w5 w7 d2 q (T.below B5.out) hd7 hql).mono ?_
    rintro e w8 ⟨f, nd8, sr8, tm8, A8, n8, c8, fd8, rfl, hf8, hd8⟩
    have al8 := hd8.after ((Below.refl w8.heap.size w8).alloc (Nat.le_refl _) (.cells #[.int .i64 nd8, .int .u64 (sr8 : Int), .slice A8 n8 c8, .int .u64 (tm8 : Int), .string fd8] 26))
    have g8 := heap_alloc_new w8 (.cells #[.int .i64 nd8, .int .u64 (sr8 : Int), .slice A8 n8 c8, .int .u64 (tm8 : Int), .string fd8] 26)
    have HD8 := Lib.hid al8
    clear hd7 hd8 al8
    go_upto_region 11 with fail
    generalize w8.alloc (.cells #[.int .i64 nd8, .int .u64 (sr8 : Int), .slice A8 n8 c8, .int .u64 (tm8 : Int), .string fd8] 26) = w9 at g8 HD8 ⊢
    generalize w8.heap.size = b8 at g8 ⊢
    go_cut [85] from 75 (fun s85 wx => s85 = .bool false ∧ wx = w9)
    case first =>
      obtain ⟨m0, m1, m2, m3, m4⟩ := box5 g8
      clear g8 HD8
      rcases hf8 with rfl | ⟨rfl, rfl⟩
      · go_wp2_with fail
        go_meet
        case rel => exact ⟨rfl, rfl⟩
      · go_wp2_with fail
        go_meet
        case rel => exact ⟨rfl, rfl⟩
    case rest =>
      obtain ⟨rfl, hwc⟩ := hcut
      subst hwc
      obtain ⟨wz, rfl⟩ : ∃ wz : World, wz = wc := ⟨_, rfl⟩
      have B9 := Lib.hid (B5.out.trans (HD8.out.below.mono B5.out.size))
      have k19 := k15.below HD8.out.below
      clear HD8 g8 k15 hf8
      have TC := T.below B9.out
      have hwl : (Sht.wholeL kt tA tB [manL exR]).length ≤ 2100 := by
        have hhl := Sht.headL_len (k := kt) (a := tA) (b := tB) hA hB
        have htl := (Sht.titleL_len (k := kt) (a := tA) (b := tB) hA hB).2
        have he := enc_ten (n := 5) (by omega)
        have hw : (Sht.wraps [manL exR]).length ≤ 20 := by
          simp only [Sht.wraps, List.map_cons, List.map_nil, List.flatten_cons, List.flatten_nil, List.append_nil, wrap_length, exR_bytes, List.length_cons, List.length_nil, Nat.reduceAdd]
          omega
        unfold Sht.wholeL
        rw [List.length_append]
        omega
      have hsw := Sht.swap_newN mN_ne (room := 65536) (left := -1) (torn := 0) (acts := 0) (q := Sht.wholeL kt tA tB [manL exR]) (by decide) (by omega)
      have hfx : Hd.fits ⟨65536, 0, -1, 0, false⟩ := Sht.hd_fits5 (by simp) (by simp) (by simp) (by simp) (by simp) (by simp) (by simp)
      have ENC := fun W => encode_own exR none 0 0 W (by decide) (by decide) (by decide) (by decide) ⟨SeesU.nil _ _, fun i => by rw [show exR.floor = [] from rfl, at_ge (by simp)]; decide, by omega, by omega, by omega⟩ (by omega) (by decide)
      have SWP := fun V W d' base R N rc (hd : Since wz d' [] ⟨65536, 0, -1, 0, false⟩ V) hb hbase own => mswapL wz V W d' base [] _ ⟨65536, 0, -1, 0, false⟩ _ 0 kt tA tB R N rc (manL exR) TC hd hb hbase own hfx (by simp) hA hB (by rw [exR_bytes]; simp) (by simp [sumA]) (by simp) hsw
      have RDD := fun W d' (hd : Since wz d' [⟨mN, Sht.wholeL kt tA tB [manL exR], (Sht.wholeL kt tA tB [manL exR]).length⟩] ⟨65536, 4, -1, 0, false⟩ W) => mreadSheet wz W d' _ ⟨65536, 4, -1, 0, false⟩ ⟨mN, Sht.wholeL kt tA tB [manL exR], (Sht.wholeL kt tA tB [manL exR]).length⟩ kt tA tB (manL exR) TC hA hB (by rw [exR_bytes]; simp) hd rfl (by simp [lookA]) rfl (by simp [sumA]; omega)
      have HWL := Lib.hid hwl
      unfold Mn.val Mn.row exR at ENC
      simp only [Int.natCast_zero] at ENC
      rw [show ((4 : Nat) : Int) = 4 from rfl] at ENC
      rw [show (manL ⟨3, 4, [], 0, ⟨#[]⟩⟩) = manL exR from rfl] at ENC
      unfold Sht.titleV at SWP
      have HEN := Lib.hid ENC
      have HSW := Lib.hid SWP
      have HRD := Lib.hid RDD
      clear ENC SWP RDD hwl hsw hfx TC
      generalize (manL exR).length = N at HEN
      go_wp2_with fail
      refine (newL wz wz (Below.refl _ _) 65536).mono ?_
      rintro e w10 ⟨d3, rfl, hd10⟩
      have hd11 := hd10.after ((Below.refl w10.heap.size w10).alloc (Nat.le_refl _) (.cells #[.int .i64 3, .int .u64 4, .slice none 0 0, .int .u64 0, .string ⟨#[]⟩] 26))
      have g11 := heap_alloc_new w10 (.cells #[.int .i64 3, .int .u64 4, .slice none 0 0, .int .u64 0, .string ⟨#[]⟩] 26)
      have HD11 := Lib.hid hd11
      have HD10 := Lib.hid hd10
      have al11 := (Below.refl w10.heap.size w10).alloc (Nat.le_refl _) (.cells #[.int .i64 3, .int .u64 4, .slice none 0 0, .int .u64 0, .string ⟨#[]⟩] 26)
      clear hd10 hd11
      go_upto_region 15 with fail
      generalize w10.alloc (.cells #[.int .i64 3, .int .u64 4, .slice none 0 0, .int .u64 0, .string ⟨#[]⟩] 26) = w11 at g11 HD11 al11 ⊢
      obtain ⟨rb, hrb⟩ : ∃ rb, rb = w10.heap.size := ⟨_, rfl⟩
      rw [← hrb] at g11 ⊢
      have HRB := Lib.hid hrb
      have G11 := Lib.hid g11
      have AL := Lib.hid al11
      clear hrb al11
      obtain ⟨tb, htb⟩ : ∃ tb, tb = w.heap.size + 1 := ⟨_, rfl⟩
      rw [← htb] at k19 ⊢
      have HTB := Lib.hid htb
      clear htb
      obtain ⟨m0, m1, m2, m3, m4⟩ := box5 g11
      obtain ⟨t0, t1, t2⟩ := (k19.below HD11.out.below).cells
      have E1 : ∀ W, Below w11.heap.size w11 W → Calls Tryd.prog 9 #[.agg #[.int .i64 3, .int .u64 4, .slice none 0 0, .int .u64 0, .string ⟨#[]⟩]] W fun e w' => ∃ R rc, e = .returned (.slice R N rc) ∧ Hid (w'.ownsRow w11.heap.size 5 1 (.slice R N rc) N (cs (manL exR)) ∧ Below w11.heap.size w11 w') ∧ ((w'.cell? ⟨tb, 0, none⟩ = some (.int .u8 (kt.toNat : Int)) ∧ w'.cell? ⟨tb, 1, none⟩ = some (.int .u64 (tA : Int)) ∧ w'.cell? ⟨tb, 2, none⟩ = some (.int .u64 (tB : Int))) ∧ (w'.cell? ⟨rb, 0, none⟩ = some (.int .i64 3) ∧ w'.cell? ⟨rb, 1, none⟩ = some (.int .u64 4) ∧ w'.cell? ⟨rb, 2, none⟩ = some (.slice none 0 0) ∧ w'.cell? ⟨rb, 3, none⟩ = some (.int .u64 0) ∧ w'.cell? ⟨rb, 4, none⟩ = some (.string ⟨#[]⟩))) ∧ (tb < w'.heap.size ∧ ¬ tb = w'.heap.size) ∧ rb < w'.heap.size ∧ ¬ rb = w'.heap.size := fun W hW => by
        refine (HEN.out W).mono ?_
        rintro e w' ⟨R, rc, rfl, h2, h3⟩
        have hb' := hW.trans (h3.mono hW.size)
        have hk := (k19.below HD11.out.below).below hb'
        have hlt := hk.lt
        have hr := (hb'.block rb (Array.getElem?_eq_some_iff.1 G11.out).1).trans G11.out
        have hlr := (Array.getElem?_eq_some_iff.1 hr).1
        exact ⟨R, rc, rfl, Lib.hid ⟨Own.lower h2 hW.size, hb'⟩, ⟨hk.cells, box5 hr⟩, ⟨hlt, by omega⟩, hlr, by omega⟩
      have S1 : ∀ W R rc, Hid (W.ownsRow w11.heap.size 5 1 (.slice R N rc) N (cs (manL exR)) ∧ Below w11.heap.size w11 W) → Calls Tryd.prog 22 #[.pointer (some ⟨d3, 0, none⟩), .string ⟨mN.toArray⟩, .agg #[.int .u8 (kt.toNat : Int), .int .u64 (tA : Int), .int .u64 (tB : Int)], .slice (some ⟨W.heap.size, 0, none⟩) 1 1] (W.alloc (.cells #[.slice R N rc] 27)) fun e w' => e = .returned (.int .i64 0) ∧ Hid (Since wz d3 [⟨mN, Sht.wholeL kt tA tB [manL exR], (Sht.wholeL kt tA tB [manL exR]).length⟩] ⟨65536, 4, -1, 0, false⟩ w') ∧ (w'.cell? ⟨tb, 0, none⟩ = some (.int .u8 (kt.toNat : Int)) ∧ w'.cell? ⟨tb, 1, none⟩ = some (.int .u64 (tA : Int)) ∧ w'.cell? ⟨tb, 2, none⟩ = some (.int .u64 (tB : Int))) ∧ (w'.cell? ⟨rb, 0, none⟩ = some (.int .i64 3) ∧ w'.cell? ⟨rb, 1, none⟩ = some (.int .u64 4) ∧ w'.cell? ⟨rb, 2, none⟩ = some (.slice none 0 0) ∧ w'.cell? ⟨rb, 3, none⟩ = some (.int .u64 0) ∧ w'.cell? ⟨rb, 4, none⟩ = some (.string ⟨#[]⟩)) := fun W R rc h => by
        refine (HSW.out w10 W d3 w11.heap.size R N rc HD10.out (AL.out.trans (h.out.2.mono AL.out.size)) AL.out.size h.out.1).mono ?_
        rintro e w' ⟨rfl, hs, hg⟩
        have hr := (h.out.2.block rb (Array.getElem?_eq_some_iff.1 G11.out).1).trans G11.out
        have hr2 := (hg rb (by have := HRB.out; omega) (Array.getElem?_eq_some_iff.1 hr).1).trans hr
        exact ⟨rfl, Lib.hid hs, (k19.below hs.below).cells, box5 hr2⟩
      clear HEN HSW g11
      go_cut [93] from 86 (fun s93 wx => s93 = .int .i64 0 ∧ Hid (Since wz d3 [⟨mN, Sht.wholeL kt tA tB [manL exR], (Sht.wholeL kt tA tB [manL exR]).length⟩] ⟨65536, 4, -1, 0, false⟩ wx))
      case first =>
        go_region_held3 (fun w' => (w'.cell? ⟨tb, 0, none⟩ = some (.int .u8 (kt.toNat : Int)) ∧ w'.cell? ⟨tb, 1, none⟩ = some (.int .u64 (tA : Int)) ∧ w'.cell? ⟨tb, 2, none⟩ = some (.int .u64 (tB : Int))) ∧ (w'.cell? ⟨rb, 0, none⟩ = some (.int .i64 3) ∧ w'.cell? ⟨rb, 1, none⟩ = some (.int .u64 4) ∧ w'.cell? ⟨rb, 2, none⟩ = some (.slice none 0 0) ∧ w'.cell? ⟨rb, 3, none⟩ = some (.int .u64 0) ∧ w'.cell? ⟨rb, 4, none⟩ = some (.string ⟨#[]⟩))) (go_keep)
          (first
            | (go_at_call 9
               refine (E1 _ ?h1).mono ?_
               case h1 => first | exact Below.refl _ _ | exact (Below.refl _ _).drew
               rintro e w7 ⟨R, rc, rfl, HB7, ⟨⟨t0, t1, t2⟩, ⟨m0, m1, m2, m3, m4⟩⟩, ⟨hz7, hn7⟩, hz8, hn8⟩)
            | (go_at_call 22
               refine (S1 _ _ _ ?h2).mono ?_
               case h2 => exact HB7
               rintro e w8 ⟨rfl, HN8, ⟨t0, t1, t2⟩, ⟨m0, m1, m2, m3, m4⟩⟩))
        go_wp2_with fail
        go_meet
        case rel => exact ⟨rfl, HN8⟩
      case rest =>
        obtain ⟨rfl, HS12⟩ := hcut
        have RD2 := Lib.hid (HRD.out wc d3 HS12.out)
        clear t0 t1 t2 m0 m1 m2 m3 m4 E1 S1 HRD HD10 HD11 G11 AL HRB
        by_cases hT : kt = 109 ∧ tA = 3 ∧ tB = 4
        · obtain ⟨e1, e2, e3⟩ := hT
          subst e1 e2 e3
          rw [exR_yes] at RD2
          have e109 : ((109 : UInt8).toNat : Int) = 109 := rfl
          go_wp2_with fail
          refine RD2.out.mono ?_
          rintro e w15 ⟨⟨RA, rn, rc, rfl, own, hb15⟩, hd15⟩
          unfold Mn.val Mn.row exR
          simp only [Int.natCast_zero]
          rw [show ((4 : Nat) : Int) = 4 from rfl]
          have hd16 := hd15.after ((Below.refl w15.heap.size w15).alloc (Nat.le_refl _) (.cells #[.int .i64 3, .int .u64 4, .slice RA rn rc, .int .u64 0, .string ⟨#[]⟩] 26))
          clear RD2 own hb15 hd15
          have SYN := Lib.hid (fun W (hd : Since wz d3 [⟨mN, Sht.wholeL 109 3 4 [manL exR], (Sht.wholeL 109 3 4 [manL exR]).length⟩] ⟨65536, 4, 0, 0, false⟩ W) => msyncL wz W d3 _ ⟨65536, 4, 0, 0, false⟩ hd (Sht.hd_fits5 (by simp) (by simp) (by simp) (by simp) (by simp) (by simp) (by simp)) (by simp [sumA]; have := HWL.out; omega))
          have OFF := Lib.hid (fun W (hd : Since wz d3 [⟨mN, Sht.wholeL 109 3 4 [manL exR], (Sht.wholeL 109 3 4 [manL exR]).length⟩] ⟨65536, 5, 0, 0, true⟩ W) => mreadOff wz W d3 _ ⟨65536, 5, 0, 0, true⟩ hd rfl (by simp [sumA]; have := HWL.out; omega))
          have HFT := Lib.hid (show thereF ⟨65536, 4, 0, 0, false⟩ mN syncG [⟨mN, Sht.wholeL 109 3 4 [manL exR], (Sht.wholeL 109 3 4 [manL exR]).length⟩] = [⟨mN, Sht.wholeL 109 3 4 [manL exR], (Sht.wholeL 109 3 4 [manL exR]).length⟩] by simp [thereF, Sht.may_stopN])
          go_wp2_with fail
          refine (armL wz _ d3 _ _ 0 0 hd16).mono ?_
          rintro e w17 ⟨rfl, hd17⟩
          clear hd16
          go_wp2_with fail
          refine (SYN.out w17 hd17).mono ?_
          rintro e w18 ⟨rfl, hd18⟩
          rw [HFT.out, Sht.act_stopN] at hd18
          clear hd17
          go_wp2_with fail
          refine (OFF.out w18 hd18).mono ?_
          rintro e w19 ⟨rfl, hd19⟩
          unfold zeroM
          have hda := hd19.after ((Below.refl w19.heap.size w19).alloc (Nat.le_refl _) (.cells #[.int .i64 0, .int .u64 0, .slice none 0 0, .int .u64 0, .string ⟨#[]⟩] 26))
          have k1a := k19.below hda.below
          obtain ⟨t0, t1, t2⟩ := k1a.cells
          have BF := Lib.hid (B9.out.trans (hda.below.mono B9.out.size))
          clear hd18 hd19 hda k1a
          rw [e109] at t0
          rw [show ((3 : Nat) : Int) = 3 from rfl] at t1
          rw [show ((4 : Nat) : Int) = 4 from rfl] at t2
          go_wp2
          go_ret
          exact ⟨rfl, BF.out⟩
        · rw [exR_no hT] at RD2
          have hq := title_facts hT
          have HQ3 := Lib.hid hq
          clear hT hq
          go_wp2_with fail
          refine RD2.out.mono ?_
          rintro e w15 ⟨⟨rfl, hb15⟩, hd15⟩
          unfold zeroM
          have hd16 := hd15.after ((Below.refl w15.heap.size w15).alloc (Nat.le_refl _) (.cells #[.int .i64 0, .int .u64 0, .slice none 0 0, .int .u64 0, .string ⟨#[]⟩] 26))
          clear RD2 hb15 hd15
          have SYN := Lib.hid (fun W (hd : Since wz d3 [⟨mN, Sht.wholeL kt tA tB [manL exR], (Sht.wholeL kt tA tB [manL exR]).length⟩] ⟨65536, 4, 0, 0, false⟩ W) => msyncL wz W d3 _ ⟨65536, 4, 0, 0, false⟩ hd (Sht.hd_fits5 (by simp) (by simp) (by simp) (by simp) (by simp) (by simp) (by simp)) (by simp [sumA]; have := HWL.out; omega))
          have OFF := Lib.hid (fun W (hd : Since wz d3 [⟨mN, Sht.wholeL kt tA tB [manL exR], (Sht.wholeL kt tA tB [manL exR]).length⟩] ⟨65536, 5, 0, 0, true⟩ W) => mreadOff wz W d3 _ ⟨65536, 5, 0, 0, true⟩ hd rfl (by simp [sumA]; have := HWL.out; omega))
          have HFT := Lib.hid (show thereF ⟨65536, 4, 0, 0, false⟩ mN syncG [⟨mN, Sht.wholeL kt tA tB [manL exR], (Sht.wholeL kt tA tB [manL exR]).length⟩] = [⟨mN, Sht.wholeL kt tA tB [manL exR], (Sht.wholeL kt tA tB [manL exR]).length⟩] by simp [thereF, Sht.may_stopN])
          go_wp2_with fail
          refine (armL wz _ d3 _ _ 0 0 hd16).mono ?_
          rintro e w17 ⟨rfl, hd17⟩
          clear hd16
          go_wp2_with fail
          refine (SYN.out w17 hd17).mono ?_
          rintro e w18 ⟨rfl, hd18⟩
          rw [HFT.out, Sht.act_stopN] at hd18
          clear hd17
          go_wp2_with fail
          refine (OFF.out w18 hd18).mono ?_
          rintro e w19 ⟨rfl, hd19⟩
          unfold zeroM
          have hda := hd19.after ((Below.refl w19.heap.size w19).alloc (Nat.le_refl _) (.cells #[.int .i64 0, .int .u64 0, .slice none 0 0, .int .u64 0, .string ⟨#[]⟩] 26))
          have k1a := k19.below hda.below
          obtain ⟨t0, t1, t2⟩ := k1a.cells
          have BF := Lib.hid (B9.out.trans (hda.below.mono B9.out.size))
          clear hd18 hd19 hda k1a
          generalize (kt.toNat : Int) = ki at t0 HQ3
          generalize (tA : Int) = ai at t1 HQ3
          generalize (tB : Int) = bi at t2 HQ3
          rcases HQ3.out with q1 | ⟨q1, q2⟩ | ⟨q1, q2, q3⟩
          all_goals
            go_wp2
            go_ret
            exact ⟨rfl, BF.out⟩
end Go.Proofs.YtffhepdhkpldlaaDoor.Man
