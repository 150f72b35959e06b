/- SegmentStrange, walked. -/
import Derived.Test.YtfdnlgigllflfaaGreatDoorSegStr
import Derived.Test.YtfdnlgigllflfaaGreatDoorBEvent
import Derived.Test.YtfdnlgigllflfaaGreatDoorBPlain
namespace Go.Proofs.YtfdnlgigllflfaaGreatDoor.Seg
open Go Go.RowKit Go.Proofs.YtfdnlgigllflfaaGreatDoor.Words Go.Proofs.YtfdnlgigllflfaaGreatDoor.Enc Go.Proofs.YtfdnlgigllflfaaGreatDoor.Evt Go.Proofs.YtfdnlgigllflfaaGreatDoor.Made Go.Proofs.YtfdnlgigllflfaaGreatDoor.Dsk Go.Proofs.YtfdnlgigllflfaaGreatDoor.Sht
set_option linter.unusedVariables false
set_option linter.unusedSimpArgs false

set_option maxRecDepth 100000 in
theorem strange_long2 (hw : Nat) (A : Option Addr) (n c : Nat) (B : Option Addr) (m k : Nat) (w : World) (ST : STabs w) (hn : n ≤ 10) (hm : 100 < m) :
    Calls Tryz.prog 5 #[.slice A n c, .int .u8 (hw : Int), .slice B m k] w fun e w' => e = .returned (.bool true) ∧ Below w.heap.size w w' := by
  have h10' : ¬ 10 < n := by omega
  have h100' : 100 < m := hm
  go_enter Tryz.func5, Tryz.ntmps5
  go_wp2_with fail
  refine (awake_any w ST).mono ?_
  rintro e w1 ⟨rfl, hb1⟩
  go_wp2_with fail
  refine (awake_any w1 (ST.below hb1)).mono ?_
  rintro e w2 ⟨rfl, hb2⟩
  have b2 := hb1.trans (hb2.mono hb1.size)
  go_wp2
  go_ret
  exact ⟨rfl, b2⟩
set_option maxRecDepth 100000 in
set_option maxHeartbeats 4000000 in
theorem strange_0 (hw : Nat) (A : Option Addr) (n c : Nat) (l : List (Nat × Nat)) (B : Option Addr) (m k : Nat) (q : List UInt8) (w : World) (T : Chk.Tabs w) (ST : STabs w) (hP : SeesP w A n l) (hq : Sees w B m q) (hn : n ≤ 10) (hm : m ≤ 100) (hmk : m ≤ k) (hkk : k ≤ 9223372036854775807) (hhw : hw < 256) (hK : hw % 4 = 0) :
    Calls Tryz.prog 5 #[.slice A n c, .int .u8 (hw : Int), .slice B m k] w fun e w' => e = .returned (.bool true) ∧ Below w.heap.size w w' := by
  have h10 : ¬ 10 < n := by omega
  have h100 : ¬ 100 < m := by omega
  have hln := hP.1
  have hsf := store_float Tryz.prog
  have c5 : ((5 : Nat) : Int) = 5 := rfl
  have c3 : ((3 : Nat) : Int) = 3 := rfl
  have hK1 : (hw : Int) % 4 = 0 := by omega
  have hhl := headL_len (k := 115) (a := 5) (b := 3) (by omega) (by omega)
  have htl := (titleL_len (k := 115) (a := 5) (b := 3) (by omega) (by omega)).2
  have hH50 : (headL 115 5 3).length ≤ 50 := by omega
  clear hhl htl
  have HK := Lib.hid hK
  clear hK
  go_enter Tryz.func5, Tryz.ntmps5
  go_wp2_with fail
  refine (awake_any w ST).mono ?_
  rintro e w1 ⟨rfl, hb1⟩
  go_wp2_with fail
  refine (newC 65536 w1).mono ?_
  rintro e w2 ⟨d, S2, rfl, hd2, hS2, hb2⟩
  have b2 := hb1.trans (hb2.mono hb1.size)
  have hS2w : ∀ k ∈ S2, w.heap.size ≤ k := fun k hk => Nat.le_trans hb1.size (hS2 k hk)
  have TT2 : TabsOn S2 w2 := TabsOn.of T ST b2 hS2w
  have hfill := fill_any d S2 5 3 A n c l w2 TT2 hd2 (fun W hW => hP.below (Below.beside b2 hW b2.size hS2w)) (by omega) (by omega) (by omega) (by omega)
  rw [c5, c3] at hfill
  clear TT2
  go_wp2_with fail
  refine hfill.mono ?_
  rintro e w3 ⟨A3, S3, N3, rfl, hd3, hb3, hs3, hse3⟩
  clear hfill
  have b3 := Below.beside b2 hb3 b2.size hS2w
  have hS3w : ∀ k ∈ S3, w.heap.size ≤ k := fun k hk => by
    rcases hs3 k hk with h | h
    · exact hS2w k h
    · exact Nat.le_trans b2.size h
  have hruns := evsF_runs (x := 5) (u := 3) (by omega) (by omega) l 0 (by omega) (by omega)
  rw [Nat.add_zero] at hruns
  have hLl := evsF_len ((5 : Nat) : Int) 3 l 0
  obtain ⟨L, hL⟩ : ∃ L, L = evsF ((5 : Nat) : Int) 3 0 l := ⟨_, rfl⟩
  rw [← hL] at hd3 hse3 hruns hLl ⊢
  clear hL
  rw [hln] at hse3 hd3 hLl ⊢
  have hws := runs_wraps hruns
  rw [hLl] at hws
  have hname := fun W hT => name_any 5 3 (by omega) (by omega) (by omega) W hT
  have hname4 := fun W hT => name_any 5 4 (by omega) (by omega) (by omega) W hT
  have hname9 := fun W hT => name_any 9 9 (by omega) (by omega) (by omega) W hT
  have c4 : ((4 : Nat) : Int) = 4 := rfl
  have c9 : ((9 : Nat) : Int) = 9 := rfl
  rw [c3] at hname
  rw [c4] at hname4
  rw [c9] at hname9
  have hnl := name_len (n := 5) (u := 3) (by omega)
  have hnl4 := name_len (n := 5) (u := 4) (by omega)
  obtain ⟨sq, hsq⟩ : ∃ sq, sq = 3 + n := ⟨_, rfl⟩
  generalize hZ : (headL 115 5 3).length + (wraps (L.map evL)).length = Z at ⊢
  have hZb : Z ≤ 2000 := by omega
  have hbox := (Below.refl w3.heap.size w3).alloc (Nat.le_refl _) (.cells #[.int .i64 5, .int .u64 3, .slice A3 n n, .int .i64 (Z : Int)] 29)
  have g8 := heap_alloc_new w3 (.cells #[.int .i64 5, .int .u64 3, .slice A3 n n, .int .i64 (Z : Int)] 29)
  have s4 : StrAt w d S3 _ _ A3 n L Z w3.heap.size _ := ⟨hd3.below hbox, hse3.below hbox, b3.trans (hbox.mono b3.size), hS3w, g8, fun hm => by have := hd3.lt _ hm; omega⟩
  unfold segV
  rw [c5, c3]
  go_upto_region 5 with fail
  generalize w3.alloc (.cells #[.int .i64 5, .int .u64 3, .slice A3 n n, .int .i64 (Z : Int)] 29) = w4 at s4 ⊢
  generalize w3.heap.size = b8 at s4 ⊢
  clear hd3 hse3 hbox b3 hb3 hs3 hd2 hb2 b2 hb1 g8 hS3w hS2w hS2
  have HZ := Lib.hid hZ
  have HSQ := Lib.hid hsq
  have HLL := Lib.hid hLl
  have HWS := Lib.hid hws
  have HLN := Lib.hid hln
  clear hZ hLl hws hln
  go_wp2_with fail
  refine (hname w4 (ST.below s4.bel)).mono ?_
  rintro e w5 ⟨rfl, hb5⟩
  have s5 := s4.below hb5
  clear hb5 s4
  have hnx := fun W => next_any 5 3 A3 n n Z W (by omega)
  unfold segV at hnx
  rw [c3, ← hsq] at hnx
  have hsq60 : sq ≤ 13 := by omega
  have hsq1 : 3 ≤ sq := by omega
  clear hsq
  obtain ⟨q0, q1, q2, q3⟩ := b4cells s5.box
  go_wp2_with fail
  refine (hnx w5).mono ?_
  rintro e w6 ⟨rfl, hb6⟩
  have s6 := s5.below hb6
  clear hb6 s5 q0 q1 q2 q3
  have hev50 := fun W => zEvent 5 sq 50 W
  have hev60 := fun W => zEvent 5 sq 60 W
  rw [show ((50 : Nat) : Int) = 50 from rfl] at hev50
  rw [show ((60 : Nat) : Int) = 60 from rfl] at hev60
  go_wp2_with fail
  refine (hev50 w6).mono ?_
  rintro e w7 ⟨Ae, ce, rfl, hb7⟩
  have s7 := s6.below hb7
  clear hb7 s6 hev50
  unfold zVal
  rw [show ((50 : Nat) : Int) = 50 from rfl]
  have hbb := (Below.refl w7.heap.size w7).alloc (Nat.le_refl _) (.cells #[.int .i64 5, .int .u64 (sq : Int), .int .u64 50, .int .u8 1, .string ⟨#[97]⟩, .slice Ae 0 ce, .float .f64 0, .int .i64 0] 46)
  have g11 := heap_alloc_new w7 (.cells #[.int .i64 5, .int .u64 (sq : Int), .int .u64 50, .int .u8 1, .string ⟨#[97]⟩, .slice Ae 0 ce, .float .f64 0, .int .i64 0] 46)
  go_upto_region 9 with fail
  generalize w7.alloc (.cells #[.int .i64 5, .int .u64 (sq : Int), .int .u64 50, .int .u8 1, .string ⟨#[97]⟩, .slice Ae 0 ce, .float .f64 0, .int .i64 0] 46) = w8 at g11 hbb ⊢
  have l7 : ∀ W, Below w7.heap.size w7 W → StrAt w d S3 _ _ A3 n L Z b8 W := fun W h => s7.below h
  generalize w7.heap.size = b11 at g11 hbb l7 ⊢
  have l11 : b11 < w8.heap.size := (Array.getElem?_eq_some_iff.1 g11).1
  obtain ⟨e0, e1, e2, e3, e4, e5, e6, e7⟩ := b8cells' g11
  have fr := frozen_row0 (i := 0) g11
  have g11' := heapSame (i := 0) (v := .int .i64 6) g11
  have s9 : StrAt w d S3 _ _ A3 n L Z b8 (w8.setCell ⟨b11, 0, none⟩ (.int .i64 6)) := l7 _ (hbb.setCell (Nat.le_refl _) _)
  go_upto_region 18 with fail
  generalize w8.setCell ⟨b11, 0, none⟩ (.int .i64 6) = w9 at g11' s9 ⊢
  clear l7 hbb s7 e0 e1 e2 e3 e4 e5 e6 e7 fr g11
  have g11 : w9.heap[b11]? = some (.cells #[.int .i64 6, .int .u64 (sq : Int), .int .u64 50, .int .u8 1, .string ⟨#[97]⟩, .slice Ae 0 ce, .float .f64 0, .int .i64 0] 46 (0, 0)) := g11'
  have hlt3 : ∃ x : Nat, x = 0 ∧ x < 3 := ⟨_, rfl, by omega⟩
  obtain ⟨e0, e1, e2, e3, e4, e5, e6, e7⟩ := b8cells' g11
  have henc := fun W => zEnc 6 sq 50 Ae ce W (by omega) (by omega) (by omega) (by omega) (by omega)
  have hb1l := zEv_short (x := 6) (seq := sq) (time := 50) (by omega) (by omega) (by omega) (by omega) (by omega)
  have hoff : ∀ M, prefE ((5 : Nat) : Int) sq (evL (zEv 6 sq 50) :: M) = [] := fun M => off_other (zEv_right (x := 6) (by omega) (by omega) (by omega) (by omega) (by omega)) (by simp [zEv]) zEv_plain (by simp [zEv]) M
  unfold zVal at henc
  rw [show ((50 : Nat) : Int) = 50 from rfl, show ((6 : Nat) : Int) = 6 from rfl] at henc
  rw [show ((6 : Nat) : Int) = 6 from rfl] at hb1l
  go_wp2_with fail
  refine (henc w9).mono ?_
  rintro e w10 ⟨A10, c10, rfl, hown10, hb10⟩
  have s10 := s9.below hb10
  have hs10 := Sees.of_own hown10
  have hn10 : (evL (zEv 6 sq 50)).length ≤ c10 := (Own.cap hown10).1
  clear henc s9 e0 e1 e2 e3 e4 e5 e6 e7 g11 hb10 hown10
  obtain ⟨B1, hB1⟩ : ∃ B1, B1 = evL (zEv 6 sq 50) := ⟨_, rfl⟩
  rw [← hB1] at hoff hb1l hs10 hn10 ⊢
  clear hB1
  have hadd := fun W hT hd' hs' => addRow d S3 (nameL ((5 : Nat) : Int) 3) (headL 115 5 3) (L.map evL) N3 (2 + n) A10 B1.length c10 B1 W hT hd' (name_ok (by omega)) (by omega) (by omega) hn10 hs' (by have := HWS.out; have := wrap_length B1; have := enc_two (n := B1.length) (by omega); omega)
  go_wp2_with fail
  refine (hadd w10 (T.below s10.bel) s10.disk hs10).mono ?_
  rintro e w11 ⟨rfl, S11, hd11, hb11, hss11⟩
  have s11 := s10.next hd11 hb11 hss11
  clear hadd s10 hs10 hd11 hb11 hss11 hn10
  obtain ⟨q0, q1, q2, q3⟩ := b4cells s11.box
  go_wp2_with fail
  refine (hnx w11).mono ?_
  rintro e w12 ⟨rfl, hb12⟩
  have s12 := s11.below hb12
  clear hb12 s11 q0 q1 q2 q3 hnx
  go_wp2_with fail
  refine (hev60 w12).mono ?_
  rintro e w13 ⟨Af, cf, rfl, hb13⟩
  have s13 := s12.below hb13
  clear hb13 s12 hev60
  have henc2 := fun W => zEnc 5 sq 60 Af cf W (by omega) (by omega) (by omega) (by omega) (by omega)
  have hb2l := zEv_short (x := 5) (seq := sq) (time := 60) (by omega) (by omega) (by omega) (by omega) (by omega)
  rw [c5] at henc2 hb2l
  go_wp2_with fail
  refine (henc2 w13).mono ?_
  rintro e w14 ⟨A14, c14, rfl, hown14, hb14⟩
  have s14 := s13.below hb14
  have hs14 := Sees.of_own hown14
  have hn14 : (evL (zEv 5 sq 60)).length ≤ c14 := (Own.cap hown14).1
  clear henc2 s13 hb14 hown14
  obtain ⟨B2, hB2⟩ : ∃ B2, B2 = evL (zEv 5 sq 60) := ⟨_, rfl⟩
  rw [← hB2] at hb2l hs14 hn14 ⊢
  clear hB2
  have hadd := fun W hT hd' hs' => addRow d S11 (nameL ((5 : Nat) : Int) 3) (headL 115 5 3) (L.map evL ++ [B1]) N3 (2 + n + 1) A14 B2.length c14 B2 W hT hd' (name_ok (by omega)) (by omega) (by omega) hn14 hs' (by have := HWS.out; rw [wraps_one, List.length_append]; have := wrap_length B1; have := enc_two (n := B1.length) (by omega); have := wrap_length B2; have := enc_two (n := B2.length) (by omega); omega)
  go_wp2_with fail
  refine (hadd w14 (T.below s14.bel) s14.disk hs14).mono ?_
  rintro e w15 ⟨rfl, S15, hd15, hb15, hss15⟩
  rw [List.append_assoc] at hd15
  have s15 := s14.next hd15 hb15 hss15
  clear hadd s14 hs14 hd15 hb15 hss15 hn14
  have hop := openOff d S15 5 3 N3 (2 + n + 1 + 1) L B1 B2 w15 (s15.tabs T ST) s15.disk (by omega) (by omega) hruns (by have := HLL.out; omega) (by omega) (by omega) (by omega) (by have := HLL.out; have := HSQ.out; rw [show 3 + L.length = sq by omega]; exact hoff _)
  rw [HLL.out, HZ.out] at hop
  clear hoff hb1l hb2l
  go_wp2_with fail
  refine hop.mono ?_
  rintro e w16 ⟨A16, S16, rfl, hd16, hb16, hss16, hse16⟩
  have s16 := s15.next hd16 hb16 hss16
  clear hop s15 hd16 hb16 hss16
  have hbx := (Below.refl w16.heap.size w16).alloc (Nat.le_refl _) (.cells #[.int .i64 5, .int .u64 3, .slice A16 n n, .int .i64 (Z : Int)] 29)
  have g12 := heap_alloc_new w16 (.cells #[.int .i64 5, .int .u64 3, .slice A16 n n, .int .i64 (Z : Int)] 29)
  have s17 := s16.below hbx
  have hse17 := hse16.below hbx
  unfold segV
  rw [c5, c3]
  go_upto_region 22 with fail
  generalize w16.alloc (.cells #[.int .i64 5, .int .u64 3, .slice A16 n n, .int .i64 (Z : Int)] 29) = w17 at g12 s17 hse17 ⊢
  generalize w16.heap.size = b12 at g12 ⊢
  clear hbx s16 hse16
  have hread := fun W hd' => readC d S16 [⟨nameL ((5 : Nat) : Int) 3, headL 115 5 3 ++ wraps (L.map evL), Z⟩] ⟨65536, 2 + n + 1 + 1 + 1, -1, 0, false⟩ (nameL ((5 : Nat) : Int) 3) W hd' (by omega) (by simp only [sumA, List.length_append]; have := HZ.out; omega)
  have hrb := read_bytes (h := ⟨65536, 2 + n + 1 + 1 + 1, -1, 0, false⟩) (s := nameL ((5 : Nat) : Int) 3) (files := [⟨nameL ((5 : Nat) : Int) 3, headL 115 5 3 ++ wraps (L.map evL), Z⟩]) (f := ⟨nameL ((5 : Nat) : Int) 3, headL 115 5 3 ++ wraps (L.map evL), Z⟩) rfl (by simp [lookA])
  rw [hrb.1, hrb.2] at hread
  unfold Tells at hread
  simp only [show (headL 115 5 3 ++ wraps (L.map evL)).length = Z by rw [List.length_append]; exact HZ.out] at hread
  rw [c5] at hread
  clear hrb
  go_wp2_with fail
  refine (hread w17 s17.disk).mono ?_
  rintro e w18 ⟨A18, c18, rfl, hown18, hb18⟩
  have s18 := s17.below hb18
  have hse18 := hse17.below hb18
  have g12' := (hb18.block _ (Array.getElem?_eq_some_iff.1 g12).1).trans g12
  clear hread s17 hse17 g12 hb18 hown18
  obtain ⟨q0, q1, q2, q3⟩ := b4cells s18.box
  obtain ⟨r0, r1, r2, r3⟩ := b4cells g12'
  have hsame := fun W (hW : Below w18.heap.size w18 W) => sameAll_any S16 S16 A16 A3 n n n L W (hse18.below hW) (s18.sees.below hW) (runs_mem hruns) (by omega)
  go_wp2_with fail
  refine (hsame _ (Below.refl _ _)).mono ?_
  rintro e w19 ⟨rfl, hb19⟩
  have s19 := s18.below hb19
  clear hsame s18 hse18 g12' hb19 q0 q1 q2 q3 r0 r1 r2 r3
  obtain ⟨q0, q1, q2, q3⟩ := b4cells s19.box
  go_wp2_with fail
  refine (hname4 w19 (ST.below s19.bel)).mono ?_
  rintro e w20 ⟨rfl, hb20⟩
  have s20 := s19.below hb20
  clear hb20 s19 q0 q1 q2 q3
  have hlen3 : (headL 115 5 3 ++ wraps (L.map evL)).length = Z := by rw [List.length_append]; exact HZ.out
  have hmv := moveC d S16 [⟨nameL ((5 : Nat) : Int) 3, headL 115 5 3 ++ wraps (L.map evL), Z⟩] ⟨65536, 2 + n + 1 + 1 + 1, -1, 0, false⟩ (nameL ((5 : Nat) : Int) 3) (nameL ((5 : Nat) : Int) 4) w20 s20.disk (hd_ok (by omega)) (by omega) (name_ok (by omega)) (by simp only [sumA, hlen3]; omega) (by simp)
  rw [move_one _ _ _ _ _ names_ne.1, act_un (by decide), c5] at hmv
  go_wp2_with fail
  refine hmv.mono ?_
  rintro e w21 ⟨rfl, S21, hd21, hb21, hss21⟩
  have s21 := s20.next hd21 hb21 hss21
  clear hmv s20 hd21 hb21 hss21
  go_wp2_with fail
  refine (hname4 w21 (ST.below s21.bel)).mono ?_
  rintro e w22 ⟨rfl, hb22⟩
  have s22 := s21.below hb22
  clear hb22 s21 hname4
  have hop4 := openS_other d S21 [⟨nameL ((5 : Nat) : Int) 4, headL 115 5 3 ++ wraps (L.map evL), Z⟩] ⟨65536, 2 + n + 1 + 1 + 1 + 1, -1, 0, false⟩ 5 3 4 ⟨nameL ((5 : Nat) : Int) 4, headL 115 5 3 ++ wraps (L.map evL), Z⟩ (wraps (L.map evL)) w22 (s22.tabs T ST) s22.disk (by omega) (by omega) (by omega) (by omega) (by simp only [sumA, hlen3]; omega) rfl (by simp [lookA]) rfl
  rw [c5] at hop4
  unfold Refused zeroSeg at hop4
  go_wp2_with fail
  refine hop4.mono ?_
  rintro e w23 ⟨rfl, hb23⟩
  have s23 := s22.below hb23
  clear hb23 s22 hop4
  have hbx := (Below.refl w23.heap.size w23).alloc (Nat.le_refl _) (.cells #[.int .i64 0, .int .u64 0, .slice none 0 0, .int .i64 0] 29)
  have s24 := s23.below hbx
  go_upto_region 27 with fail
  generalize w23.alloc (.cells #[.int .i64 0, .int .u64 0, .slice none 0 0, .int .i64 0] 29) = w24 at s24 ⊢
  clear hbx s23
  have hap := appendC d S21 [⟨nameL ((5 : Nat) : Int) 4, headL 115 5 3 ++ wraps (L.map evL), Z⟩] ⟨65536, 2 + n + 1 + 1 + 1 + 1, -1, 0, false⟩ feedX B m k q w24 s24.disk (hd_ok (by omega)) (by show 2 + n + 1 + 1 + 1 + 1 < _; omega) feedX_ok (by simp only [sumA, hlen3]; omega) (by simp) (by omega) hmk hkk (hq.below s24.bel) (Out.of_lt hq (Nat.le_refl _) s24.sub)
  rw [app_two _ _ _ _ _ _ (feedX_ne (by omega)) (by rw [hlen3]; have := hq.1; omega), act_un (by decide), c5] at hap
  unfold feedX at hap
  go_wp2_with fail
  refine hap.mono ?_
  rintro e w25 ⟨rfl, S25, hd25, hb25, hss25⟩
  have s25 := s24.next hd25 hb25 hss25
  clear hap s24 hd25 hb25 hss25
  have hoa := openS_arg d feedX (by simp [feedX]) w25 (ST.below s25.bel)
  unfold Refused zeroSeg feedX at hoa
  go_wp2_with fail
  refine hoa.mono ?_
  rintro e w26 ⟨rfl, hb26⟩
  have s26 := s25.below hb26
  clear hb26 s25 hoa
  have hbx := (Below.refl w26.heap.size w26).alloc (Nat.le_refl _) (.cells #[.int .i64 0, .int .u64 0, .slice none 0 0, .int .i64 0] 29)
  have s27 := s26.below hbx
  go_upto_region 29 with fail
  generalize w26.alloc (.cells #[.int .i64 0, .int .u64 0, .slice none 0 0, .int .i64 0] 29) = w27 at s27 ⊢
  clear hbx s26
  go_wp2_with fail
  refine (hname9 w27 (ST.below s27.bel)).mono ?_
  rintro e w28 ⟨rfl, hb28⟩
  have s28 := s27.below hb28
  clear hb28 s27 hname9
  have hlk : lookA (nameL ((9 : Nat) : Int) 9) [⟨nameL 5 4, headL 115 5 3 ++ wraps (L.map evL), Z⟩, ⟨[102, 101, 101, 100, 45, 120], q, 0⟩] = none := by
    have h1 := names_ne.2
    have h2 := feedX_ne (n := 9) (u := 9) (by omega)
    rw [c5, c9] at h1
    rw [c9] at h2 ⊢
    unfold feedX at h2
    simp only [lookA, List.find?_cons, List.find?_nil, decide_eq_false h1, decide_eq_false (Ne.symm h2)]
  have hon := openS_none d S25 _ _ 9 9 w28 (s28.tabs T ST) s28.disk (by omega) (by omega) (by simp only [sumA, hlen3]; have := hq.1; omega) rfl hlk
  rw [c9] at hon
  unfold Refused zeroSeg at hon
  go_wp2_with fail
  refine hon.mono ?_
  rintro e w29 ⟨rfl, hb29⟩
  have s29 := s28.below hb29
  clear hb29 s28 hon
  have hbx := (Below.refl w29.heap.size w29).alloc (Nat.le_refl _) (.cells #[.int .i64 0, .int .u64 0, .slice none 0 0, .int .i64 0] 29)
  have b30 := s29.bel.trans (hbx.mono s29.bel.size)
  go_upto_region 30 with fail
  generalize w29.alloc (.cells #[.int .i64 0, .int .u64 0, .slice none 0 0, .int .i64 0] 29) = w30 at b30 ⊢
  go_wp2
  go_ret
  exact ⟨rfl, b30⟩
set_option maxRecDepth 100000 in
set_option maxHeartbeats 4000000 in
theorem strange_1 (hw : Nat) (A : Option Addr) (n c : Nat) (l : List (Nat × Nat)) (B : Option Addr) (m k : Nat) (q : List UInt8) (w : World) (T : Chk.Tabs w) (ST : STabs w) (hP : SeesP w A n l) (hq : Sees w B m q) (hn : n ≤ 10) (hm : m ≤ 100) (hmk : m ≤ k) (hkk : k ≤ 9223372036854775807) (hhw : hw < 256) (hK : hw % 4 = 1) :
    Calls Tryz.prog 5 #[.slice A n c, .int .u8 (hw : Int), .slice B m k] w fun e w' => e = .returned (.bool true) ∧ Below w.heap.size w w' := by
  have h10 : ¬ 10 < n := by omega
  have h100 : ¬ 100 < m := by omega
  have hln := hP.1
  have hsf := store_float Tryz.prog
  have c5 : ((5 : Nat) : Int) = 5 := rfl
  have c3 : ((3 : Nat) : Int) = 3 := rfl
  have hK1 : (hw : Int) % 4 = 1 := by omega
  have hhl := headL_len (k := 115) (a := 5) (b := 3) (by omega) (by omega)
  have htl := (titleL_len (k := 115) (a := 5) (b := 3) (by omega) (by omega)).2
  have hH50 : (headL 115 5 3).length ≤ 50 := by omega
  clear hhl htl
  have HK := Lib.hid hK
  clear hK
  go_enter Tryz.func5, Tryz.ntmps5
  go_wp2_with fail
  refine (awake_any w ST).mono ?_
  rintro e w1 ⟨rfl, hb1⟩
  go_wp2_with fail
  refine (newC 65536 w1).mono ?_
  rintro e w2 ⟨d, S2, rfl, hd2, hS2, hb2⟩
  have b2 := hb1.trans (hb2.mono hb1.size)
  have hS2w : ∀ k ∈ S2, w.heap.size ≤ k := fun k hk => Nat.le_trans hb1.size (hS2 k hk)
  have TT2 : TabsOn S2 w2 := TabsOn.of T ST b2 hS2w
  have hfill := fill_any d S2 5 3 A n c l w2 TT2 hd2 (fun W hW => hP.below (Below.beside b2 hW b2.size hS2w)) (by omega) (by omega) (by omega) (by omega)
  rw [c5, c3] at hfill
  clear TT2
  go_wp2_with fail
  refine hfill.mono ?_
  rintro e w3 ⟨A3, S3, N3, rfl, hd3, hb3, hs3, hse3⟩
  clear hfill
  have b3 := Below.beside b2 hb3 b2.size hS2w
  have hS3w : ∀ k ∈ S3, w.heap.size ≤ k := fun k hk => by
    rcases hs3 k hk with h | h
    · exact hS2w k h
    · exact Nat.le_trans b2.size h
  have hruns := evsF_runs (x := 5) (u := 3) (by omega) (by omega) l 0 (by omega) (by omega)
  rw [Nat.add_zero] at hruns
  have hLl := evsF_len ((5 : Nat) : Int) 3 l 0
  obtain ⟨L, hL⟩ : ∃ L, L = evsF ((5 : Nat) : Int) 3 0 l := ⟨_, rfl⟩
  rw [← hL] at hd3 hse3 hruns hLl ⊢
  clear hL
  rw [hln] at hse3 hd3 hLl ⊢
  have hws := runs_wraps hruns
  rw [hLl] at hws
  have hname := fun W hT => name_any 5 3 (by omega) (by omega) (by omega) W hT
  have hname4 := fun W hT => name_any 5 4 (by omega) (by omega) (by omega) W hT
  have hname9 := fun W hT => name_any 9 9 (by omega) (by omega) (by omega) W hT
  have c4 : ((4 : Nat) : Int) = 4 := rfl
  have c9 : ((9 : Nat) : Int) = 9 := rfl
  rw [c3] at hname
  rw [c4] at hname4
  rw [c9] at hname9
  have hnl := name_len (n := 5) (u := 3) (by omega)
  have hnl4 := name_len (n := 5) (u := 4) (by omega)
  obtain ⟨sq, hsq⟩ : ∃ sq, sq = 3 + n := ⟨_, rfl⟩
  generalize hZ : (headL 115 5 3).length + (wraps (L.map evL)).length = Z at ⊢
  have hZb : Z ≤ 2000 := by omega
  have hbox := (Below.refl w3.heap.size w3).alloc (Nat.le_refl _) (.cells #[.int .i64 5, .int .u64 3, .slice A3 n n, .int .i64 (Z : Int)] 29)
  have g8 := heap_alloc_new w3 (.cells #[.int .i64 5, .int .u64 3, .slice A3 n n, .int .i64 (Z : Int)] 29)
  have s4 : StrAt w d S3 _ _ A3 n L Z w3.heap.size _ := ⟨hd3.below hbox, hse3.below hbox, b3.trans (hbox.mono b3.size), hS3w, g8, fun hm => by have := hd3.lt _ hm; omega⟩
  unfold segV
  rw [c5, c3]
  go_upto_region 5 with fail
  generalize w3.alloc (.cells #[.int .i64 5, .int .u64 3, .slice A3 n n, .int .i64 (Z : Int)] 29) = w4 at s4 ⊢
  generalize w3.heap.size = b8 at s4 ⊢
  clear hd3 hse3 hbox b3 hb3 hs3 hd2 hb2 b2 hb1 g8 hS3w hS2w hS2
  have HZ := Lib.hid hZ
  have HSQ := Lib.hid hsq
  have HLL := Lib.hid hLl
  have HWS := Lib.hid hws
  have HLN := Lib.hid hln
  clear hZ hLl hws hln
  go_wp2_with fail
  refine (hname w4 (ST.below s4.bel)).mono ?_
  rintro e w5 ⟨rfl, hb5⟩
  have s5 := s4.below hb5
  clear hb5 s4
  have hnx := fun W => next_any 5 3 A3 n n Z W (by omega)
  unfold segV at hnx
  rw [c3, ← hsq] at hnx
  have hsq60 : sq ≤ 13 := by omega
  have hsq1 : 3 ≤ sq := by omega
  clear hsq
  obtain ⟨q0, q1, q2, q3⟩ := b4cells s5.box
  go_wp2_with fail
  refine (hnx w5).mono ?_
  rintro e w6 ⟨rfl, hb6⟩
  have s6 := s5.below hb6
  clear hb6 s5 q0 q1 q2 q3
  have hev50 := fun W => zEvent 5 sq 50 W
  have hev60 := fun W => zEvent 5 sq 60 W
  rw [show ((50 : Nat) : Int) = 50 from rfl] at hev50
  rw [show ((60 : Nat) : Int) = 60 from rfl] at hev60
  go_wp2_with fail
  refine (hev50 w6).mono ?_
  rintro e w7 ⟨Ae, ce, rfl, hb7⟩
  have s7 := s6.below hb7
  clear hb7 s6 hev50
  unfold zVal
  rw [show ((50 : Nat) : Int) = 50 from rfl]
  have hbb := (Below.refl w7.heap.size w7).alloc (Nat.le_refl _) (.cells #[.int .i64 5, .int .u64 (sq : Int), .int .u64 50, .int .u8 1, .string ⟨#[97]⟩, .slice Ae 0 ce, .float .f64 0, .int .i64 0] 46)
  have g11 := heap_alloc_new w7 (.cells #[.int .i64 5, .int .u64 (sq : Int), .int .u64 50, .int .u8 1, .string ⟨#[97]⟩, .slice Ae 0 ce, .float .f64 0, .int .i64 0] 46)
  go_upto_region 9 with fail
  generalize w7.alloc (.cells #[.int .i64 5, .int .u64 (sq : Int), .int .u64 50, .int .u8 1, .string ⟨#[97]⟩, .slice Ae 0 ce, .float .f64 0, .int .i64 0] 46) = w8 at g11 hbb ⊢
  have l7 : ∀ W, Below w7.heap.size w7 W → StrAt w d S3 _ _ A3 n L Z b8 W := fun W h => s7.below h
  generalize w7.heap.size = b11 at g11 hbb l7 ⊢
  have l11 : b11 < w8.heap.size := (Array.getElem?_eq_some_iff.1 g11).1
  obtain ⟨e0, e1, e2, e3, e4, e5, e6, e7⟩ := b8cells' g11
  obtain ⟨sq1, hsq1'⟩ : ∃ sq1, sq1 = sq + 1 := ⟨_, rfl⟩
  have hwr1 : IntKind.u64.wrap ((sq : Int) + 1) = (sq1 : Int) := by rw [IntKind.wrap_u64]; omega
  have hs1a : 2 ≤ sq1 := by omega
  have hs1b : sq1 ≤ 14 := by omega
  have hs1c : sq1 ≠ sq := by omega
  have HS1 := Lib.hid hsq1'
  clear hsq1'
  have fr := frozen_row0 (i := 1) g11
  have g11' := heapSame (i := 1) (v := .int .u64 (sq1 : Int)) g11
  have s9 : StrAt w d S3 _ _ A3 n L Z b8 (w8.setCell ⟨b11, 1, none⟩ (.int .u64 (sq1 : Int))) := l7 _ (hbb.setCell (Nat.le_refl _) _)
  go_upto_region 18 with fail
  generalize w8.setCell ⟨b11, 1, none⟩ (.int .u64 (sq1 : Int)) = w9 at g11' s9 ⊢
  clear l7 hbb s7 e0 e1 e2 e3 e4 e5 e6 e7 fr g11
  have g11 : w9.heap[b11]? = some (.cells #[.int .i64 5, .int .u64 (sq1 : Int), .int .u64 50, .int .u8 1, .string ⟨#[97]⟩, .slice Ae 0 ce, .float .f64 0, .int .i64 0] 46 (0, 0)) := g11'
  have hlt3 : ∃ x : Nat, x = 1 ∧ x < 3 := ⟨_, rfl, by omega⟩
  obtain ⟨e0, e1, e2, e3, e4, e5, e6, e7⟩ := b8cells' g11
  have henc := fun W => zEnc 5 sq1 50 Ae ce W (by omega) (by omega) (by omega) (by omega) (by omega)
  have hb1l := zEv_short (x := 5) (seq := sq1) (time := 50) (by omega) (by omega) (by omega) (by omega) (by omega)
  have hoff : ∀ M, prefE ((5 : Nat) : Int) sq (evL (zEv 5 sq1 50) :: M) = [] := fun M => off_other (zEv_right (x := 5) (by omega) (by omega) (by omega) (by omega) (by omega)) (by simp [zEv]) zEv_plain (by simp [zEv]; omega) M
  unfold zVal at henc
  rw [show ((50 : Nat) : Int) = 50 from rfl, show ((5 : Nat) : Int) = 5 from rfl] at henc
  rw [show ((5 : Nat) : Int) = 5 from rfl] at hb1l
  go_wp2_with fail
  refine (henc w9).mono ?_
  rintro e w10 ⟨A10, c10, rfl, hown10, hb10⟩
  have s10 := s9.below hb10
  have hs10 := Sees.of_own hown10
  have hn10 : (evL (zEv 5 sq1 50)).length ≤ c10 := (Own.cap hown10).1
  clear henc s9 e0 e1 e2 e3 e4 e5 e6 e7 g11 hb10 hown10
  obtain ⟨B1, hB1⟩ : ∃ B1, B1 = evL (zEv 5 sq1 50) := ⟨_, rfl⟩
  rw [← hB1] at hoff hb1l hs10 hn10 ⊢
  clear hB1
  have hadd := fun W hT hd' hs' => addRow d S3 (nameL ((5 : Nat) : Int) 3) (headL 115 5 3) (L.map evL) N3 (2 + n) A10 B1.length c10 B1 W hT hd' (name_ok (by omega)) (by omega) (by omega) hn10 hs' (by have := HWS.out; have := wrap_length B1; have := enc_two (n := B1.length) (by omega); omega)
  go_wp2_with fail
  refine (hadd w10 (T.below s10.bel) s10.disk hs10).mono ?_
  rintro e w11 ⟨rfl, S11, hd11, hb11, hss11⟩
  have s11 := s10.next hd11 hb11 hss11
  clear hadd s10 hs10 hd11 hb11 hss11 hn10
  obtain ⟨q0, q1, q2, q3⟩ := b4cells s11.box
  go_wp2_with fail
  refine (hnx w11).mono ?_
  rintro e w12 ⟨rfl, hb12⟩
  have s12 := s11.below hb12
  clear hb12 s11 q0 q1 q2 q3 hnx
  go_wp2_with fail
  refine (hev60 w12).mono ?_
  rintro e w13 ⟨Af, cf, rfl, hb13⟩
  have s13 := s12.below hb13
  clear hb13 s12 hev60
  have henc2 := fun W => zEnc 5 sq 60 Af cf W (by omega) (by omega) (by omega) (by omega) (by omega)
  have hb2l := zEv_short (x := 5) (seq := sq) (time := 60) (by omega) (by omega) (by omega) (by omega) (by omega)
  rw [c5] at henc2 hb2l
  go_wp2_with fail
  refine (henc2 w13).mono ?_
  rintro e w14 ⟨A14, c14, rfl, hown14, hb14⟩
  have s14 := s13.below hb14
  have hs14 := Sees.of_own hown14
  have hn14 : (evL (zEv 5 sq 60)).length ≤ c14 := (Own.cap hown14).1
  clear henc2 s13 hb14 hown14
  obtain ⟨B2, hB2⟩ : ∃ B2, B2 = evL (zEv 5 sq 60) := ⟨_, rfl⟩
  rw [← hB2] at hb2l hs14 hn14 ⊢
  clear hB2
  have hadd := fun W hT hd' hs' => addRow d S11 (nameL ((5 : Nat) : Int) 3) (headL 115 5 3) (L.map evL ++ [B1]) N3 (2 + n + 1) A14 B2.length c14 B2 W hT hd' (name_ok (by omega)) (by omega) (by omega) hn14 hs' (by have := HWS.out; rw [wraps_one, List.length_append]; have := wrap_length B1; have := enc_two (n := B1.length) (by omega); have := wrap_length B2; have := enc_two (n := B2.length) (by omega); omega)
  go_wp2_with fail
  refine (hadd w14 (T.below s14.bel) s14.disk hs14).mono ?_
  rintro e w15 ⟨rfl, S15, hd15, hb15, hss15⟩
  rw [List.append_assoc] at hd15
  have s15 := s14.next hd15 hb15 hss15
  clear hadd s14 hs14 hd15 hb15 hss15 hn14
  have hop := openOff d S15 5 3 N3 (2 + n + 1 + 1) L B1 B2 w15 (s15.tabs T ST) s15.disk (by omega) (by omega) hruns (by have := HLL.out; omega) (by omega) (by omega) (by omega) (by have := HLL.out; have := HSQ.out; rw [show 3 + L.length = sq by omega]; exact hoff _)
  rw [HLL.out, HZ.out] at hop
  clear hoff hb1l hb2l
  go_wp2_with fail
  refine hop.mono ?_
  rintro e w16 ⟨A16, S16, rfl, hd16, hb16, hss16, hse16⟩
  have s16 := s15.next hd16 hb16 hss16
  clear hop s15 hd16 hb16 hss16
  have hbx := (Below.refl w16.heap.size w16).alloc (Nat.le_refl _) (.cells #[.int .i64 5, .int .u64 3, .slice A16 n n, .int .i64 (Z : Int)] 29)
  have g12 := heap_alloc_new w16 (.cells #[.int .i64 5, .int .u64 3, .slice A16 n n, .int .i64 (Z : Int)] 29)
  have s17 := s16.below hbx
  have hse17 := hse16.below hbx
  unfold segV
  rw [c5, c3]
  go_upto_region 22 with fail
  generalize w16.alloc (.cells #[.int .i64 5, .int .u64 3, .slice A16 n n, .int .i64 (Z : Int)] 29) = w17 at g12 s17 hse17 ⊢
  generalize w16.heap.size = b12 at g12 ⊢
  clear hbx s16 hse16
  have hread := fun W hd' => readC d S16 [⟨nameL ((5 : Nat) : Int) 3, headL 115 5 3 ++ wraps (L.map evL), Z⟩] ⟨65536, 2 + n + 1 + 1 + 1, -1, 0, false⟩ (nameL ((5 : Nat) : Int) 3) W hd' (by omega) (by simp only [sumA, List.length_append]; have := HZ.out; omega)
  have hrb := read_bytes (h := ⟨65536, 2 + n + 1 + 1 + 1, -1, 0, false⟩) (s := nameL ((5 : Nat) : Int) 3) (files := [⟨nameL ((5 : Nat) : Int) 3, headL 115 5 3 ++ wraps (L.map evL), Z⟩]) (f := ⟨nameL ((5 : Nat) : Int) 3, headL 115 5 3 ++ wraps (L.map evL), Z⟩) rfl (by simp [lookA])
  rw [hrb.1, hrb.2] at hread
  unfold Tells at hread
  simp only [show (headL 115 5 3 ++ wraps (L.map evL)).length = Z by rw [List.length_append]; exact HZ.out] at hread
  rw [c5] at hread
  clear hrb
  go_wp2_with fail
  refine (hread w17 s17.disk).mono ?_
  rintro e w18 ⟨A18, c18, rfl, hown18, hb18⟩
  have s18 := s17.below hb18
  have hse18 := hse17.below hb18
  have g12' := (hb18.block _ (Array.getElem?_eq_some_iff.1 g12).1).trans g12
  clear hread s17 hse17 g12 hb18 hown18
  obtain ⟨q0, q1, q2, q3⟩ := b4cells s18.box
  obtain ⟨r0, r1, r2, r3⟩ := b4cells g12'
  have hsame := fun W (hW : Below w18.heap.size w18 W) => sameAll_any S16 S16 A16 A3 n n n L W (hse18.below hW) (s18.sees.below hW) (runs_mem hruns) (by omega)
  go_wp2_with fail
  refine (hsame _ (Below.refl _ _)).mono ?_
  rintro e w19 ⟨rfl, hb19⟩
  have s19 := s18.below hb19
  clear hsame s18 hse18 g12' hb19 q0 q1 q2 q3 r0 r1 r2 r3
  obtain ⟨q0, q1, q2, q3⟩ := b4cells s19.box
  go_wp2_with fail
  refine (hname4 w19 (ST.below s19.bel)).mono ?_
  rintro e w20 ⟨rfl, hb20⟩
  have s20 := s19.below hb20
  clear hb20 s19 q0 q1 q2 q3
  have hlen3 : (headL 115 5 3 ++ wraps (L.map evL)).length = Z := by rw [List.length_append]; exact HZ.out
  have hmv := moveC d S16 [⟨nameL ((5 : Nat) : Int) 3, headL 115 5 3 ++ wraps (L.map evL), Z⟩] ⟨65536, 2 + n + 1 + 1 + 1, -1, 0, false⟩ (nameL ((5 : Nat) : Int) 3) (nameL ((5 : Nat) : Int) 4) w20 s20.disk (hd_ok (by omega)) (by omega) (name_ok (by omega)) (by simp only [sumA, hlen3]; omega) (by simp)
  rw [move_one _ _ _ _ _ names_ne.1, act_un (by decide), c5] at hmv
  go_wp2_with fail
  refine hmv.mono ?_
  rintro e w21 ⟨rfl, S21, hd21, hb21, hss21⟩
  have s21 := s20.next hd21 hb21 hss21
  clear hmv s20 hd21 hb21 hss21
  go_wp2_with fail
  refine (hname4 w21 (ST.below s21.bel)).mono ?_
  rintro e w22 ⟨rfl, hb22⟩
  have s22 := s21.below hb22
  clear hb22 s21 hname4
  have hop4 := openS_other d S21 [⟨nameL ((5 : Nat) : Int) 4, headL 115 5 3 ++ wraps (L.map evL), Z⟩] ⟨65536, 2 + n + 1 + 1 + 1 + 1, -1, 0, false⟩ 5 3 4 ⟨nameL ((5 : Nat) : Int) 4, headL 115 5 3 ++ wraps (L.map evL), Z⟩ (wraps (L.map evL)) w22 (s22.tabs T ST) s22.disk (by omega) (by omega) (by omega) (by omega) (by simp only [sumA, hlen3]; omega) rfl (by simp [lookA]) rfl
  rw [c5] at hop4
  unfold Refused zeroSeg at hop4
  go_wp2_with fail
  refine hop4.mono ?_
  rintro e w23 ⟨rfl, hb23⟩
  have s23 := s22.below hb23
  clear hb23 s22 hop4
  have hbx := (Below.refl w23.heap.size w23).alloc (Nat.le_refl _) (.cells #[.int .i64 0, .int .u64 0, .slice none 0 0, .int .i64 0] 29)
  have s24 := s23.below hbx
  go_upto_region 27 with fail
  generalize w23.alloc (.cells #[.int .i64 0, .int .u64 0, .slice none 0 0, .int .i64 0] 29) = w24 at s24 ⊢
  clear hbx s23
  have hap := appendC d S21 [⟨nameL ((5 : Nat) : Int) 4, headL 115 5 3 ++ wraps (L.map evL), Z⟩] ⟨65536, 2 + n + 1 + 1 + 1 + 1, -1, 0, false⟩ feedX B m k q w24 s24.disk (hd_ok (by omega)) (by show 2 + n + 1 + 1 + 1 + 1 < _; omega) feedX_ok (by simp only [sumA, hlen3]; omega) (by simp) (by omega) hmk hkk (hq.below s24.bel) (Out.of_lt hq (Nat.le_refl _) s24.sub)
  rw [app_two _ _ _ _ _ _ (feedX_ne (by omega)) (by rw [hlen3]; have := hq.1; omega), act_un (by decide), c5] at hap
  unfold feedX at hap
  go_wp2_with fail
  refine hap.mono ?_
  rintro e w25 ⟨rfl, S25, hd25, hb25, hss25⟩
  have s25 := s24.next hd25 hb25 hss25
  clear hap s24 hd25 hb25 hss25
  have hoa := openS_arg d feedX (by simp [feedX]) w25 (ST.below s25.bel)
  unfold Refused zeroSeg feedX at hoa
  go_wp2_with fail
  refine hoa.mono ?_
  rintro e w26 ⟨rfl, hb26⟩
  have s26 := s25.below hb26
  clear hb26 s25 hoa
  have hbx := (Below.refl w26.heap.size w26).alloc (Nat.le_refl _) (.cells #[.int .i64 0, .int .u64 0, .slice none 0 0, .int .i64 0] 29)
  have s27 := s26.below hbx
  go_upto_region 29 with fail
  generalize w26.alloc (.cells #[.int .i64 0, .int .u64 0, .slice none 0 0, .int .i64 0] 29) = w27 at s27 ⊢
  clear hbx s26
  go_wp2_with fail
  refine (hname9 w27 (ST.below s27.bel)).mono ?_
  rintro e w28 ⟨rfl, hb28⟩
  have s28 := s27.below hb28
  clear hb28 s27 hname9
  have hlk : lookA (nameL ((9 : Nat) : Int) 9) [⟨nameL 5 4, headL 115 5 3 ++ wraps (L.map evL), Z⟩, ⟨[102, 101, 101, 100, 45, 120], q, 0⟩] = none := by
    have h1 := names_ne.2
    have h2 := feedX_ne (n := 9) (u := 9) (by omega)
    rw [c5, c9] at h1
    rw [c9] at h2 ⊢
    unfold feedX at h2
    simp only [lookA, List.find?_cons, List.find?_nil, decide_eq_false h1, decide_eq_false (Ne.symm h2)]
  have hon := openS_none d S25 _ _ 9 9 w28 (s28.tabs T ST) s28.disk (by omega) (by omega) (by simp only [sumA, hlen3]; have := hq.1; omega) rfl hlk
  rw [c9] at hon
  unfold Refused zeroSeg at hon
  go_wp2_with fail
  refine hon.mono ?_
  rintro e w29 ⟨rfl, hb29⟩
  have s29 := s28.below hb29
  clear hb29 s28 hon
  have hbx := (Below.refl w29.heap.size w29).alloc (Nat.le_refl _) (.cells #[.int .i64 0, .int .u64 0, .slice none 0 0, .int .i64 0] 29)
  have b30 := s29.bel.trans (hbx.mono s29.bel.size)
  go_upto_region 30 with fail
  generalize w29.alloc (.cells #[.int .i64 0, .int .u64 0, .slice none 0 0, .int .i64 0] 29) = w30 at b30 ⊢
  go_wp2
  go_ret
  exact ⟨rfl, b30⟩
set_option maxRecDepth 100000 in
set_option maxHeartbeats 4000000 in
theorem strange_2 (hw : Nat) (A : Option Addr) (n c : Nat) (l : List (Nat × Nat)) (B : Option Addr) (m k : Nat) (q : List UInt8) (w : World) (T : Chk.Tabs w) (ST : STabs w) (hP : SeesP w A n l) (hq : Sees w B m q) (hn : n ≤ 10) (hm : m ≤ 100) (hmk : m ≤ k) (hkk : k ≤ 9223372036854775807) (hhw : hw < 256) (hK : hw % 4 = 2) :
    Calls Tryz.prog 5 #[.slice A n c, .int .u8 (hw : Int), .slice B m k] w fun e w' => e = .returned (.bool true) ∧ Below w.heap.size w w' := by
  have h10 : ¬ 10 < n := by omega
  have h100 : ¬ 100 < m := by omega
  have hln := hP.1
  have hsf := store_float Tryz.prog
  have c5 : ((5 : Nat) : Int) = 5 := rfl
  have c3 : ((3 : Nat) : Int) = 3 := rfl
  have hK1 : (hw : Int) % 4 = 2 := by omega
  have hhl := headL_len (k := 115) (a := 5) (b := 3) (by omega) (by omega)
  have htl := (titleL_len (k := 115) (a := 5) (b := 3) (by omega) (by omega)).2
  have hH50 : (headL 115 5 3).length ≤ 50 := by omega
  clear hhl htl
  have HK := Lib.hid hK
  clear hK
  go_enter Tryz.func5, Tryz.ntmps5
  go_wp2_with fail
  refine (awake_any w ST).mono ?_
  rintro e w1 ⟨rfl, hb1⟩
  go_wp2_with fail
  refine (newC 65536 w1).mono ?_
  rintro e w2 ⟨d, S2, rfl, hd2, hS2, hb2⟩
  have b2 := hb1.trans (hb2.mono hb1.size)
  have hS2w : ∀ k ∈ S2, w.heap.size ≤ k := fun k hk => Nat.le_trans hb1.size (hS2 k hk)
  have TT2 : TabsOn S2 w2 := TabsOn.of T ST b2 hS2w
  have hfill := fill_any d S2 5 3 A n c l w2 TT2 hd2 (fun W hW => hP.below (Below.beside b2 hW b2.size hS2w)) (by omega) (by omega) (by omega) (by omega)
  rw [c5, c3] at hfill
  clear TT2
  go_wp2_with fail
  refine hfill.mono ?_
  rintro e w3 ⟨A3, S3, N3, rfl, hd3, hb3, hs3, hse3⟩
  clear hfill
  have b3 := Below.beside b2 hb3 b2.size hS2w
  have hS3w : ∀ k ∈ S3, w.heap.size ≤ k := fun k hk => by
    rcases hs3 k hk with h | h
    · exact hS2w k h
    · exact Nat.le_trans b2.size h
  have hruns := evsF_runs (x := 5) (u := 3) (by omega) (by omega) l 0 (by omega) (by omega)
  rw [Nat.add_zero] at hruns
  have hLl := evsF_len ((5 : Nat) : Int) 3 l 0
  obtain ⟨L, hL⟩ : ∃ L, L = evsF ((5 : Nat) : Int) 3 0 l := ⟨_, rfl⟩
  rw [← hL] at hd3 hse3 hruns hLl ⊢
  clear hL
  rw [hln] at hse3 hd3 hLl ⊢
  have hws := runs_wraps hruns
  rw [hLl] at hws
  have hname := fun W hT => name_any 5 3 (by omega) (by omega) (by omega) W hT
  have hname4 := fun W hT => name_any 5 4 (by omega) (by omega) (by omega) W hT
  have hname9 := fun W hT => name_any 9 9 (by omega) (by omega) (by omega) W hT
  have c4 : ((4 : Nat) : Int) = 4 := rfl
  have c9 : ((9 : Nat) : Int) = 9 := rfl
  rw [c3] at hname
  rw [c4] at hname4
  rw [c9] at hname9
  have hnl := name_len (n := 5) (u := 3) (by omega)
  have hnl4 := name_len (n := 5) (u := 4) (by omega)
  obtain ⟨sq, hsq⟩ : ∃ sq, sq = 3 + n := ⟨_, rfl⟩
  generalize hZ : (headL 115 5 3).length + (wraps (L.map evL)).length = Z at ⊢
  have hZb : Z ≤ 2000 := by omega
  have hbox := (Below.refl w3.heap.size w3).alloc (Nat.le_refl _) (.cells #[.int .i64 5, .int .u64 3, .slice A3 n n, .int .i64 (Z : Int)] 29)
  have g8 := heap_alloc_new w3 (.cells #[.int .i64 5, .int .u64 3, .slice A3 n n, .int .i64 (Z : Int)] 29)
  have s4 : StrAt w d S3 _ _ A3 n L Z w3.heap.size _ := ⟨hd3.below hbox, hse3.below hbox, b3.trans (hbox.mono b3.size), hS3w, g8, fun hm => by have := hd3.lt _ hm; omega⟩
  unfold segV
  rw [c5, c3]
  go_upto_region 5 with fail
  generalize w3.alloc (.cells #[.int .i64 5, .int .u64 3, .slice A3 n n, .int .i64 (Z : Int)] 29) = w4 at s4 ⊢
  generalize w3.heap.size = b8 at s4 ⊢
  clear hd3 hse3 hbox b3 hb3 hs3 hd2 hb2 b2 hb1 g8 hS3w hS2w hS2
  have HZ := Lib.hid hZ
  have HSQ := Lib.hid hsq
  have HLL := Lib.hid hLl
  have HWS := Lib.hid hws
  have HLN := Lib.hid hln
  clear hZ hLl hws hln
  go_wp2_with fail
  refine (hname w4 (ST.below s4.bel)).mono ?_
  rintro e w5 ⟨rfl, hb5⟩
  have s5 := s4.below hb5
  clear hb5 s4
  have hnx := fun W => next_any 5 3 A3 n n Z W (by omega)
  unfold segV at hnx
  rw [c3, ← hsq] at hnx
  have hsq60 : sq ≤ 13 := by omega
  have hsq1 : 3 ≤ sq := by omega
  clear hsq
  obtain ⟨q0, q1, q2, q3⟩ := b4cells s5.box
  go_wp2_with fail
  refine (hnx w5).mono ?_
  rintro e w6 ⟨rfl, hb6⟩
  have s6 := s5.below hb6
  clear hb6 s5 q0 q1 q2 q3
  have hev50 := fun W => zEvent 5 sq 50 W
  have hev60 := fun W => zEvent 5 sq 60 W
  rw [show ((50 : Nat) : Int) = 50 from rfl] at hev50
  rw [show ((60 : Nat) : Int) = 60 from rfl] at hev60
  go_wp2_with fail
  refine (hev50 w6).mono ?_
  rintro e w7 ⟨Ae, ce, rfl, hb7⟩
  have s7 := s6.below hb7
  clear hb7 s6 hev50
  unfold zVal
  rw [show ((50 : Nat) : Int) = 50 from rfl]
  have hbb := (Below.refl w7.heap.size w7).alloc (Nat.le_refl _) (.cells #[.int .i64 5, .int .u64 (sq : Int), .int .u64 50, .int .u8 1, .string ⟨#[97]⟩, .slice Ae 0 ce, .float .f64 0, .int .i64 0] 46)
  have g11 := heap_alloc_new w7 (.cells #[.int .i64 5, .int .u64 (sq : Int), .int .u64 50, .int .u8 1, .string ⟨#[97]⟩, .slice Ae 0 ce, .float .f64 0, .int .i64 0] 46)
  go_upto_region 9 with fail
  generalize w7.alloc (.cells #[.int .i64 5, .int .u64 (sq : Int), .int .u64 50, .int .u8 1, .string ⟨#[97]⟩, .slice Ae 0 ce, .float .f64 0, .int .i64 0] 46) = w8 at g11 hbb ⊢
  have l7 : ∀ W, Below w7.heap.size w7 W → StrAt w d S3 _ _ A3 n L Z b8 W := fun W h => s7.below h
  generalize w7.heap.size = b11 at g11 hbb l7 ⊢
  have l11 : b11 < w8.heap.size := (Array.getElem?_eq_some_iff.1 g11).1
  obtain ⟨e0, e1, e2, e3, e4, e5, e6, e7⟩ := b8cells' g11
  obtain ⟨sq1, hsq1'⟩ : ∃ sq1, sq1 = sq - 1 := ⟨_, rfl⟩
  have hwr1 : IntKind.u64.wrap ((sq : Int) - 1) = (sq1 : Int) := by rw [IntKind.wrap_u64]; omega
  have hs1a : 2 ≤ sq1 := by omega
  have hs1b : sq1 ≤ 14 := by omega
  have hs1c : sq1 ≠ sq := by omega
  have HS1 := Lib.hid hsq1'
  clear hsq1'
  have fr := frozen_row0 (i := 1) g11
  have g11' := heapSame (i := 1) (v := .int .u64 (sq1 : Int)) g11
  have s9 : StrAt w d S3 _ _ A3 n L Z b8 (w8.setCell ⟨b11, 1, none⟩ (.int .u64 (sq1 : Int))) := l7 _ (hbb.setCell (Nat.le_refl _) _)
  go_upto_region 18 with fail
  generalize w8.setCell ⟨b11, 1, none⟩ (.int .u64 (sq1 : Int)) = w9 at g11' s9 ⊢
  clear l7 hbb s7 e0 e1 e2 e3 e4 e5 e6 e7 fr g11
  have g11 : w9.heap[b11]? = some (.cells #[.int .i64 5, .int .u64 (sq1 : Int), .int .u64 50, .int .u8 1, .string ⟨#[97]⟩, .slice Ae 0 ce, .float .f64 0, .int .i64 0] 46 (0, 0)) := g11'
  have hlt3 : ∃ x : Nat, x = 2 ∧ x < 3 := ⟨_, rfl, by omega⟩
  obtain ⟨e0, e1, e2, e3, e4, e5, e6, e7⟩ := b8cells' g11
  have henc := fun W => zEnc 5 sq1 50 Ae ce W (by omega) (by omega) (by omega) (by omega) (by omega)
  have hb1l := zEv_short (x := 5) (seq := sq1) (time := 50) (by omega) (by omega) (by omega) (by omega) (by omega)
  have hoff : ∀ M, prefE ((5 : Nat) : Int) sq (evL (zEv 5 sq1 50) :: M) = [] := fun M => off_other (zEv_right (x := 5) (by omega) (by omega) (by omega) (by omega) (by omega)) (by simp [zEv]) zEv_plain (by simp [zEv]; omega) M
  unfold zVal at henc
  rw [show ((50 : Nat) : Int) = 50 from rfl, show ((5 : Nat) : Int) = 5 from rfl] at henc
  rw [show ((5 : Nat) : Int) = 5 from rfl] at hb1l
  go_wp2_with fail
  refine (henc w9).mono ?_
  rintro e w10 ⟨A10, c10, rfl, hown10, hb10⟩
  have s10 := s9.below hb10
  have hs10 := Sees.of_own hown10
  have hn10 : (evL (zEv 5 sq1 50)).length ≤ c10 := (Own.cap hown10).1
  clear henc s9 e0 e1 e2 e3 e4 e5 e6 e7 g11 hb10 hown10
  obtain ⟨B1, hB1⟩ : ∃ B1, B1 = evL (zEv 5 sq1 50) := ⟨_, rfl⟩
  rw [← hB1] at hoff hb1l hs10 hn10 ⊢
  clear hB1
  have hadd := fun W hT hd' hs' => addRow d S3 (nameL ((5 : Nat) : Int) 3) (headL 115 5 3) (L.map evL) N3 (2 + n) A10 B1.length c10 B1 W hT hd' (name_ok (by omega)) (by omega) (by omega) hn10 hs' (by have := HWS.out; have := wrap_length B1; have := enc_two (n := B1.length) (by omega); omega)
  go_wp2_with fail
  refine (hadd w10 (T.below s10.bel) s10.disk hs10).mono ?_
  rintro e w11 ⟨rfl, S11, hd11, hb11, hss11⟩
  have s11 := s10.next hd11 hb11 hss11
  clear hadd s10 hs10 hd11 hb11 hss11 hn10
  obtain ⟨q0, q1, q2, q3⟩ := b4cells s11.box
  go_wp2_with fail
  refine (hnx w11).mono ?_
  rintro e w12 ⟨rfl, hb12⟩
  have s12 := s11.below hb12
  clear hb12 s11 q0 q1 q2 q3 hnx
  go_wp2_with fail
  refine (hev60 w12).mono ?_
  rintro e w13 ⟨Af, cf, rfl, hb13⟩
  have s13 := s12.below hb13
  clear hb13 s12 hev60
  have henc2 := fun W => zEnc 5 sq 60 Af cf W (by omega) (by omega) (by omega) (by omega) (by omega)
  have hb2l := zEv_short (x := 5) (seq := sq) (time := 60) (by omega) (by omega) (by omega) (by omega) (by omega)
  rw [c5] at henc2 hb2l
  go_wp2_with fail
  refine (henc2 w13).mono ?_
  rintro e w14 ⟨A14, c14, rfl, hown14, hb14⟩
  have s14 := s13.below hb14
  have hs14 := Sees.of_own hown14
  have hn14 : (evL (zEv 5 sq 60)).length ≤ c14 := (Own.cap hown14).1
  clear henc2 s13 hb14 hown14
  obtain ⟨B2, hB2⟩ : ∃ B2, B2 = evL (zEv 5 sq 60) := ⟨_, rfl⟩
  rw [← hB2] at hb2l hs14 hn14 ⊢
  clear hB2
  have hadd := fun W hT hd' hs' => addRow d S11 (nameL ((5 : Nat) : Int) 3) (headL 115 5 3) (L.map evL ++ [B1]) N3 (2 + n + 1) A14 B2.length c14 B2 W hT hd' (name_ok (by omega)) (by omega) (by omega) hn14 hs' (by have := HWS.out; rw [wraps_one, List.length_append]; have := wrap_length B1; have := enc_two (n := B1.length) (by omega); have := wrap_length B2; have := enc_two (n := B2.length) (by omega); omega)
  go_wp2_with fail
  refine (hadd w14 (T.below s14.bel) s14.disk hs14).mono ?_
  rintro e w15 ⟨rfl, S15, hd15, hb15, hss15⟩
  rw [List.append_assoc] at hd15
  have s15 := s14.next hd15 hb15 hss15
  clear hadd s14 hs14 hd15 hb15 hss15 hn14
  have hop := openOff d S15 5 3 N3 (2 + n + 1 + 1) L B1 B2 w15 (s15.tabs T ST) s15.disk (by omega) (by omega) hruns (by have := HLL.out; omega) (by omega) (by omega) (by omega) (by have := HLL.out; have := HSQ.out; rw [show 3 + L.length = sq by omega]; exact hoff _)
  rw [HLL.out, HZ.out] at hop
  clear hoff hb1l hb2l
  go_wp2_with fail
  refine hop.mono ?_
  rintro e w16 ⟨A16, S16, rfl, hd16, hb16, hss16, hse16⟩
  have s16 := s15.next hd16 hb16 hss16
  clear hop s15 hd16 hb16 hss16
  have hbx := (Below.refl w16.heap.size w16).alloc (Nat.le_refl _) (.cells #[.int .i64 5, .int .u64 3, .slice A16 n n, .int .i64 (Z : Int)] 29)
  have g12 := heap_alloc_new w16 (.cells #[.int .i64 5, .int .u64 3, .slice A16 n n, .int .i64 (Z : Int)] 29)
  have s17 := s16.below hbx
  have hse17 := hse16.below hbx
  unfold segV
  rw [c5, c3]
  go_upto_region 22 with fail
  generalize w16.alloc (.cells #[.int .i64 5, .int .u64 3, .slice A16 n n, .int .i64 (Z : Int)] 29) = w17 at g12 s17 hse17 ⊢
  generalize w16.heap.size = b12 at g12 ⊢
  clear hbx s16 hse16
  have hread := fun W hd' => readC d S16 [⟨nameL ((5 : Nat) : Int) 3, headL 115 5 3 ++ wraps (L.map evL), Z⟩] ⟨65536, 2 + n + 1 + 1 + 1, -1, 0, false⟩ (nameL ((5 : Nat) : Int) 3) W hd' (by omega) (by simp only [sumA, List.length_append]; have := HZ.out; omega)
  have hrb := read_bytes (h := ⟨65536, 2 + n + 1 + 1 + 1, -1, 0, false⟩) (s := nameL ((5 : Nat) : Int) 3) (files := [⟨nameL ((5 : Nat) : Int) 3, headL 115 5 3 ++ wraps (L.map evL), Z⟩]) (f := ⟨nameL ((5 : Nat) : Int) 3, headL 115 5 3 ++ wraps (L.map evL), Z⟩) rfl (by simp [lookA])
  rw [hrb.1, hrb.2] at hread
  unfold Tells at hread
  simp only [show (headL 115 5 3 ++ wraps (L.map evL)).length = Z by rw [List.length_append]; exact HZ.out] at hread
  rw [c5] at hread
  clear hrb
  go_wp2_with fail
  refine (hread w17 s17.disk).mono ?_
  rintro e w18 ⟨A18, c18, rfl, hown18, hb18⟩
  have s18 := s17.below hb18
  have hse18 := hse17.below hb18
  have g12' := (hb18.block _ (Array.getElem?_eq_some_iff.1 g12).1).trans g12
  clear hread s17 hse17 g12 hb18 hown18
  obtain ⟨q0, q1, q2, q3⟩ := b4cells s18.box
  obtain ⟨r0, r1, r2, r3⟩ := b4cells g12'
  have hsame := fun W (hW : Below w18.heap.size w18 W) => sameAll_any S16 S16 A16 A3 n n n L W (hse18.below hW) (s18.sees.below hW) (runs_mem hruns) (by omega)
  go_wp2_with fail
  refine (hsame _ (Below.refl _ _)).mono ?_
  rintro e w19 ⟨rfl, hb19⟩
  have s19 := s18.below hb19
  clear hsame s18 hse18 g12' hb19 q0 q1 q2 q3 r0 r1 r2 r3
  obtain ⟨q0, q1, q2, q3⟩ := b4cells s19.box
  go_wp2_with fail
  refine (hname4 w19 (ST.below s19.bel)).mono ?_
  rintro e w20 ⟨rfl, hb20⟩
  have s20 := s19.below hb20
  clear hb20 s19 q0 q1 q2 q3
  have hlen3 : (headL 115 5 3 ++ wraps (L.map evL)).length = Z := by rw [List.length_append]; exact HZ.out
  have hmv := moveC d S16 [⟨nameL ((5 : Nat) : Int) 3, headL 115 5 3 ++ wraps (L.map evL), Z⟩] ⟨65536, 2 + n + 1 + 1 + 1, -1, 0, false⟩ (nameL ((5 : Nat) : Int) 3) (nameL ((5 : Nat) : Int) 4) w20 s20.disk (hd_ok (by omega)) (by omega) (name_ok (by omega)) (by simp only [sumA, hlen3]; omega) (by simp)
  rw [move_one _ _ _ _ _ names_ne.1, act_un (by decide), c5] at hmv
  go_wp2_with fail
  refine hmv.mono ?_
  rintro e w21 ⟨rfl, S21, hd21, hb21, hss21⟩
  have s21 := s20.next hd21 hb21 hss21
  clear hmv s20 hd21 hb21 hss21
  go_wp2_with fail
  refine (hname4 w21 (ST.below s21.bel)).mono ?_
  rintro e w22 ⟨rfl, hb22⟩
  have s22 := s21.below hb22
  clear hb22 s21 hname4
  have hop4 := openS_other d S21 [⟨nameL ((5 : Nat) : Int) 4, headL 115 5 3 ++ wraps (L.map evL), Z⟩] ⟨65536, 2 + n + 1 + 1 + 1 + 1, -1, 0, false⟩ 5 3 4 ⟨nameL ((5 : Nat) : Int) 4, headL 115 5 3 ++ wraps (L.map evL), Z⟩ (wraps (L.map evL)) w22 (s22.tabs T ST) s22.disk (by omega) (by omega) (by omega) (by omega) (by simp only [sumA, hlen3]; omega) rfl (by simp [lookA]) rfl
  rw [c5] at hop4
  unfold Refused zeroSeg at hop4
  go_wp2_with fail
  refine hop4.mono ?_
  rintro e w23 ⟨rfl, hb23⟩
  have s23 := s22.below hb23
  clear hb23 s22 hop4
  have hbx := (Below.refl w23.heap.size w23).alloc (Nat.le_refl _) (.cells #[.int .i64 0, .int .u64 0, .slice none 0 0, .int .i64 0] 29)
  have s24 := s23.below hbx
  go_upto_region 27 with fail
  generalize w23.alloc (.cells #[.int .i64 0, .int .u64 0, .slice none 0 0, .int .i64 0] 29) = w24 at s24 ⊢
  clear hbx s23
  have hap := appendC d S21 [⟨nameL ((5 : Nat) : Int) 4, headL 115 5 3 ++ wraps (L.map evL), Z⟩] ⟨65536, 2 + n + 1 + 1 + 1 + 1, -1, 0, false⟩ feedX B m k q w24 s24.disk (hd_ok (by omega)) (by show 2 + n + 1 + 1 + 1 + 1 < _; omega) feedX_ok (by simp only [sumA, hlen3]; omega) (by simp) (by omega) hmk hkk (hq.below s24.bel) (Out.of_lt hq (Nat.le_refl _) s24.sub)
  rw [app_two _ _ _ _ _ _ (feedX_ne (by omega)) (by rw [hlen3]; have := hq.1; omega), act_un (by decide), c5] at hap
  unfold feedX at hap
  go_wp2_with fail
  refine hap.mono ?_
  rintro e w25 ⟨rfl, S25, hd25, hb25, hss25⟩
  have s25 := s24.next hd25 hb25 hss25
  clear hap s24 hd25 hb25 hss25
  have hoa := openS_arg d feedX (by simp [feedX]) w25 (ST.below s25.bel)
  unfold Refused zeroSeg feedX at hoa
  go_wp2_with fail
  refine hoa.mono ?_
  rintro e w26 ⟨rfl, hb26⟩
  have s26 := s25.below hb26
  clear hb26 s25 hoa
  have hbx := (Below.refl w26.heap.size w26).alloc (Nat.le_refl _) (.cells #[.int .i64 0, .int .u64 0, .slice none 0 0, .int .i64 0] 29)
  have s27 := s26.below hbx
  go_upto_region 29 with fail
  generalize w26.alloc (.cells #[.int .i64 0, .int .u64 0, .slice none 0 0, .int .i64 0] 29) = w27 at s27 ⊢
  clear hbx s26
  go_wp2_with fail
  refine (hname9 w27 (ST.below s27.bel)).mono ?_
  rintro e w28 ⟨rfl, hb28⟩
  have s28 := s27.below hb28
  clear hb28 s27 hname9
  have hlk : lookA (nameL ((9 : Nat) : Int) 9) [⟨nameL 5 4, headL 115 5 3 ++ wraps (L.map evL), Z⟩, ⟨[102, 101, 101, 100, 45, 120], q, 0⟩] = none := by
    have h1 := names_ne.2
    have h2 := feedX_ne (n := 9) (u := 9) (by omega)
    rw [c5, c9] at h1
    rw [c9] at h2 ⊢
    unfold feedX at h2
    simp only [lookA, List.find?_cons, List.find?_nil, decide_eq_false h1, decide_eq_false (Ne.symm h2)]
  have hon := openS_none d S25 _ _ 9 9 w28 (s28.tabs T ST) s28.disk (by omega) (by omega) (by simp only [sumA, hlen3]; have := hq.1; omega) rfl hlk
  rw [c9] at hon
  unfold Refused zeroSeg at hon
  go_wp2_with fail
  refine hon.mono ?_
  rintro e w29 ⟨rfl, hb29⟩
  have s29 := s28.below hb29
  clear hb29 s28 hon
  have hbx := (Below.refl w29.heap.size w29).alloc (Nat.le_refl _) (.cells #[.int .i64 0, .int .u64 0, .slice none 0 0, .int .i64 0] 29)
  have b30 := s29.bel.trans (hbx.mono s29.bel.size)
  go_upto_region 30 with fail
  generalize w29.alloc (.cells #[.int .i64 0, .int .u64 0, .slice none 0 0, .int .i64 0] 29) = w30 at b30 ⊢
  go_wp2
  go_ret
  exact ⟨rfl, b30⟩
set_option maxRecDepth 100000 in
set_option maxHeartbeats 4000000 in
theorem strange_3 (hw : Nat) (A : Option Addr) (n c : Nat) (l : List (Nat × Nat)) (B : Option Addr) (m k : Nat) (q : List UInt8) (w : World) (T : Chk.Tabs w) (ST : STabs w) (hP : SeesP w A n l) (hq : Sees w B m q) (hn : n ≤ 10) (hm : m ≤ 100) (hmk : m ≤ k) (hkk : k ≤ 9223372036854775807) (hhw : hw < 256) (hK : hw % 4 = 3) :
    Calls Tryz.prog 5 #[.slice A n c, .int .u8 (hw : Int), .slice B m k] w fun e w' => e = .returned (.bool true) ∧ Below w.heap.size w w' := by
  have h10 : ¬ 10 < n := by omega
  have h100 : ¬ 100 < m := by omega
  have hln := hP.1
  have hsf := store_float Tryz.prog
  have c5 : ((5 : Nat) : Int) = 5 := rfl
  have c3 : ((3 : Nat) : Int) = 3 := rfl
  have hK1 : (hw : Int) % 4 = 3 := by omega
  have hhl := headL_len (k := 115) (a := 5) (b := 3) (by omega) (by omega)
  have htl := (titleL_len (k := 115) (a := 5) (b := 3) (by omega) (by omega)).2
  have hH50 : (headL 115 5 3).length ≤ 50 := by omega
  clear hhl htl
  have HK := Lib.hid hK
  clear hK
  go_enter Tryz.func5, Tryz.ntmps5
  go_wp2_with fail
  refine (awake_any w ST).mono ?_
  rintro e w1 ⟨rfl, hb1⟩
  go_wp2_with fail
  refine (newC 65536 w1).mono ?_
  rintro e w2 ⟨d, S2, rfl, hd2, hS2, hb2⟩
  have b2 := hb1.trans (hb2.mono hb1.size)
  have hS2w : ∀ k ∈ S2, w.heap.size ≤ k := fun k hk => Nat.le_trans hb1.size (hS2 k hk)
  have TT2 : TabsOn S2 w2 := TabsOn.of T ST b2 hS2w
  have hfill := fill_any d S2 5 3 A n c l w2 TT2 hd2 (fun W hW => hP.below (Below.beside b2 hW b2.size hS2w)) (by omega) (by omega) (by omega) (by omega)
  rw [c5, c3] at hfill
  clear TT2
  go_wp2_with fail
  refine hfill.mono ?_
  rintro e w3 ⟨A3, S3, N3, rfl, hd3, hb3, hs3, hse3⟩
  clear hfill
  have b3 := Below.beside b2 hb3 b2.size hS2w
  have hS3w : ∀ k ∈ S3, w.heap.size ≤ k := fun k hk => by
    rcases hs3 k hk with h | h
    · exact hS2w k h
    · exact Nat.le_trans b2.size h
  have hruns := evsF_runs (x := 5) (u := 3) (by omega) (by omega) l 0 (by omega) (by omega)
  rw [Nat.add_zero] at hruns
  have hLl := evsF_len ((5 : Nat) : Int) 3 l 0
  obtain ⟨L, hL⟩ : ∃ L, L = evsF ((5 : Nat) : Int) 3 0 l := ⟨_, rfl⟩
  rw [← hL] at hd3 hse3 hruns hLl ⊢
  clear hL
  rw [hln] at hse3 hd3 hLl ⊢
  have hws := runs_wraps hruns
  rw [hLl] at hws
  have hname := fun W hT => name_any 5 3 (by omega) (by omega) (by omega) W hT
  have hname4 := fun W hT => name_any 5 4 (by omega) (by omega) (by omega) W hT
  have hname9 := fun W hT => name_any 9 9 (by omega) (by omega) (by omega) W hT
  have c4 : ((4 : Nat) : Int) = 4 := rfl
  have c9 : ((9 : Nat) : Int) = 9 := rfl
  rw [c3] at hname
  rw [c4] at hname4
  rw [c9] at hname9
  have hnl := name_len (n := 5) (u := 3) (by omega)
  have hnl4 := name_len (n := 5) (u := 4) (by omega)
  obtain ⟨sq, hsq⟩ : ∃ sq, sq = 3 + n := ⟨_, rfl⟩
  generalize hZ : (headL 115 5 3).length + (wraps (L.map evL)).length = Z at ⊢
  have hZb : Z ≤ 2000 := by omega
  have hbox := (Below.refl w3.heap.size w3).alloc (Nat.le_refl _) (.cells #[.int .i64 5, .int .u64 3, .slice A3 n n, .int .i64 (Z : Int)] 29)
  have g8 := heap_alloc_new w3 (.cells #[.int .i64 5, .int .u64 3, .slice A3 n n, .int .i64 (Z : Int)] 29)
  have s4 : StrAt w d S3 _ _ A3 n L Z w3.heap.size _ := ⟨hd3.below hbox, hse3.below hbox, b3.trans (hbox.mono b3.size), hS3w, g8, fun hm => by have := hd3.lt _ hm; omega⟩
  unfold segV
  rw [c5, c3]
  go_upto_region 5 with fail
  generalize w3.alloc (.cells #[.int .i64 5, .int .u64 3, .slice A3 n n, .int .i64 (Z : Int)] 29) = w4 at s4 ⊢
  generalize w3.heap.size = b8 at s4 ⊢
  clear hd3 hse3 hbox b3 hb3 hs3 hd2 hb2 b2 hb1 g8 hS3w hS2w hS2
  have HZ := Lib.hid hZ
  have HSQ := Lib.hid hsq
  have HLL := Lib.hid hLl
  have HWS := Lib.hid hws
  have HLN := Lib.hid hln
  clear hZ hLl hws hln
  go_wp2_with fail
  refine (hname w4 (ST.below s4.bel)).mono ?_
  rintro e w5 ⟨rfl, hb5⟩
  have s5 := s4.below hb5
  clear hb5 s4
  have hnx := fun W => next_any 5 3 A3 n n Z W (by omega)
  unfold segV at hnx
  rw [c3, ← hsq] at hnx
  have hsq60 : sq ≤ 13 := by omega
  have hsq1 : 3 ≤ sq := by omega
  clear hsq
  obtain ⟨q0, q1, q2, q3⟩ := b4cells s5.box
  go_wp2_with fail
  refine (hnx w5).mono ?_
  rintro e w6 ⟨rfl, hb6⟩
  have s6 := s5.below hb6
  clear hb6 s5 q0 q1 q2 q3
  have hev50 := fun W => zEvent 5 sq 50 W
  have hev60 := fun W => zEvent 5 sq 60 W
  rw [show ((50 : Nat) : Int) = 50 from rfl] at hev50
  rw [show ((60 : Nat) : Int) = 60 from rfl] at hev60
  go_wp2_with fail
  refine (hev50 w6).mono ?_
  rintro e w7 ⟨Ae, ce, rfl, hb7⟩
  have s7 := s6.below hb7
  clear hb7 s6 hev50
  unfold zVal
  rw [show ((50 : Nat) : Int) = 50 from rfl]
  have hbb := (Below.refl w7.heap.size w7).alloc (Nat.le_refl _) (.cells #[.int .i64 5, .int .u64 (sq : Int), .int .u64 50, .int .u8 1, .string ⟨#[97]⟩, .slice Ae 0 ce, .float .f64 0, .int .i64 0] 46)
  have g11 := heap_alloc_new w7 (.cells #[.int .i64 5, .int .u64 (sq : Int), .int .u64 50, .int .u8 1, .string ⟨#[97]⟩, .slice Ae 0 ce, .float .f64 0, .int .i64 0] 46)
  have s8 := s7.below hbb
  go_upto_region 9 with fail
  generalize w7.alloc (.cells #[.int .i64 5, .int .u64 (sq : Int), .int .u64 50, .int .u8 1, .string ⟨#[97]⟩, .slice Ae 0 ce, .float .f64 0, .int .i64 0] 46) = w8 at g11 s8 ⊢
  generalize w7.heap.size = b11 at g11 ⊢
  clear hbb s7
  have l11 : b11 < w8.heap.size := (Array.getElem?_eq_some_iff.1 g11).1
  obtain ⟨e0, e1, e2, e3, e4, e5, e6, e7⟩ := b8cells' g11
  have henc := fun W => zEnc 5 sq 50 Ae ce W (by omega) (by omega) (by omega) (by omega) (by omega)
  have hrig := fun W => zRight 5 sq 50 Ae ce W (by omega) (by omega) (by omega) (by omega) (by omega)
  have hb0l := zEv_short (x := 5) (seq := sq) (time := 50) (by omega) (by omega) (by omega) (by omega) (by omega)
  have hoff : ∀ M, prefE ((5 : Nat) : Int) sq ((evL (zEv 5 sq 50) ++ [0]) :: M) = [] := fun M => off_more (zEv_right (x := 5) (by omega) (by omega) (by omega) (by omega) (by omega)) (by simp [zEv]) 0 M
  unfold zVal at henc hrig
  rw [show ((50 : Nat) : Int) = 50 from rfl, c5] at henc hrig
  rw [c5] at hb0l
  go_wp2_with fail
  refine (hrig w8).mono ?_
  rintro e w9 ⟨rfl, hb9⟩
  have s9 := s8.below hb9
  have g11' := (hb9.block _ l11).trans g11
  clear hb9 s8 g11 e0 e1 e2 e3 e4 e5 e6 e7 hrig
  obtain ⟨e0, e1, e2, e3, e4, e5, e6, e7⟩ := b8cells' g11'
  go_wp2_with fail
  refine (henc w9).mono ?_
  rintro e w10 ⟨A9, k9, rfl, hown10, hb10⟩
  clear henc e0 e1 e2 e3 e4 e5 e6 e7 g11'
  obtain ⟨B0, hB0⟩ : ∃ B0, B0 = evL (zEv 5 sq 50) := ⟨_, rfl⟩
  rw [← hB0] at hoff hb0l hown10 ⊢
  clear hB0
  obtain ⟨i, hi, hz, hsz, hby⟩ := info_parts info8
  have hal : Below w10.heap.size w10 (w10.alloc (.cells #[.int .u8 0] 5)) := (Below.refl _ _).alloc (Nat.le_refl _) _
  have hownA := Own.below hown10 hal (Nat.le_refl _)
  have hse0 : Sees (w10.alloc (.cells #[.int .u8 0] 5)) (some ⟨w10.heap.size, 0, none⟩) 1 [0] := by
    refine sees_new w10 _ _ 1 _ (by simp) fun j u hu => ?_
    match j, hu with
    | 0, hu => simp at hu; subst hu; rfl
    | j + 1, hu => simp at hu
  have hbA : Below w9.heap.size w9 (w10.alloc (.cells #[.int .u8 0] 5)) := hb10.trans (hal.mono hb10.size)
  have hszA := hbA.size
  clear hown10 hal hb10
  go_wp2_with (first | (at_builtin; refine wpList_app rfl _ _ 33 rfl w9.heap.size 5 i (.int .u8 0) Tryz.underlying33 hi hz hsz hby rfl A9 B0.length k9 _ rfl hownA (some ⟨w10.heap.size, 0, none⟩) 1 1 _ rfl hse0 ?d1 ?d2 ?_))
  case d1 => omega
  case d2 => exact hszA
  clear hownA hse0 hszA
  intro A10 c10 v4 hown4 hb4
  have s10 := s9.below (hbA.trans hb4)
  clear hbA hb4 s9
  obtain ⟨B1, hB1⟩ : ∃ B1, B1 = B0 ++ [0] := ⟨_, rfl⟩
  have hBl : B0.length + 1 = B1.length := by rw [hB1]; simp
  rw [← hB1, hBl] at hown4
  rw [← hB1] at hoff
  rw [hBl]
  have hb1l : B1.length ≤ 160 := by omega
  have hs10 := Sees.of_own hown4
  have hn10 : B1.length ≤ c10 := (Own.cap hown4).1
  clear hB1 hBl hb0l hown4
  obtain ⟨w10, rfl⟩ : ∃ w10, w10 = v4 := ⟨_, rfl⟩
  have hadd := fun W hT hd' hs' => addRow d S3 (nameL ((5 : Nat) : Int) 3) (headL 115 5 3) (L.map evL) N3 (2 + n) A10 B1.length c10 B1 W hT hd' (name_ok (by omega)) (by omega) (by omega) hn10 hs' (by have := HWS.out; have := wrap_length B1; have := enc_two (n := B1.length) (by omega); omega)
  go_wp2_with fail
  refine (hadd w10 (T.below s10.bel) s10.disk hs10).mono ?_
  rintro e w11 ⟨rfl, S11, hd11, hb11, hss11⟩
  have s11 := s10.next hd11 hb11 hss11
  clear hadd s10 hs10 hd11 hb11 hss11 hn10
  obtain ⟨q0, q1, q2, q3⟩ := b4cells s11.box
  go_wp2_with fail
  refine (hnx w11).mono ?_
  rintro e w12 ⟨rfl, hb12⟩
  have s12 := s11.below hb12
  clear hb12 s11 q0 q1 q2 q3 hnx
  go_wp2_with fail
  refine (hev60 w12).mono ?_
  rintro e w13 ⟨Af, cf, rfl, hb13⟩
  have s13 := s12.below hb13
  clear hb13 s12 hev60
  have henc2 := fun W => zEnc 5 sq 60 Af cf W (by omega) (by omega) (by omega) (by omega) (by omega)
  have hb2l := zEv_short (x := 5) (seq := sq) (time := 60) (by omega) (by omega) (by omega) (by omega) (by omega)
  rw [c5] at henc2 hb2l
  go_wp2_with fail
  refine (henc2 w13).mono ?_
  rintro e w14 ⟨A14, c14, rfl, hown14, hb14⟩
  have s14 := s13.below hb14
  have hs14 := Sees.of_own hown14
  have hn14 : (evL (zEv 5 sq 60)).length ≤ c14 := (Own.cap hown14).1
  clear henc2 s13 hb14 hown14
  obtain ⟨B2, hB2⟩ : ∃ B2, B2 = evL (zEv 5 sq 60) := ⟨_, rfl⟩
  rw [← hB2] at hb2l hs14 hn14 ⊢
  clear hB2
  have hadd := fun W hT hd' hs' => addRow d S11 (nameL ((5 : Nat) : Int) 3) (headL 115 5 3) (L.map evL ++ [B1]) N3 (2 + n + 1) A14 B2.length c14 B2 W hT hd' (name_ok (by omega)) (by omega) (by omega) hn14 hs' (by have := HWS.out; rw [wraps_one, List.length_append]; have := wrap_length B1; have := enc_two (n := B1.length) (by omega); have := wrap_length B2; have := enc_two (n := B2.length) (by omega); omega)
  go_wp2_with fail
  refine (hadd w14 (T.below s14.bel) s14.disk hs14).mono ?_
  rintro e w15 ⟨rfl, S15, hd15, hb15, hss15⟩
  rw [List.append_assoc] at hd15
  have s15 := s14.next hd15 hb15 hss15
  clear hadd s14 hs14 hd15 hb15 hss15 hn14
  have hop := openOff d S15 5 3 N3 (2 + n + 1 + 1) L B1 B2 w15 (s15.tabs T ST) s15.disk (by omega) (by omega) hruns (by have := HLL.out; omega) (by omega) (by omega) (by omega) (by have := HLL.out; have := HSQ.out; rw [show 3 + L.length = sq by omega]; exact hoff _)
  rw [HLL.out, HZ.out] at hop
  clear hoff hb1l hb2l
  go_wp2_with fail
  refine hop.mono ?_
  rintro e w16 ⟨A16, S16, rfl, hd16, hb16, hss16, hse16⟩
  have s16 := s15.next hd16 hb16 hss16
  clear hop s15 hd16 hb16 hss16
  have hbx := (Below.refl w16.heap.size w16).alloc (Nat.le_refl _) (.cells #[.int .i64 5, .int .u64 3, .slice A16 n n, .int .i64 (Z : Int)] 29)
  have g12 := heap_alloc_new w16 (.cells #[.int .i64 5, .int .u64 3, .slice A16 n n, .int .i64 (Z : Int)] 29)
  have s17 := s16.below hbx
  have hse17 := hse16.below hbx
  unfold segV
  rw [c5, c3]
  go_upto_region 22 with fail
  generalize w16.alloc (.cells #[.int .i64 5, .int .u64 3, .slice A16 n n, .int .i64 (Z : Int)] 29) = w17 at g12 s17 hse17 ⊢
  generalize w16.heap.size = b12 at g12 ⊢
  clear hbx s16 hse16
  have hread := fun W hd' => readC d S16 [⟨nameL ((5 : Nat) : Int) 3, headL 115 5 3 ++ wraps (L.map evL), Z⟩] ⟨65536, 2 + n + 1 + 1 + 1, -1, 0, false⟩ (nameL ((5 : Nat) : Int) 3) W hd' (by omega) (by simp only [sumA, List.length_append]; have := HZ.out; omega)
  have hrb := read_bytes (h := ⟨65536, 2 + n + 1 + 1 + 1, -1, 0, false⟩) (s := nameL ((5 : Nat) : Int) 3) (files := [⟨nameL ((5 : Nat) : Int) 3, headL 115 5 3 ++ wraps (L.map evL), Z⟩]) (f := ⟨nameL ((5 : Nat) : Int) 3, headL 115 5 3 ++ wraps (L.map evL), Z⟩) rfl (by simp [lookA])
  rw [hrb.1, hrb.2] at hread
  unfold Tells at hread
  simp only [show (headL 115 5 3 ++ wraps (L.map evL)).length = Z by rw [List.length_append]; exact HZ.out] at hread
  rw [c5] at hread
  clear hrb
  go_wp2_with fail
  refine (hread w17 s17.disk).mono ?_
  rintro e w18 ⟨A18, c18, rfl, hown18, hb18⟩
  have s18 := s17.below hb18
  have hse18 := hse17.below hb18
  have g12' := (hb18.block _ (Array.getElem?_eq_some_iff.1 g12).1).trans g12
  clear hread s17 hse17 g12 hb18 hown18
  obtain ⟨q0, q1, q2, q3⟩ := b4cells s18.box
  obtain ⟨r0, r1, r2, r3⟩ := b4cells g12'
  have hsame := fun W (hW : Below w18.heap.size w18 W) => sameAll_any S16 S16 A16 A3 n n n L W (hse18.below hW) (s18.sees.below hW) (runs_mem hruns) (by omega)
  go_wp2_with fail
  refine (hsame _ (Below.refl _ _)).mono ?_
  rintro e w19 ⟨rfl, hb19⟩
  have s19 := s18.below hb19
  clear hsame s18 hse18 g12' hb19 q0 q1 q2 q3 r0 r1 r2 r3
  obtain ⟨q0, q1, q2, q3⟩ := b4cells s19.box
  go_wp2_with fail
  refine (hname4 w19 (ST.below s19.bel)).mono ?_
  rintro e w20 ⟨rfl, hb20⟩
  have s20 := s19.below hb20
  clear hb20 s19 q0 q1 q2 q3
  have hlen3 : (headL 115 5 3 ++ wraps (L.map evL)).length = Z := by rw [List.length_append]; exact HZ.out
  have hmv := moveC d S16 [⟨nameL ((5 : Nat) : Int) 3, headL 115 5 3 ++ wraps (L.map evL), Z⟩] ⟨65536, 2 + n + 1 + 1 + 1, -1, 0, false⟩ (nameL ((5 : Nat) : Int) 3) (nameL ((5 : Nat) : Int) 4) w20 s20.disk (hd_ok (by omega)) (by omega) (name_ok (by omega)) (by simp only [sumA, hlen3]; omega) (by simp)
  rw [move_one _ _ _ _ _ names_ne.1, act_un (by decide), c5] at hmv
  go_wp2_with fail
  refine hmv.mono ?_
  rintro e w21 ⟨rfl, S21, hd21, hb21, hss21⟩
  have s21 := s20.next hd21 hb21 hss21
  clear hmv s20 hd21 hb21 hss21
  go_wp2_with fail
  refine (hname4 w21 (ST.below s21.bel)).mono ?_
  rintro e w22 ⟨rfl, hb22⟩
  have s22 := s21.below hb22
  clear hb22 s21 hname4
  have hop4 := openS_other d S21 [⟨nameL ((5 : Nat) : Int) 4, headL 115 5 3 ++ wraps (L.map evL), Z⟩] ⟨65536, 2 + n + 1 + 1 + 1 + 1, -1, 0, false⟩ 5 3 4 ⟨nameL ((5 : Nat) : Int) 4, headL 115 5 3 ++ wraps (L.map evL), Z⟩ (wraps (L.map evL)) w22 (s22.tabs T ST) s22.disk (by omega) (by omega) (by omega) (by omega) (by simp only [sumA, hlen3]; omega) rfl (by simp [lookA]) rfl
  rw [c5] at hop4
  unfold Refused zeroSeg at hop4
  go_wp2_with fail
  refine hop4.mono ?_
  rintro e w23 ⟨rfl, hb23⟩
  have s23 := s22.below hb23
  clear hb23 s22 hop4
  have hbx := (Below.refl w23.heap.size w23).alloc (Nat.le_refl _) (.cells #[.int .i64 0, .int .u64 0, .slice none 0 0, .int .i64 0] 29)
  have s24 := s23.below hbx
  go_upto_region 27 with fail
  generalize w23.alloc (.cells #[.int .i64 0, .int .u64 0, .slice none 0 0, .int .i64 0] 29) = w24 at s24 ⊢
  clear hbx s23
  have hap := appendC d S21 [⟨nameL ((5 : Nat) : Int) 4, headL 115 5 3 ++ wraps (L.map evL), Z⟩] ⟨65536, 2 + n + 1 + 1 + 1 + 1, -1, 0, false⟩ feedX B m k q w24 s24.disk (hd_ok (by omega)) (by show 2 + n + 1 + 1 + 1 + 1 < _; omega) feedX_ok (by simp only [sumA, hlen3]; omega) (by simp) (by omega) hmk hkk (hq.below s24.bel) (Out.of_lt hq (Nat.le_refl _) s24.sub)
  rw [app_two _ _ _ _ _ _ (feedX_ne (by omega)) (by rw [hlen3]; have := hq.1; omega), act_un (by decide), c5] at hap
  unfold feedX at hap
  go_wp2_with fail
  refine hap.mono ?_
  rintro e w25 ⟨rfl, S25, hd25, hb25, hss25⟩
  have s25 := s24.next hd25 hb25 hss25
  clear hap s24 hd25 hb25 hss25
  have hoa := openS_arg d feedX (by simp [feedX]) w25 (ST.below s25.bel)
  unfold Refused zeroSeg feedX at hoa
  go_wp2_with fail
  refine hoa.mono ?_
  rintro e w26 ⟨rfl, hb26⟩
  have s26 := s25.below hb26
  clear hb26 s25 hoa
  have hbx := (Below.refl w26.heap.size w26).alloc (Nat.le_refl _) (.cells #[.int .i64 0, .int .u64 0, .slice none 0 0, .int .i64 0] 29)
  have s27 := s26.below hbx
  go_upto_region 29 with fail
  generalize w26.alloc (.cells #[.int .i64 0, .int .u64 0, .slice none 0 0, .int .i64 0] 29) = w27 at s27 ⊢
  clear hbx s26
  go_wp2_with fail
  refine (hname9 w27 (ST.below s27.bel)).mono ?_
  rintro e w28 ⟨rfl, hb28⟩
  have s28 := s27.below hb28
  clear hb28 s27 hname9
  have hlk : lookA (nameL ((9 : Nat) : Int) 9) [⟨nameL 5 4, headL 115 5 3 ++ wraps (L.map evL), Z⟩, ⟨[102, 101, 101, 100, 45, 120], q, 0⟩] = none := by
    have h1 := names_ne.2
    have h2 := feedX_ne (n := 9) (u := 9) (by omega)
    rw [c5, c9] at h1
    rw [c9] at h2 ⊢
    unfold feedX at h2
    simp only [lookA, List.find?_cons, List.find?_nil, decide_eq_false h1, decide_eq_false (Ne.symm h2)]
  have hon := openS_none d S25 _ _ 9 9 w28 (s28.tabs T ST) s28.disk (by omega) (by omega) (by simp only [sumA, hlen3]; have := hq.1; omega) rfl hlk
  rw [c9] at hon
  unfold Refused zeroSeg at hon
  go_wp2_with fail
  refine hon.mono ?_
  rintro e w29 ⟨rfl, hb29⟩
  have s29 := s28.below hb29
  clear hb29 s28 hon
  have hbx := (Below.refl w29.heap.size w29).alloc (Nat.le_refl _) (.cells #[.int .i64 0, .int .u64 0, .slice none 0 0, .int .i64 0] 29)
  have b30 := s29.bel.trans (hbx.mono s29.bel.size)
  go_upto_region 30 with fail
  generalize w29.alloc (.cells #[.int .i64 0, .int .u64 0, .slice none 0 0, .int .i64 0] 29) = w30 at b30 ⊢
  go_wp2
  go_ret
  exact ⟨rfl, b30⟩
theorem strange_law (hw : Nat) (A : Option Addr) (n c : Nat) (l : List (Nat × Nat)) (B : Option Addr) (m k : Nat) (q : List UInt8) (w : World) (T : Chk.Tabs w) (ST : STabs w) (hP : SeesP w A n l) (hq : Sees w B m q) (hmk : m ≤ k) (hkk : k ≤ 9223372036854775807) (hhw : hw < 256) :
    Calls Tryz.prog 5 #[.slice A n c, .int .u8 (hw : Int), .slice B m k] w fun e w' => e = .returned (.bool true) ∧ Below w.heap.size w w' := by
  by_cases h : 10 < n
  · exact strange_long hw A n c B m k w ST h
  by_cases h2 : 100 < m
  · exact strange_long2 hw A n c B m k w ST (by omega) h2
  have h4 : hw % 4 = 0 ∨ hw % 4 = 1 ∨ hw % 4 = 2 ∨ hw % 4 = 3 := by omega
  rcases h4 with h4 | h4 | h4 | h4
  · exact strange_0 hw A n c l B m k q w T ST hP hq (by omega) (by omega) hmk hkk hhw h4
  · exact strange_1 hw A n c l B m k q w T ST hP hq (by omega) (by omega) hmk hkk hhw h4
  · exact strange_2 hw A n c l B m k q w T ST hP hq (by omega) (by omega) hmk hkk hhw h4
  · exact strange_3 hw A n c l B m k q w T ST hP hq (by omega) (by omega) hmk hkk hhw h4
end Go.Proofs.YtfdnlgigllflfaaGreatDoor.Seg
