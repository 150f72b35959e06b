/- The law VectorOrders, walked out of what is asked of package vector. -/
import Derived.Test.YtpfmgjfkjjnadaaVecSaid
namespace Go.Proofs.Ytpfmgjfkjjnadaa.Vec
open Go Go.RowKit Go.Proofs.Ytpfmgjfkjjnadaa.Words
set_option linter.unusedVariables false
set_option linter.unusedSimpArgs false

set_option maxRecDepth 100000 in
set_option maxHeartbeats 4000000 in
theorem orders_law (hj : JoinSaid) (hm : MeetSaid) (hw : WithinSaid) (hs : SameSaid) (hap : ApartSaid) (hl : LackSaid) (A B C : Option Addr) (n c m d q r : Nat) (a b z : List Nat) (w : World)
    (ha : SeesU w A n a) (hb : SeesU w B m b) (hz : SeesU w C q z) (fa : Fits a) (fb : Fits b) (fz : Fits z) (hc : n ≤ c) (hd : m ≤ d) (hr : q ≤ r) (hc2 : c ≤ 9223372036854775807) (hd2 : d ≤ 9223372036854775807) (hr2 : r ≤ 9223372036854775807) :
    Calls Try.prog 4 #[.slice A n c, .slice B m d, .slice C q r] w fun e w' => e = .returned (.bool true) ∧ Below w.heap.size w w' := by
  by_cases h1 : 64 < n
  case pos =>
    go_enter Try.func4, Try.ntmps4
    go_wp2_with fail
    refine (awake_any hj hs hl _).mono ?_
    rintro e w1 ⟨rfl, bw1⟩
    go_wp2_with fail
    refine (awake_any hj hs hl _).mono ?_
    rintro e w2 ⟨rfl, b2⟩
    go_wp2
    go_ret
    exact ⟨rfl, bw1.trans (b2.mono bw1.size)⟩
  by_cases h2 : 64 < m
  case pos =>
    go_enter Try.func4, Try.ntmps4
    go_wp2_with fail
    refine (awake_any hj hs hl _).mono ?_
    rintro e w1 ⟨rfl, bw1⟩
    go_wp2_with fail
    refine (awake_any hj hs hl _).mono ?_
    rintro e w2 ⟨rfl, b2⟩
    go_wp2
    go_ret
    exact ⟨rfl, bw1.trans (b2.mono bw1.size)⟩
  by_cases h3 : 64 < q
  case pos =>
    go_enter Try.func4, Try.ntmps4
    go_wp2_with fail
    refine (awake_any hj hs hl _).mono ?_
    rintro e w1 ⟨rfl, bw1⟩
    go_wp2_with fail
    refine (awake_any hj hs hl _).mono ?_
    rintro e w2 ⟨rfl, b2⟩
    go_wp2
    go_ret
    exact ⟨rfl, bw1.trans (b2.mono bw1.size)⟩
  have htr : withinL a b = true → withinL b z = true → withinL a z = true := fun h1 h2 => within_iff.2 fun i => Nat.le_trans (within_iff.1 h1 i) (within_iff.1 h2 i)
  cases I1 : withinL a b with
  | false =>
    clear htr
    cases I2 : withinL b a with
    | false =>
      go_enter Try.func4, Try.ntmps4
      go_wp2_with fail
      refine (awake_any hj hs hl _).mono ?_
      rintro e w1 ⟨rfl, bw1⟩
      have SEE : Hid (∀ W, Below w1.heap.size w1 W → Took2 W A n c a ∧ Took2 W B m d b ∧ Took2 W C q r z) := Lib.hid fun W hW =>
        ⟨⟨(ha.below bw1).below hW, fa, hc, hc2, by omega⟩, ⟨(hb.below bw1).below hW, fb, hd, hd2, by omega⟩, ⟨(hz.below bw1).below hW, fz, hr, hr2, by omega⟩⟩
      have b0 := Below.refl w1.heap.size w1
      clear ha hb hz
      obtain ⟨ta, tb, tc⟩ := SEE.out w1 b0
      go_wp2_with fail
      refine (hw _ _ _ _ _ _ _ _ _ ta tb).mono ?_
      rw [I1]
      rintro e y1 ⟨rfl, hy1⟩
      have by1 := b0.trans (hy1.mono b0.size)
      clear ta tb tc hy1
      obtain ⟨ta, tb, tc⟩ := SEE.out y1 by1
      go_wp2_with fail
      refine (hw _ _ _ _ _ _ _ _ _ tb ta).mono ?_
      rw [I2]
      rintro e y2 ⟨rfl, hy2⟩
      have by2 := by1.trans (hy2.mono by1.size)
      clear ta tb tc hy2
      obtain ⟨ta, tb, tc⟩ := SEE.out y2 by2
      go_wp2_with fail
      refine (refWithin_any _ _ _ _ _ _ _ _ _ ta.1 tb.1 (by omega)).mono ?_
      rw [I1]
      rintro e y3 ⟨rfl, kk, hky3⟩
      have by3 : Below w1.heap.size w1 y3 := by rw [hky3]; exact ⟨by2.os, by2.tape, by2.output, by2.size, by2.block⟩
      clear ta tb tc hky3
      obtain ⟨ta, tb, tc⟩ := SEE.out y3 by3
      go_wp2_with fail
      refine (hs _ _ _ _ _ _ _ _ _ ta tb).mono ?_
      rw [I1, I2]
      rintro e y4 ⟨rfl, hy4⟩
      have by4 := by3.trans (hy4.mono by3.size)
      clear ta tb tc hy4
      obtain ⟨ta, tb, tc⟩ := SEE.out y4 by4
      go_wp2_with fail
      refine (hap _ _ _ _ _ _ _ _ _ ta tb).mono ?_
      rw [I1, I2]
      rintro e y5 ⟨rfl, hy5⟩
      have by5 := by4.trans (hy5.mono by4.size)
      clear ta tb tc hy5
      obtain ⟨ta, tb, tc⟩ := SEE.out y5 by5
      go_wp2_with fail
      refine (hj _ _ _ _ _ _ _ _ _ ta tb).mono ?_
      rintro e y6 ⟨R, k, rc, l, rfl, sl, hk1, hk2, hk3, htr, hat, hy6⟩
      have by6 := by5.trans (hy6.mono by5.size)
      clear ta tb tc hy6
      have tl : Took2 y6 R k rc l := ⟨sl, fits_max hat fa fb, hk1, hk2, by have : Nat.max n m ≤ 64 := Nat.max_le.2 ⟨by omega, by omega⟩; omega⟩
      have IJ : withinL a l = true := within_iff.2 fun i => by rw [hat]; exact Nat.le_max_left _ _
      clear sl hk1 hk2 hk3 htr hat
      obtain ⟨ta, tb, tc⟩ := SEE.out y6 by6
      go_wp2_with fail
      refine (hw _ _ _ _ _ _ _ _ _ ta tl).mono ?_
      rw [IJ]
      rintro e y7 ⟨rfl, hy7⟩
      have by7 := by6.trans (hy7.mono by6.size)
      clear ta tb tc hy7
      clear tl IJ
      obtain ⟨ta, tb, tc⟩ := SEE.out y7 by7
      go_wp2_with fail
      refine (hm _ _ _ _ _ _ _ _ _ ta tb).mono ?_
      rintro e y8 ⟨R2, k2, rc2, l2, rfl, sl, hk1, hk2, hk3, htr, hat, hy8⟩
      have by8 := by7.trans (hy8.mono by7.size)
      clear ta tb tc hy8
      have tl : Took2 y8 R2 k2 rc2 l2 := ⟨sl, fits_min hat fa, hk1, hk2, by have : Nat.max n m ≤ 64 := Nat.max_le.2 ⟨by omega, by omega⟩; omega⟩
      have IJ : withinL l2 b = true := within_iff.2 fun i => by rw [hat]; exact Nat.min_le_right _ _
      clear sl hk1 hk2 hk3 htr hat
      obtain ⟨ta, tb, tc⟩ := SEE.out y8 by8
      go_wp2_with fail
      refine (hw _ _ _ _ _ _ _ _ _ tl tb).mono ?_
      rw [IJ]
      rintro e y9 ⟨rfl, hy9⟩
      have by9 := by8.trans (hy9.mono by8.size)
      clear ta tb tc hy9
      clear tl IJ
      go_wp2
      go_ret
      exact ⟨rfl, bw1.trans (by9.mono bw1.size)⟩
    | true =>
      go_enter Try.func4, Try.ntmps4
      go_wp2_with fail
      refine (awake_any hj hs hl _).mono ?_
      rintro e w1 ⟨rfl, bw1⟩
      have SEE : Hid (∀ W, Below w1.heap.size w1 W → Took2 W A n c a ∧ Took2 W B m d b ∧ Took2 W C q r z) := Lib.hid fun W hW =>
        ⟨⟨(ha.below bw1).below hW, fa, hc, hc2, by omega⟩, ⟨(hb.below bw1).below hW, fb, hd, hd2, by omega⟩, ⟨(hz.below bw1).below hW, fz, hr, hr2, by omega⟩⟩
      have b0 := Below.refl w1.heap.size w1
      clear ha hb hz
      obtain ⟨ta, tb, tc⟩ := SEE.out w1 b0
      go_wp2_with fail
      refine (hw _ _ _ _ _ _ _ _ _ ta tb).mono ?_
      rw [I1]
      rintro e y10 ⟨rfl, hy10⟩
      have by10 := b0.trans (hy10.mono b0.size)
      clear ta tb tc hy10
      obtain ⟨ta, tb, tc⟩ := SEE.out y10 by10
      go_wp2_with fail
      refine (hw _ _ _ _ _ _ _ _ _ tb ta).mono ?_
      rw [I2]
      rintro e y11 ⟨rfl, hy11⟩
      have by11 := by10.trans (hy11.mono by10.size)
      clear ta tb tc hy11
      obtain ⟨ta, tb, tc⟩ := SEE.out y11 by11
      go_wp2_with fail
      refine (refWithin_any _ _ _ _ _ _ _ _ _ ta.1 tb.1 (by omega)).mono ?_
      rw [I1]
      rintro e y12 ⟨rfl, kk, hky12⟩
      have by12 : Below w1.heap.size w1 y12 := by rw [hky12]; exact ⟨by11.os, by11.tape, by11.output, by11.size, by11.block⟩
      clear ta tb tc hky12
      obtain ⟨ta, tb, tc⟩ := SEE.out y12 by12
      go_wp2_with fail
      refine (hs _ _ _ _ _ _ _ _ _ ta tb).mono ?_
      rw [I1, I2]
      rintro e y13 ⟨rfl, hy13⟩
      have by13 := by12.trans (hy13.mono by12.size)
      clear ta tb tc hy13
      obtain ⟨ta, tb, tc⟩ := SEE.out y13 by13
      go_wp2_with fail
      refine (hap _ _ _ _ _ _ _ _ _ ta tb).mono ?_
      rw [I1, I2]
      rintro e y14 ⟨rfl, hy14⟩
      have by14 := by13.trans (hy14.mono by13.size)
      clear ta tb tc hy14
      obtain ⟨ta, tb, tc⟩ := SEE.out y14 by14
      go_wp2_with fail
      refine (hj _ _ _ _ _ _ _ _ _ ta tb).mono ?_
      rintro e y15 ⟨R, k, rc, l, rfl, sl, hk1, hk2, hk3, htr, hat, hy15⟩
      have by15 := by14.trans (hy15.mono by14.size)
      clear ta tb tc hy15
      have tl : Took2 y15 R k rc l := ⟨sl, fits_max hat fa fb, hk1, hk2, by have : Nat.max n m ≤ 64 := Nat.max_le.2 ⟨by omega, by omega⟩; omega⟩
      have IJ : withinL a l = true := within_iff.2 fun i => by rw [hat]; exact Nat.le_max_left _ _
      clear sl hk1 hk2 hk3 htr hat
      obtain ⟨ta, tb, tc⟩ := SEE.out y15 by15
      go_wp2_with fail
      refine (hw _ _ _ _ _ _ _ _ _ ta tl).mono ?_
      rw [IJ]
      rintro e y16 ⟨rfl, hy16⟩
      have by16 := by15.trans (hy16.mono by15.size)
      clear ta tb tc hy16
      clear tl IJ
      obtain ⟨ta, tb, tc⟩ := SEE.out y16 by16
      go_wp2_with fail
      refine (hm _ _ _ _ _ _ _ _ _ ta tb).mono ?_
      rintro e y17 ⟨R2, k2, rc2, l2, rfl, sl, hk1, hk2, hk3, htr, hat, hy17⟩
      have by17 := by16.trans (hy17.mono by16.size)
      clear ta tb tc hy17
      have tl : Took2 y17 R2 k2 rc2 l2 := ⟨sl, fits_min hat fa, hk1, hk2, by have : Nat.max n m ≤ 64 := Nat.max_le.2 ⟨by omega, by omega⟩; omega⟩
      have IJ : withinL l2 b = true := within_iff.2 fun i => by rw [hat]; exact Nat.min_le_right _ _
      clear sl hk1 hk2 hk3 htr hat
      obtain ⟨ta, tb, tc⟩ := SEE.out y17 by17
      go_wp2_with fail
      refine (hw _ _ _ _ _ _ _ _ _ tl tb).mono ?_
      rw [IJ]
      rintro e y18 ⟨rfl, hy18⟩
      have by18 := by17.trans (hy18.mono by17.size)
      clear ta tb tc hy18
      clear tl IJ
      go_wp2
      go_ret
      exact ⟨rfl, bw1.trans (by18.mono bw1.size)⟩
  | true =>
    cases I3 : withinL b z with
    | false =>
     clear htr
     cases I2 : withinL b a with
     | false =>
      go_enter Try.func4, Try.ntmps4
      go_wp2_with fail
      refine (awake_any hj hs hl _).mono ?_
      rintro e w1 ⟨rfl, bw1⟩
      have SEE : Hid (∀ W, Below w1.heap.size w1 W → Took2 W A n c a ∧ Took2 W B m d b ∧ Took2 W C q r z) := Lib.hid fun W hW =>
        ⟨⟨(ha.below bw1).below hW, fa, hc, hc2, by omega⟩, ⟨(hb.below bw1).below hW, fb, hd, hd2, by omega⟩, ⟨(hz.below bw1).below hW, fz, hr, hr2, by omega⟩⟩
      have b0 := Below.refl w1.heap.size w1
      clear ha hb hz
      obtain ⟨ta, tb, tc⟩ := SEE.out w1 b0
      go_wp2_with fail
      refine (hw _ _ _ _ _ _ _ _ _ ta tb).mono ?_
      rw [I1]
      rintro e y19 ⟨rfl, hy19⟩
      have by19 := b0.trans (hy19.mono b0.size)
      clear ta tb tc hy19
      obtain ⟨ta, tb, tc⟩ := SEE.out y19 by19
      go_wp2_with fail
      refine (hw _ _ _ _ _ _ _ _ _ tb ta).mono ?_
      rw [I2]
      rintro e y20 ⟨rfl, hy20⟩
      have by20 := by19.trans (hy20.mono by19.size)
      clear ta tb tc hy20
      obtain ⟨ta, tb, tc⟩ := SEE.out y20 by20
      go_wp2_with fail
      refine (refWithin_any _ _ _ _ _ _ _ _ _ ta.1 tb.1 (by omega)).mono ?_
      rw [I1]
      rintro e y21 ⟨rfl, kk, hky21⟩
      have by21 : Below w1.heap.size w1 y21 := by rw [hky21]; exact ⟨by20.os, by20.tape, by20.output, by20.size, by20.block⟩
      clear ta tb tc hky21
      obtain ⟨ta, tb, tc⟩ := SEE.out y21 by21
      go_wp2_with fail
      refine (hs _ _ _ _ _ _ _ _ _ ta tb).mono ?_
      rw [I1, I2]
      rintro e y22 ⟨rfl, hy22⟩
      have by22 := by21.trans (hy22.mono by21.size)
      clear ta tb tc hy22
      obtain ⟨ta, tb, tc⟩ := SEE.out y22 by22
      go_wp2_with fail
      refine (hap _ _ _ _ _ _ _ _ _ ta tb).mono ?_
      rw [I1, I2]
      rintro e y23 ⟨rfl, hy23⟩
      have by23 := by22.trans (hy23.mono by22.size)
      clear ta tb tc hy23
      obtain ⟨ta, tb, tc⟩ := SEE.out y23 by23
      go_wp2_with fail
      refine (hw _ _ _ _ _ _ _ _ _ tb tc).mono ?_
      rw [I3]
      rintro e y24 ⟨rfl, hy24⟩
      have by24 := by23.trans (hy24.mono by23.size)
      clear ta tb tc hy24
      obtain ⟨ta, tb, tc⟩ := SEE.out y24 by24
      go_wp2_with fail
      refine (hj _ _ _ _ _ _ _ _ _ ta tb).mono ?_
      rintro e y25 ⟨R, k, rc, l, rfl, sl, hk1, hk2, hk3, htr, hat, hy25⟩
      have by25 := by24.trans (hy25.mono by24.size)
      clear ta tb tc hy25
      have tl : Took2 y25 R k rc l := ⟨sl, fits_max hat fa fb, hk1, hk2, by have : Nat.max n m ≤ 64 := Nat.max_le.2 ⟨by omega, by omega⟩; omega⟩
      have IJ : withinL a l = true := within_iff.2 fun i => by rw [hat]; exact Nat.le_max_left _ _
      clear sl hk1 hk2 hk3 htr hat
      obtain ⟨ta, tb, tc⟩ := SEE.out y25 by25
      go_wp2_with fail
      refine (hw _ _ _ _ _ _ _ _ _ ta tl).mono ?_
      rw [IJ]
      rintro e y26 ⟨rfl, hy26⟩
      have by26 := by25.trans (hy26.mono by25.size)
      clear ta tb tc hy26
      clear tl IJ
      obtain ⟨ta, tb, tc⟩ := SEE.out y26 by26
      go_wp2_with fail
      refine (hm _ _ _ _ _ _ _ _ _ ta tb).mono ?_
      rintro e y27 ⟨R2, k2, rc2, l2, rfl, sl, hk1, hk2, hk3, htr, hat, hy27⟩
      have by27 := by26.trans (hy27.mono by26.size)
      clear ta tb tc hy27
      have tl : Took2 y27 R2 k2 rc2 l2 := ⟨sl, fits_min hat fa, hk1, hk2, by have : Nat.max n m ≤ 64 := Nat.max_le.2 ⟨by omega, by omega⟩; omega⟩
      have IJ : withinL l2 b = true := within_iff.2 fun i => by rw [hat]; exact Nat.min_le_right _ _
      clear sl hk1 hk2 hk3 htr hat
      obtain ⟨ta, tb, tc⟩ := SEE.out y27 by27
      go_wp2_with fail
      refine (hw _ _ _ _ _ _ _ _ _ tl tb).mono ?_
      rw [IJ]
      rintro e y28 ⟨rfl, hy28⟩
      have by28 := by27.trans (hy28.mono by27.size)
      clear ta tb tc hy28
      clear tl IJ
      go_wp2
      go_ret
      exact ⟨rfl, bw1.trans (by28.mono bw1.size)⟩
     | true =>
      go_enter Try.func4, Try.ntmps4
      go_wp2_with fail
      refine (awake_any hj hs hl _).mono ?_
      rintro e w1 ⟨rfl, bw1⟩
      have SEE : Hid (∀ W, Below w1.heap.size w1 W → Took2 W A n c a ∧ Took2 W B m d b ∧ Took2 W C q r z) := Lib.hid fun W hW =>
        ⟨⟨(ha.below bw1).below hW, fa, hc, hc2, by omega⟩, ⟨(hb.below bw1).below hW, fb, hd, hd2, by omega⟩, ⟨(hz.below bw1).below hW, fz, hr, hr2, by omega⟩⟩
      have b0 := Below.refl w1.heap.size w1
      clear ha hb hz
      obtain ⟨ta, tb, tc⟩ := SEE.out w1 b0
      go_wp2_with fail
      refine (hw _ _ _ _ _ _ _ _ _ ta tb).mono ?_
      rw [I1]
      rintro e y29 ⟨rfl, hy29⟩
      have by29 := b0.trans (hy29.mono b0.size)
      clear ta tb tc hy29
      obtain ⟨ta, tb, tc⟩ := SEE.out y29 by29
      go_wp2_with fail
      refine (hw _ _ _ _ _ _ _ _ _ tb ta).mono ?_
      rw [I2]
      rintro e y30 ⟨rfl, hy30⟩
      have by30 := by29.trans (hy30.mono by29.size)
      clear ta tb tc hy30
      obtain ⟨ta, tb, tc⟩ := SEE.out y30 by30
      go_wp2_with fail
      refine (refWithin_any _ _ _ _ _ _ _ _ _ ta.1 tb.1 (by omega)).mono ?_
      rw [I1]
      rintro e y31 ⟨rfl, kk, hky31⟩
      have by31 : Below w1.heap.size w1 y31 := by rw [hky31]; exact ⟨by30.os, by30.tape, by30.output, by30.size, by30.block⟩
      clear ta tb tc hky31
      obtain ⟨ta, tb, tc⟩ := SEE.out y31 by31
      go_wp2_with fail
      refine (hs _ _ _ _ _ _ _ _ _ ta tb).mono ?_
      rw [I1, I2]
      rintro e y32 ⟨rfl, hy32⟩
      have by32 := by31.trans (hy32.mono by31.size)
      clear ta tb tc hy32
      obtain ⟨ta, tb, tc⟩ := SEE.out y32 by32
      go_wp2_with fail
      refine (hap _ _ _ _ _ _ _ _ _ ta tb).mono ?_
      rw [I1, I2]
      rintro e y33 ⟨rfl, hy33⟩
      have by33 := by32.trans (hy33.mono by32.size)
      clear ta tb tc hy33
      obtain ⟨ta, tb, tc⟩ := SEE.out y33 by33
      go_wp2_with fail
      refine (hw _ _ _ _ _ _ _ _ _ tb tc).mono ?_
      rw [I3]
      rintro e y34 ⟨rfl, hy34⟩
      have by34 := by33.trans (hy34.mono by33.size)
      clear ta tb tc hy34
      obtain ⟨ta, tb, tc⟩ := SEE.out y34 by34
      go_wp2_with fail
      refine (hj _ _ _ _ _ _ _ _ _ ta tb).mono ?_
      rintro e y35 ⟨R, k, rc, l, rfl, sl, hk1, hk2, hk3, htr, hat, hy35⟩
      have by35 := by34.trans (hy35.mono by34.size)
      clear ta tb tc hy35
      have tl : Took2 y35 R k rc l := ⟨sl, fits_max hat fa fb, hk1, hk2, by have : Nat.max n m ≤ 64 := Nat.max_le.2 ⟨by omega, by omega⟩; omega⟩
      have IJ : withinL a l = true := within_iff.2 fun i => by rw [hat]; exact Nat.le_max_left _ _
      clear sl hk1 hk2 hk3 htr hat
      obtain ⟨ta, tb, tc⟩ := SEE.out y35 by35
      go_wp2_with fail
      refine (hw _ _ _ _ _ _ _ _ _ ta tl).mono ?_
      rw [IJ]
      rintro e y36 ⟨rfl, hy36⟩
      have by36 := by35.trans (hy36.mono by35.size)
      clear ta tb tc hy36
      clear tl IJ
      obtain ⟨ta, tb, tc⟩ := SEE.out y36 by36
      go_wp2_with fail
      refine (hm _ _ _ _ _ _ _ _ _ ta tb).mono ?_
      rintro e y37 ⟨R2, k2, rc2, l2, rfl, sl, hk1, hk2, hk3, htr, hat, hy37⟩
      have by37 := by36.trans (hy37.mono by36.size)
      clear ta tb tc hy37
      have tl : Took2 y37 R2 k2 rc2 l2 := ⟨sl, fits_min hat fa, hk1, hk2, by have : Nat.max n m ≤ 64 := Nat.max_le.2 ⟨by omega, by omega⟩; omega⟩
      have IJ : withinL l2 b = true := within_iff.2 fun i => by rw [hat]; exact Nat.min_le_right _ _
      clear sl hk1 hk2 hk3 htr hat
      obtain ⟨ta, tb, tc⟩ := SEE.out y37 by37
      go_wp2_with fail
      refine (hw _ _ _ _ _ _ _ _ _ tl tb).mono ?_
      rw [IJ]
      rintro e y38 ⟨rfl, hy38⟩
      have by38 := by37.trans (hy38.mono by37.size)
      clear ta tb tc hy38
      clear tl IJ
      go_wp2
      go_ret
      exact ⟨rfl, bw1.trans (by38.mono bw1.size)⟩
    | true =>
     have I4 := htr I1 I3
     clear htr
     cases I2 : withinL b a with
     | false =>
      go_enter Try.func4, Try.ntmps4
      go_wp2_with fail
      refine (awake_any hj hs hl _).mono ?_
      rintro e w1 ⟨rfl, bw1⟩
      have SEE : Hid (∀ W, Below w1.heap.size w1 W → Took2 W A n c a ∧ Took2 W B m d b ∧ Took2 W C q r z) := Lib.hid fun W hW =>
        ⟨⟨(ha.below bw1).below hW, fa, hc, hc2, by omega⟩, ⟨(hb.below bw1).below hW, fb, hd, hd2, by omega⟩, ⟨(hz.below bw1).below hW, fz, hr, hr2, by omega⟩⟩
      have b0 := Below.refl w1.heap.size w1
      clear ha hb hz
      obtain ⟨ta, tb, tc⟩ := SEE.out w1 b0
      go_wp2_with fail
      refine (hw _ _ _ _ _ _ _ _ _ ta tb).mono ?_
      rw [I1]
      rintro e y39 ⟨rfl, hy39⟩
      have by39 := b0.trans (hy39.mono b0.size)
      clear ta tb tc hy39
      obtain ⟨ta, tb, tc⟩ := SEE.out y39 by39
      go_wp2_with fail
      refine (hw _ _ _ _ _ _ _ _ _ tb ta).mono ?_
      rw [I2]
      rintro e y40 ⟨rfl, hy40⟩
      have by40 := by39.trans (hy40.mono by39.size)
      clear ta tb tc hy40
      obtain ⟨ta, tb, tc⟩ := SEE.out y40 by40
      go_wp2_with fail
      refine (refWithin_any _ _ _ _ _ _ _ _ _ ta.1 tb.1 (by omega)).mono ?_
      rw [I1]
      rintro e y41 ⟨rfl, kk, hky41⟩
      have by41 : Below w1.heap.size w1 y41 := by rw [hky41]; exact ⟨by40.os, by40.tape, by40.output, by40.size, by40.block⟩
      clear ta tb tc hky41
      obtain ⟨ta, tb, tc⟩ := SEE.out y41 by41
      go_wp2_with fail
      refine (hs _ _ _ _ _ _ _ _ _ ta tb).mono ?_
      rw [I1, I2]
      rintro e y42 ⟨rfl, hy42⟩
      have by42 := by41.trans (hy42.mono by41.size)
      clear ta tb tc hy42
      obtain ⟨ta, tb, tc⟩ := SEE.out y42 by42
      go_wp2_with fail
      refine (hap _ _ _ _ _ _ _ _ _ ta tb).mono ?_
      rw [I1, I2]
      rintro e y43 ⟨rfl, hy43⟩
      have by43 := by42.trans (hy43.mono by42.size)
      clear ta tb tc hy43
      obtain ⟨ta, tb, tc⟩ := SEE.out y43 by43
      go_wp2_with fail
      refine (hw _ _ _ _ _ _ _ _ _ tb tc).mono ?_
      rw [I3]
      rintro e y44 ⟨rfl, hy44⟩
      have by44 := by43.trans (hy44.mono by43.size)
      clear ta tb tc hy44
      obtain ⟨ta, tb, tc⟩ := SEE.out y44 by44
      go_wp2_with fail
      refine (hw _ _ _ _ _ _ _ _ _ ta tc).mono ?_
      rw [I4]
      rintro e y45 ⟨rfl, hy45⟩
      have by45 := by44.trans (hy45.mono by44.size)
      clear ta tb tc hy45
      obtain ⟨ta, tb, tc⟩ := SEE.out y45 by45
      go_wp2_with fail
      refine (hj _ _ _ _ _ _ _ _ _ ta tb).mono ?_
      rintro e y46 ⟨R, k, rc, l, rfl, sl, hk1, hk2, hk3, htr, hat, hy46⟩
      have by46 := by45.trans (hy46.mono by45.size)
      clear ta tb tc hy46
      have tl : Took2 y46 R k rc l := ⟨sl, fits_max hat fa fb, hk1, hk2, by have : Nat.max n m ≤ 64 := Nat.max_le.2 ⟨by omega, by omega⟩; omega⟩
      have IJ : withinL a l = true := within_iff.2 fun i => by rw [hat]; exact Nat.le_max_left _ _
      clear sl hk1 hk2 hk3 htr hat
      obtain ⟨ta, tb, tc⟩ := SEE.out y46 by46
      go_wp2_with fail
      refine (hw _ _ _ _ _ _ _ _ _ ta tl).mono ?_
      rw [IJ]
      rintro e y47 ⟨rfl, hy47⟩
      have by47 := by46.trans (hy47.mono by46.size)
      clear ta tb tc hy47
      clear tl IJ
      obtain ⟨ta, tb, tc⟩ := SEE.out y47 by47
      go_wp2_with fail
      refine (hm _ _ _ _ _ _ _ _ _ ta tb).mono ?_
      rintro e y48 ⟨R2, k2, rc2, l2, rfl, sl, hk1, hk2, hk3, htr, hat, hy48⟩
      have by48 := by47.trans (hy48.mono by47.size)
      clear ta tb tc hy48
      have tl : Took2 y48 R2 k2 rc2 l2 := ⟨sl, fits_min hat fa, hk1, hk2, by have : Nat.max n m ≤ 64 := Nat.max_le.2 ⟨by omega, by omega⟩; omega⟩
      have IJ : withinL l2 b = true := within_iff.2 fun i => by rw [hat]; exact Nat.min_le_right _ _
      clear sl hk1 hk2 hk3 htr hat
      obtain ⟨ta, tb, tc⟩ := SEE.out y48 by48
      go_wp2_with fail
      refine (hw _ _ _ _ _ _ _ _ _ tl tb).mono ?_
      rw [IJ]
      rintro e y49 ⟨rfl, hy49⟩
      have by49 := by48.trans (hy49.mono by48.size)
      clear ta tb tc hy49
      clear tl IJ
      go_wp2
      go_ret
      exact ⟨rfl, bw1.trans (by49.mono bw1.size)⟩
     | true =>
      go_enter Try.func4, Try.ntmps4
      go_wp2_with fail
      refine (awake_any hj hs hl _).mono ?_
      rintro e w1 ⟨rfl, bw1⟩
      have SEE : Hid (∀ W, Below w1.heap.size w1 W → Took2 W A n c a ∧ Took2 W B m d b ∧ Took2 W C q r z) := Lib.hid fun W hW =>
        ⟨⟨(ha.below bw1).below hW, fa, hc, hc2, by omega⟩, ⟨(hb.below bw1).below hW, fb, hd, hd2, by omega⟩, ⟨(hz.below bw1).below hW, fz, hr, hr2, by omega⟩⟩
      have b0 := Below.refl w1.heap.size w1
      clear ha hb hz
      obtain ⟨ta, tb, tc⟩ := SEE.out w1 b0
      go_wp2_with fail
      refine (hw _ _ _ _ _ _ _ _ _ ta tb).mono ?_
      rw [I1]
      rintro e y50 ⟨rfl, hy50⟩
      have by50 := b0.trans (hy50.mono b0.size)
      clear ta tb tc hy50
      obtain ⟨ta, tb, tc⟩ := SEE.out y50 by50
      go_wp2_with fail
      refine (hw _ _ _ _ _ _ _ _ _ tb ta).mono ?_
      rw [I2]
      rintro e y51 ⟨rfl, hy51⟩
      have by51 := by50.trans (hy51.mono by50.size)
      clear ta tb tc hy51
      obtain ⟨ta, tb, tc⟩ := SEE.out y51 by51
      go_wp2_with fail
      refine (refWithin_any _ _ _ _ _ _ _ _ _ ta.1 tb.1 (by omega)).mono ?_
      rw [I1]
      rintro e y52 ⟨rfl, kk, hky52⟩
      have by52 : Below w1.heap.size w1 y52 := by rw [hky52]; exact ⟨by51.os, by51.tape, by51.output, by51.size, by51.block⟩
      clear ta tb tc hky52
      obtain ⟨ta, tb, tc⟩ := SEE.out y52 by52
      go_wp2_with fail
      refine (hs _ _ _ _ _ _ _ _ _ ta tb).mono ?_
      rw [I1, I2]
      rintro e y53 ⟨rfl, hy53⟩
      have by53 := by52.trans (hy53.mono by52.size)
      clear ta tb tc hy53
      obtain ⟨ta, tb, tc⟩ := SEE.out y53 by53
      go_wp2_with fail
      refine (hap _ _ _ _ _ _ _ _ _ ta tb).mono ?_
      rw [I1, I2]
      rintro e y54 ⟨rfl, hy54⟩
      have by54 := by53.trans (hy54.mono by53.size)
      clear ta tb tc hy54
      obtain ⟨ta, tb, tc⟩ := SEE.out y54 by54
      go_wp2_with fail
      refine (hw _ _ _ _ _ _ _ _ _ tb tc).mono ?_
      rw [I3]
      rintro e y55 ⟨rfl, hy55⟩
      have by55 := by54.trans (hy55.mono by54.size)
      clear ta tb tc hy55
      obtain ⟨ta, tb, tc⟩ := SEE.out y55 by55
      go_wp2_with fail
      refine (hw _ _ _ _ _ _ _ _ _ ta tc).mono ?_
      rw [I4]
      rintro e y56 ⟨rfl, hy56⟩
      have by56 := by55.trans (hy56.mono by55.size)
      clear ta tb tc hy56
      obtain ⟨ta, tb, tc⟩ := SEE.out y56 by56
      go_wp2_with fail
      refine (hj _ _ _ _ _ _ _ _ _ ta tb).mono ?_
      rintro e y57 ⟨R, k, rc, l, rfl, sl, hk1, hk2, hk3, htr, hat, hy57⟩
      have by57 := by56.trans (hy57.mono by56.size)
      clear ta tb tc hy57
      have tl : Took2 y57 R k rc l := ⟨sl, fits_max hat fa fb, hk1, hk2, by have : Nat.max n m ≤ 64 := Nat.max_le.2 ⟨by omega, by omega⟩; omega⟩
      have IJ : withinL a l = true := within_iff.2 fun i => by rw [hat]; exact Nat.le_max_left _ _
      clear sl hk1 hk2 hk3 htr hat
      obtain ⟨ta, tb, tc⟩ := SEE.out y57 by57
      go_wp2_with fail
      refine (hw _ _ _ _ _ _ _ _ _ ta tl).mono ?_
      rw [IJ]
      rintro e y58 ⟨rfl, hy58⟩
      have by58 := by57.trans (hy58.mono by57.size)
      clear ta tb tc hy58
      clear tl IJ
      obtain ⟨ta, tb, tc⟩ := SEE.out y58 by58
      go_wp2_with fail
      refine (hm _ _ _ _ _ _ _ _ _ ta tb).mono ?_
      rintro e y59 ⟨R2, k2, rc2, l2, rfl, sl, hk1, hk2, hk3, htr, hat, hy59⟩
      have by59 := by58.trans (hy59.mono by58.size)
      clear ta tb tc hy59
      have tl : Took2 y59 R2 k2 rc2 l2 := ⟨sl, fits_min hat fa, hk1, hk2, by have : Nat.max n m ≤ 64 := Nat.max_le.2 ⟨by omega, by omega⟩; omega⟩
      have IJ : withinL l2 b = true := within_iff.2 fun i => by rw [hat]; exact Nat.min_le_right _ _
      clear sl hk1 hk2 hk3 htr hat
      obtain ⟨ta, tb, tc⟩ := SEE.out y59 by59
      go_wp2_with fail
      refine (hw _ _ _ _ _ _ _ _ _ tl tb).mono ?_
      rw [IJ]
      rintro e y60 ⟨rfl, hy60⟩
      have by60 := by59.trans (hy60.mono by59.size)
      clear ta tb tc hy60
      clear tl IJ
      go_wp2
      go_ret
      exact ⟨rfl, bw1.trans (by60.mono bw1.size)⟩
end Go.Proofs.Ytpfmgjfkjjnadaa.Vec
