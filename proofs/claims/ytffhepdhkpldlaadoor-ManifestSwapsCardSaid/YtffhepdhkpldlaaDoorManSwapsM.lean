/- The law ManifestSwaps, where nothing is too long. -/
import Derived.Test.YtffhepdhkpldlaaDoorManSwaps
namespace Go.Proofs.YtffhepdhkpldlaaDoor.Man
open Go Go.RowKit Go.Proofs.YtffhepdhkpldlaaDoor.Words Go.Proofs.YtffhepdhkpldlaaDoor.Enc Go.Proofs.YtffhepdhkpldlaaDoor.Made Go.Proofs.YtffhepdhkpldlaaDoor.Tape Go.Proofs.YtffhepdhkpldlaaDoor.Vec Go.Proofs.YtffhepdhkpldlaaDoor.Dsk
set_option linter.unusedVariables false
set_option linter.unusedSimpArgs false
open Go.Proofs.YtffhepdhkpldlaaDoor.Sht (Since newL armL crashL)

/-- A box that holds a manifest. -/
def Box (w : World) (b : Nat) (m : Mn) (A : Option Addr) (n c : Nat) : Prop := w.heap[b]? = some (.cells (m.row A n c) 26 (0, 0))
theorem Box.lt {w : World} {b : Nat} {m : Mn} {A : Option Addr} {n c : Nat} (h : Box w b m A n c) : b < w.heap.size := (Array.getElem?_eq_some_iff.1 h).1
theorem Box.below {w w' : World} {b : Nat} {m : Mn} {A : Option Addr} {n c : Nat} (h : Box w b m A n c) (hb : Below w.heap.size w w') : Box w' b m A n c := (hb.block b h.lt).trans h
theorem Box.beside {w w' : World} {S : List Nat} {b : Nat} {m : Mn} {A : Option Addr} {n c : Nat} (h : Box w b m A n c) (hb : Beside S w w') (hS : b ∉ S) : Box w' b m A n c := (hb.block b h.lt hS).trans h
theorem took_beside {S : List Nat} {w w' : World} {A : Option Addr} {n c : Nat} {v : List Nat} (h : Took2 w A n c v) (hb : Beside S w w') (hS : Out S A n) : Took2 w' A n c v := ⟨h.1.beside hb hS, h.2⟩

set_option maxRecDepth 100000 in
set_option maxHeartbeats 4000000 in
theorem swaps_main (a b : Mn) (A B : Option Addr) (n c m d : Nat) (st torn keep : Nat) (w : World) (T : Chk.Tabs w) (ha : Arg w a A n c) (hb : Arg w b B m d) (hst : st < 256) (htn : torn < 256) (hkp : keep < 256) (h1 : n ≤ 64) (h2 : m ≤ 64) (h3 : a.fold.size ≤ 60) (h4 : b.fold.size ≤ 60) :
    Calls Tryd.prog 4 #[a.val A n c, b.val B m d, .int .u8 (st : Int), .int .u8 (torn : Int), .int .u8 (keep : Int)] w fun e w' => e = .returned (.bool true) ∧ Below w.heap.size w w' := by
  have NEAR := fun (x : Mn) (X : Option Addr) (k l : Nat) (W : World) (hx : Arg w x X k l) (hk : k ≤ 64) (hf : x.fold.size ≤ 60) (hW : Below w.heap.size w W) => near_any x 255 X k l W (by omega) hx.n0 hx.n1 hx.sr hx.tm ((hx.took hk).below hW) hk (by omega)
  have NA := Lib.hid (fun W => NEAR a A n c W ha h1 h3)
  have NB := Lib.hid (fun W => NEAR b B m d W hb h2 h4)
  have sA := Lib.hid ha.s
  have sB := Lib.hid hb.s
  clear NEAR ha hb
  obtain ⟨s6, hs6⟩ : ∃ s6 : Nat, (st : Int).tmod 6 = (s6 : Int) := ⟨st % 6, by rw [Int.tmod_eq_emod_of_nonneg (by omega)]; omega⟩
  have hs6' : s6 < 6 := by rw [Int.tmod_eq_emod_of_nonneg (by omega)] at hs6; omega
  have hs6e : (st : Int) % 6 = (s6 : Int) := by rw [Int.tmod_eq_emod_of_nonneg (by omega)] at hs6; exact hs6
  unfold Mn.val at NA NB ⊢
  have b0 := ((Below.refl w.heap.size w).alloc (Nat.le_refl _) (.cells (a.row A n c) 26)).alloc (by simp) (.cells (b.row B m d) 26)
  have g0 : Box ((w.alloc (.cells (a.row A n c) 26)).alloc (.cells (b.row B m d) 26)) w.heap.size a A n c := by
    unfold Box
    rw [Below.heap_alloc _ _ _ (by simp)]
    exact heap_alloc_new w _
  have g1 : Box ((w.alloc (.cells (a.row A n c) 26)).alloc (.cells (b.row B m d) 26)) (w.heap.size + 1) b B m d := by
    have := heap_alloc_new (w.alloc (.cells (a.row A n c) 26)) (.cells (b.row B m d) 26)
    unfold Box
    simpa using this
  have HA4 := Lib.hid (And.intro h3 h4)
  obtain ⟨nd, sr, v, tm, fd⟩ := a
  obtain ⟨nd2, sr2, v2, tm2, fd2⟩ := b
  simp only [] at h3 h4
  unfold Mn.row at b0 g0 g1 NA NB
  simp only [] at b0 g0 g1 NA NB
  unfold Mn.row
  simp only []
  go_enter Tryd.func4, Tryd.ntmps4
  go_wp2_with fail
  generalize (w.alloc (.cells #[.int .i64 nd, .int .u64 (sr : Int), .slice A n c, .int .u64 (tm : Int), .string fd] 26)).alloc (.cells #[.int .i64 nd2, .int .u64 (sr2 : Int), .slice B m d, .int .u64 (tm2 : Int), .string fd2] 26) = w1 at b0 g0 g1 ⊢
  refine (awakeM w1 (T.below b0)).mono ?_
  rintro e w2 ⟨rfl, hb2⟩
  have b2 := b0.trans (hb2.mono b0.size)
  have k0 := g0.below hb2
  have k1 := g1.below hb2
  obtain ⟨p0, p1, p2, p3, p4⟩ := box5 k0
  obtain ⟨q0, q1, q2, q3, q4⟩ := box5 k1
  have B2 := Lib.hid b2
  have HW2 := k1.lt
  clear hb2 g0 g1 b0 b2
  have f1 : fd.size ≤ 9223372036854775807 := by omega
  have f2 : fd2.size ≤ 9223372036854775807 := by omega
  go_wp2_with fail
  refine (NA.out w2 B2.out).mono ?_
  rintro e w3 ⟨x, X, k, l, rfl, hrx, -, -, -, -, -, tx3, hk, ot3, hb3⟩
  have k0 := k0.below hb3
  have k1 := k1.below hb3
  have B3 := Lib.hid (B2.out.trans (hb3.mono B2.out.size))
  have ox := ot3.out [w.heap.size, w.heap.size + 1] (out_u sA.out (fun z hz => by simp at hz; omega)) (fun z hz => by have := k1.lt; have := k0.lt; have := hz; simp at hz; have := B2.out.size; have := HW2; omega)
  clear p0 p1 p2 p3 p4 q0 q1 q2 q3 q4 hb3 NA
  unfold Box Mn.row at k0
  simp only [] at k0
  have HX := Lib.hid (hrx (by omega))
  clear hrx
  go_wp2_with (first
    | (refine wpList_putRow rfl 26 (.tmp 5) (.tmp 43) rfl w.heap.size 26 #[.int .i64 nd, .int .u64 (sr : Int), .slice A n c, .int .u64 (tm : Int), .string fd] #[.int .i64 x.node, .int .u64 (x.serial : Int), .slice X k l, .int .u64 (x.time : Int), .string x.fold] rfl rfl k0 (by kernel_rfl) rfl (by simp [Value.oneCell']) ?_))
  intro w4 hW4 hbe4
  have kx : Box w4 w.heap.size x X k l := hW4
  have k1 := k1.beside hbe4 (by simp)
  have B4 := Lib.hid (Below.beside B3.out hbe4 B3.out.size (by simp))
  have HW4 := k1.lt
  have tx4 := took_beside tx3 hbe4 (Vec.Out.less ox (fun z hz => by simp at hz; simp [hz]))
  obtain ⟨q0, q1, q2, q3, q4⟩ := box5 k1
  clear hW4 hbe4 tx3 k0
  go_wp2_with fail
  refine (NB.out w4 B4.out).mono ?_
  rintro e w5 ⟨y, Y, k', l', rfl, hry, -, -, -, -, -, ty5, hk', ot5, hb5⟩
  have kx5 := kx.below hb5
  have k1 := k1.below hb5
  have tx5 := tx4.below hb5
  have B5 := Lib.hid (B4.out.trans (hb5.mono B4.out.size))
  have oy := ot5.out [w.heap.size, w.heap.size + 1] (out_u sB.out (fun z hz => by simp at hz; omega)) (fun z hz => by have h1 := kx.lt; have h2 := HW4; simp at hz; omega)
  clear q0 q1 q2 q3 q4 hb5 NB kx tx4 ot5 ot3
  unfold Box Mn.row at k1
  simp only [] at k1
  have HY := Lib.hid (hry (by omega))
  clear hry
  go_wp2_with (first
    | (refine wpList_putRow rfl 26 (.tmp 6) (.tmp 45) rfl (w.heap.size + 1) 26 #[.int .i64 nd2, .int .u64 (sr2 : Int), .slice B m d, .int .u64 (tm2 : Int), .string fd2] #[.int .i64 y.node, .int .u64 (y.serial : Int), .slice Y k' l', .int .u64 (y.time : Int), .string y.fold] rfl rfl k1 (by kernel_rfl) rfl (by simp [Value.oneCell']) ?_))
  intro w6 hW6 hbe6
  have ky : Box w6 (w.heap.size + 1) y Y k' l' := hW6
  have kx := kx5.beside hbe6 (by simp)
  have B6 := Lib.hid (Below.beside B5.out hbe6 B5.out.size (by simp))
  have tx := took_beside tx5 hbe6 (Vec.Out.less ox (fun z hz => by simp at hz; simp [hz]))
  have ty := took_beside ty5 hbe6 (Vec.Out.less oy (fun z hz => by simp at hz; simp [hz]))
  clear hW6 hbe6 tx5 ty5 kx5 k1 ox oy
  -- the disk is made; w6 is what it is held against
  have TB := T.below B6.out
  have hxl := fileL_right HX.out
  have hyl := fileL_right HY.out
  have hsw := Sht.swap_newN mN_ne (room := 65536) (left := -1) (torn := 0) (acts := 0) (q := fileL x) (by decide) (by omega)
  obtain ⟨E, p, files, h, rest, hA1, hA2, hA3, hA4, hA5, hA6, hA7, hA8, hA9, hA10⟩ := Sht.armed_anyN mN_ne s6 hs6' (torn : Int) (keep : Int) (fileL x) (fileL y) (by omega)
  have hfx : Hd.fits ⟨65536, 0, -1, 0, false⟩ := Sht.hd_fits5 (by simp) (by simp) (by simp) (by simp) (by simp) (by simp) (by simp)
  have hfy : Hd.fits ⟨65536, 4, (s6 : Int), (torn : Int), false⟩ := Sht.hd_fits5 (by simp) (by simp) (by simp) (by simp only []; omega) (by simp only []; omega) (by simp only []; omega) (by simp only []; omega)
  have NEW := Lib.hid (newL w6 w6 (Below.refl _ _) 65536)
  have WX := Lib.hid (fun W dd (hd : Since w6 dd [] ⟨65536, 0, -1, 0, false⟩ W) => mwriteL w6 W dd [] _ ⟨65536, 0, -1, 0, false⟩ _ 0 x X k l TB hd hfx (by simp) (may_of HX.out) (by have := HX.out.sr; omega) (by have := HX.out.tm; omega) (tx.below hd.below) hk (by simp [sumA]) (by simp) hsw)
  have WY := Lib.hid (fun W dd (hd : Since w6 dd [⟨mN, fileL x, (fileL x).length⟩] ⟨65536, 4, (s6 : Int), (torn : Int), false⟩ W) => mwriteL w6 W dd _ _ _ _ E y Y k' l' TB hd hfy (by simp) (may_of HY.out) (by have := HY.out.sr; omega) (by have := HY.out.tm; omega) (ty.below hd.below) hk' (by simp [sumA]; omega) (by simp) hA1)
  have RD := Lib.hid (fun (z : Mn) (hz : Right z) W dd (hd : Since w6 dd (⟨mN, fileL z, (fileL z).length⟩ :: rest) { h with off := false, left := -1 } W) => mreadSheet w6 W dd (⟨mN, fileL z, (fileL z).length⟩ :: rest) { h with off := false, left := -1 } ⟨mN, fileL z, (fileL z).length⟩ 109 z.node.toNat z.serial (manL z) TB (by have := hz.n0; have := hz.n1; omega) (by have := hz.sr; omega) (by have := manL_len hz; omega) hd rfl (by simp [lookA]) rfl (by have := fileL_right hz; simp [sumA]; omega))
  have HA := Lib.hid (And.intro hA2 hA5)
  have HA4' := Lib.hid hA4
  have HXL := Lib.hid (And.intro hxl hyl)
  have TX := Lib.hid tx
  have TY := Lib.hid ty
  clear hA1 hA2 hA3 hA4 hA5 hA6 hA7 hA8 hA9 hA10 hsw hfx hfy hxl hyl tx ty TB
  unfold Mn.val Mn.row at WX WY
  go_wp2_with fail
  refine NEW.out.mono ?_
  rintro e w7 ⟨dd, rfl, hd7⟩
  have kx7 := kx.below hd7.below
  obtain ⟨p0, p1, p2, p3, p4⟩ := box5 kx7
  clear NEW kx7
  go_wp2_with fail
  refine (WX.out w7 dd hd7).mono ?_
  rintro e w8 ⟨rfl, hd8⟩
  clear p0 p1 p2 p3 p4 hd7 WX
  go_wp2_with fail
  refine (armL w6 w8 dd _ _ (s6 : Int) (torn : Int) hd8).mono ?_
  rintro e w9 ⟨rfl, hd9⟩
  have ky9 := ky.below hd9.below
  obtain ⟨q0, q1, q2, q3, q4⟩ := box5 ky9
  clear hd8 ky9
  go_wp2_with fail
  refine (WY.out w9 dd hd9).mono ?_
  rintro e wa ⟨rfl, hda⟩
  clear q0 q1 q2 q3 q4 hd9 WY
  go_wp2_with fail
  refine (crashL w6 wa dd files h (keep : Int) hda (by have := HA.out.2; have := HXL.out; omega) (by omega) (by omega)).mono ?_
  rintro e wb ⟨rfl, hdb⟩
  rw [HA.out.1] at hdb
  clear hda
  rcases HA4'.out with ⟨hE, hp⟩ | ⟨hE, hp⟩
  · subst hE hp
    clear HA4' HA
    have RDz := RD.out x HX.out wb dd hdb
    rw [readM_of HX.out] at RDz
    have kz := kx.below hdb.below
    clear hdb RD
    go_wp2_with fail
    refine RDz.mono ?_
    rintro e wc ⟨⟨RA, rn, rc, rfl, own, hbc⟩, hdc⟩
    have kz := kz.below hbc
    have al := (Below.refl wc.heap.size wc).alloc (Nat.le_refl _) (.cells #[.int .i64 x.node, .int .u64 (x.serial : Int), .slice RA rn rc, .int .u64 (x.time : Int), .string x.fold] 26)
    have kz := kz.below al
    have own := Own.below own al (Nat.le_refl _)
    have bz := hdc.below.trans (al.mono hdc.below.size)
    have tz := TX.out.below bz
    have Bz := Lib.hid (B6.out.trans (bz.mono B6.out.size))
    have hrn : rn ≤ 64 := by
      have h1 := (SeesU.of_own own).1
      have h2 := trimN_le x.floor x.floor.length
      have h3 := HX.out.fl.1
      have h4 := trimL_len x.floor
      simp only [] at h1
      omega
    have SM := Lib.hid (same_yes { x with floor := trimL x.floor } x RA X rn rc k l _ (SeesU.of_own own) tz.1 (by omega) (by omega) (alike_trim x))
    unfold Mn.val Mn.row at SM ⊢
    simp only [] at SM
    obtain ⟨z0, z1, z2, z3, z4⟩ := box5 kz
    clear RDz own hbc hdc bz tz al kz hrn
    go_wp2_with fail
    refine SM.out.mono ?_
    rintro e we ⟨rfl, hbe⟩
    have BF := Lib.hid (Bz.out.trans (hbe.mono Bz.out.size))
    clear hbe
    go_wp2
    go_ret
    exact ⟨rfl, BF.out⟩
  · subst hE hp
    clear HA4' HA
    have RDz := RD.out y HY.out wb dd hdb
    rw [readM_of HY.out] at RDz
    have kz := ky.below hdb.below
    clear hdb RD
    go_wp2_with fail
    refine RDz.mono ?_
    rintro e wc ⟨⟨RA, rn, rc, rfl, own, hbc⟩, hdc⟩
    have kz := kz.below hbc
    have al := (Below.refl wc.heap.size wc).alloc (Nat.le_refl _) (.cells #[.int .i64 y.node, .int .u64 (y.serial : Int), .slice RA rn rc, .int .u64 (y.time : Int), .string y.fold] 26)
    have kz := kz.below al
    have own := Own.below own al (Nat.le_refl _)
    have bz := hdc.below.trans (al.mono hdc.below.size)
    have tz := TY.out.below bz
    have Bz := Lib.hid (B6.out.trans (bz.mono B6.out.size))
    have hrn : rn ≤ 64 := by
      have h1 := (SeesU.of_own own).1
      have h2 := trimN_le y.floor y.floor.length
      have h3 := HY.out.fl.1
      have h4 := trimL_len y.floor
      simp only [] at h1
      omega
    have SM := Lib.hid (same_yes { y with floor := trimL y.floor } y RA Y rn rc k' l' _ (SeesU.of_own own) tz.1 (by omega) (by omega) (alike_trim y))
    unfold Mn.val Mn.row at SM ⊢
    simp only [] at SM
    obtain ⟨z0, z1, z2, z3, z4⟩ := box5 kz
    clear RDz own hbc hdc bz tz al kz hrn
    go_wp2_with fail
    refine SM.out.mono ?_
    rintro e we ⟨rfl, hbe⟩
    have BF := Lib.hid (Bz.out.trans (hbe.mono Bz.out.size))
    clear hbe
    go_wp2
    go_ret
    exact ⟨rfl, BF.out⟩
end Go.Proofs.YtffhepdhkpldlaaDoor.Man
