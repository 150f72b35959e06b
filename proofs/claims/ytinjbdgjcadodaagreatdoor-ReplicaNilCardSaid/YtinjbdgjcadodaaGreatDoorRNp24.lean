/- Texts of the law ReplicaNil, put together. -/
import Derived.Deep.RegionHeld3
import Derived.Test.YtinjbdgjcadodaaGreatDoorRNp22
import Derived.Test.YtinjbdgjcadodaaGreatDoorRNp23
set_option linter.unusedVariables false
set_option linter.unusedSimpArgs false
set_option maxRecDepth 100000
namespace Go.Proofs.YtinjbdgjcadodaaGreatDoor.Man
open Go Go.RowKit Words Enc Go.Proofs.YtinjbdgjcadodaaGreatDoor.Made Go.Proofs.YtinjbdgjcadodaaGreatDoor.Tape Vec Dsk
abbrev mT : List UInt8 := [109, 97, 110, 105, 102, 101, 115, 116, 46, 110, 101, 119]
theorem mT_is : mN ++ Sht.suff = mT := rfl
theorem mN_ne : mN ≠ mT := by decide
theorem ok_mN : okName mN = true := by decide +kernel
theorem ok_mT : okName (mN ++ Sht.suff) = true := by decide +kernel
def mayB (m : Mn) : Bool := decide (0 ≤ m.node) && decide (m.node < 64) && foldB m.fold
def fileL (m : Mn) : List UInt8 := Sht.wholeL 109 m.node.toNat m.serial [manL m]
theorem sees_one (w : World) {A : Option Addr} {n c : Nat} {l : List UInt8} (hs : Sees w A n l) (hl : n = l.length) (hc : n ≤ c) : SeesAll (w.alloc (.cells #[.slice A n c] 28)) (some ⟨w.heap.size, 0, none⟩) 1 [l] := by
 have hb : Below w.heap.size w (w.alloc (.cells #[.slice A n c] 28)) := (Below.refl _ _).alloc (Nat.le_refl _) _
 have k1 := hs.below hb
 subst hl
 refine ⟨[.slice A l.length c], (Each.nil _).snoc hc k1, rfl, fun _ => ⟨w.heap.size, 0, rfl, fun j v hv => ?_⟩⟩
 rw [cell_of_row _ w.heap.size (0 + j) _ 28 (0, 0) (heap_alloc_new w _), Nat.zero_add]
 simpa using hv
theorem fileL_len {m : Mn} (h : 0 ≤ m.node ∧ m.node < 64) (hs : m.serial < 18446744073709551616) (hl : (manL m).length ≤ 2000) : (fileL m).length ≤ 2100 ∧ (Sht.wraps [manL m]).length ≤ 2020 := by
 have hh := Sht.headL_len (k := 109) (a := m.node.toNat) (b := m.serial) (by omega) hs
 have ht := (Sht.titleL_len (k := 109) (a := m.node.toNat) (b := m.serial) (by omega) hs).2
 have he := enc_ten (n := (manL m).length) (by omega)
 have hw : (Sht.wraps [manL m]).length ≤ 2020 := by
  simp only [Sht.wraps, List.map_cons, List.map_nil, List.flatten_cons, List.flatten_nil, List.append_nil, wrap_length]
  omega
 refine ⟨?_, hw⟩
 unfold fileL Sht.wholeL
 rw [List.length_append]
 omega
theorem manL_small {m : Mn} (h : 0 ≤ m.node ∧ m.node < 64) (hs : m.serial < 18446744073709551616) (ht : m.time < 18446744073709551616) (hv : Fits m.floor) (hn : m.floor.length ≤ 64) (hf : m.fold.size ≤ 1000) : (manL m).length ≤ 2000 := by
 have h1 := enc_ten (n := m.node.toNat) (by omega)
 have h2 := enc_ten (n := m.serial) hs
 have h3 := lay_fits hv hn
 have h4 := enc_ten (n := m.time) ht
 have h5 := enc_ten (n := m.fold.size) (by omega)
 have h6 := size_list m.fold
 unfold manL
 simp only [List.length_append]
 omega
set_option maxHeartbeats 2000000 in
theorem write_any (d : Nat) (S : List Nat) (files : List File) (h : Hd) (m : Mn) (A : Option Addr) (n c : Nat) (w : World) (T : ∀ W, Beside S w W → Chk.Tabs W) (hd : Disk w d S files h) (hf : h.fits) (hac : h.acts < 999999999980)
  (hm : mayB m = true) (hsr : m.serial < 18446744073709551616) (htm : m.time < 18446744073709551616) (tv : Took2 w A n c m.floor) (hn : n ≤ 64) (ht : sumA files ≤ 900000000) (hfs : files.length < 900000000) :
  Calls Tryz.prog 109 #[.pointer (some ⟨d, 0, none⟩), m.val A n c] w fun e w' => e = .returned (.int .i64 (Sht.swapR h mN mT (fileL m) files).1) ∧ Dsk.Next S w d (Sht.swapR h mN mT (fileL m) files).2.1 (Sht.swapR h mN mT (fileL m) files).2.2 w' := by
 simp only [mayB, Bool.and_eq_true, decide_eq_true_eq] at hm
 obtain ⟨⟨h0, h1⟩, hfo⟩ := hm
 have hfl := foldB_len hfo
 have FO := fun W => fold_may m.fold W (by omega)
 rw [hfo] at FO
 obtain ⟨r, hr⟩ : ∃ r, r = Sht.swapR h mN mT (fileL m) files := ⟨_, rfl⟩
 rw [← hr]
 have HR := Lib.hid hr
 have hvn : m.floor.length = n := tv.1.1
 have hml := manL_small ⟨h0, h1⟩ hsr htm tv.2.1 (by omega) (by omega)
 obtain ⟨hfil, hwr⟩ := fileL_len ⟨h0, h1⟩ hsr hml
 obtain ⟨s1, s2, s3⟩ := Sht.swap_smallN (t := mT) (h := h) (files := files) (q := fileL m) (B := 1000000000) (by omega)
 obtain ⟨f1, f2⟩ := Sht.swap_fewN (t := mT) (h := h) (files := files) (q := fileL m)
 have hS := hd.lt
 have BX := Lib.hid (fun W hW => boxed (m.row A n c) 86 w (W := W) hW)
 -- the three calls
 have ENC : ∀ W, Below (w.heap.size + 1) (w.alloc (.cells (m.row A n c) 86)) W → Calls Tryz.prog 179 #[m.val A n c] W fun e w' => ∃ R rc, e = .returned (.slice R (manL m).length rc) ∧ Hid (w'.ownsRow W.heap.size 5 1 (.slice R (manL m).length rc) (manL m).length (cs (manL m)) ∧ Below W.heap.size W w') := fun W hW =>
  (encode_own m A n c W h0 h1 hsr htm (tv.below (BX.out W hW).1) hn (by omega)).mono fun e w' ⟨R, rc, h1, h2, h3⟩ => ⟨R, rc, h1, Lib.hid ⟨h2, h3⟩⟩
 have SWP : ∀ (W : World) (base : Nat) (R : Option Addr) (rc : Nat), Below (w.heap.size + 1) (w.alloc (.cells (m.row A n c) 86)) W → w.heap.size ≤ base → W.ownsRow base 5 1 (.slice R (manL m).length rc) (manL m).length (cs (manL m)) → Calls Tryz.prog 170 #[.pointer (some ⟨d, 0, none⟩), .string ⟨mN.toArray⟩, Sht.titleV 109 m.node.toNat m.serial, .slice (some ⟨W.heap.size, 0, none⟩) 1 1] (W.alloc (.cells #[.slice R (manL m).length rc] 28)) fun e w' => e = .returned (.int .i64 r.1) ∧ Hid (Dsk.Next S w d r.2.1 r.2.2 w' ∧ Beside S (W.alloc (.cells #[.slice R (manL m).length rc] 28)) w') := fun W base R rc hW hbase own => by
  have hb := (BX.out W hW).1
  have al := (Below.refl W.heap.size W).alloc (Nat.le_refl _) (.cells #[.slice R (manL m).length rc] 28)
  have hb2 := hb.trans (al.mono hb.size)
  have hcap := Own.cap own
  have see := sees_one W (Sees.of_own own) rfl hcap.1
  have := Sht.swap_any d S files h mN 109 m.node.toNat m.serial (some ⟨W.heap.size, 0, none⟩) 1 1 [manL m] (W.alloc (.cells #[.slice R (manL m).length rc] 28)) (fun V hV => T V ((Beside.of_below hb2 S).trans hV fun k hk => .inl hk)) (by omega) hsr (hd.below hb2) hf hac ok_mN ok_mT (by omega) (by omega)
   see (by omega) (by simp; omega) (by omega)
   (fun V hV => by
    have own2 := Own.beside (Own.below own al (Nat.le_refl _)) hV (fun x hx => by have := hS x hx; omega)
    refine ⟨[.slice R (manL m).length rc], (Each.nil _).snoc hcap.1 (Sees.of_own own2), rfl, fun _ => ⟨W.heap.size, 0, rfl, fun j v hv => ?_⟩⟩
    have g := (hV.block W.heap.size (by simp) (fun hm => by have := hS _ hm; have := hb.size; omega)).trans (heap_alloc_new W (.cells #[.slice R (manL m).length rc] 28))
    rw [cell_of_row V W.heap.size (0 + j) _ 28 (0, 0) g, Nat.zero_add]
    simpa using hv)
   (by rw [mT_is]; omega) (by rw [mT_is]; omega) (by rw [mT_is]; exact Nat.le_trans s2 (by omega)) (by rw [mT_is]; exact Nat.le_trans s3 (by omega)) (by rw [mT_is]; exact Nat.lt_of_le_of_lt f2 (by omega))
  rw [mT_is] at this
  have hrr : Sht.swapR h mN mT (Sht.wholeL 109 m.node.toNat m.serial [manL m]) files = r := HR.out.symm
  rw [hrr] at this
  refine this.mono ?_
  rintro e w' ⟨rfl, hn⟩
  exact ⟨rfl, Lib.hid ⟨Dsk.Next.below hb2 hn, by obtain ⟨_, _, hb', _⟩ := hn; exact hb'⟩⟩
 have TITL := fun W => title_man m A n c W h0 h1
 have q0 : decide (m.node < 0) = false := by simp; omega
 have q1 : decide ((64 : Int) ≤ m.node) = false := by simp; omega
 unfold Mn.val at ENC TITL ⊢
 unfold Mn.row at ENC SWP TITL BX ⊢
 unfold Sht.titleV at SWP TITL
 generalize m.node.toNat = K at SWP TITL
 have e109 : ((109 : UInt8).toNat : Int) = 109 := rfl
 rw [e109] at SWP TITL
 have SW := Lib.hid SWP
 have EN := Lib.hid ENC
 have TT := Lib.hid TITL
 have HSS := Lib.hid hS
 have hgz : Hid (∀ k ∈ S, k < w.heap.size) := Lib.hid hS
 generalize (manL m).length = N at SW EN
 clear SWP ENC TITL hS e109 hml hfil hwr s1 s2 s3 f1 f2 hvn tv hd hf T
 go_enter Tryz.func109, Tryz.ntmps109
 go_wp2_with fail
 generalize hW0 : w.alloc (.cells #[.int .i64 m.node, .int .u64 (m.serial : Int), .slice A n c, .int .u64 (m.time : Int), .string m.fold] 86) = W0 at BX SW EN ⊢
 have hz0 : W0.heap.size = w.heap.size + 1 := by rw [← hW0]; simp
 clear hW0
 refine (FO _).mono ?_
 rintro e w1 ⟨rfl, hb1⟩
 have b1 : Below (w.heap.size + 1) W0 w1 := hb1.mono (by omega)
 obtain ⟨-, x1, hz1⟩ := BX.out w1 b1
 have hsz1 := b1.size
 have hsz1' : w.heap.size + 1 ≤ w1.heap.size := by omega
 clear hb1 FO
 obtain ⟨g, hg⟩ : ∃ g, g = w.heap.size := ⟨_, rfl⟩
 rw [← hg] at x1 hz1 ⊢
 have HGG := Lib.hid hg
 have CELLS : ∀ w', Below w1.heap.size w1 w' → (w'.cell? ⟨g, 0, none⟩ = some (.int .i64 m.node) ∧ w'.cell? ⟨g, 1, none⟩ = some (.int .u64 (m.serial : Int)) ∧ w'.cell? ⟨g, 2, none⟩ = some (.slice A n c) ∧ w'.cell? ⟨g, 3, none⟩ = some (.int .u64 (m.time : Int)) ∧ w'.cell? ⟨g, 4, none⟩ = some (.string m.fold)) ∧ g < w'.heap.size ∧ ¬ g = w'.heap.size := fun w' hb => by
  have := (hb.block g (Array.getElem?_eq_some_iff.1 x1).1).trans x1
  have h2 := (Array.getElem?_eq_some_iff.1 this).1
  exact ⟨box5 this, h2, by omega⟩
 have T1 : ∀ W, Below w1.heap.size w1 W → Calls Tryz.prog 177 #[.agg #[.int .i64 m.node, .int .u64 (m.serial : Int), .slice A n c, .int .u64 (m.time : Int), .string m.fold]] W fun e w' => e = .returned (.agg #[.int .u8 109, .int .u64 (K : Int), .int .u64 (m.serial : Int)]) ∧ Hid (Below w1.heap.size w1 w') ∧ (w'.cell? ⟨g, 0, none⟩ = some (.int .i64 m.node) ∧ w'.cell? ⟨g, 1, none⟩ = some (.int .u64 (m.serial : Int)) ∧ w'.cell? ⟨g, 2, none⟩ = some (.slice A n c) ∧ w'.cell? ⟨g, 3, none⟩ = some (.int .u64 (m.time : Int)) ∧ w'.cell? ⟨g, 4, none⟩ = some (.string m.fold)) ∧ g < w'.heap.size ∧ ¬ g = w'.heap.size := fun W hW => by
  refine (TT.out W).mono ?_
  rintro e w' ⟨rfl, hb⟩
  have hb' := hW.trans (hb.mono hW.size)
  exact ⟨rfl, Lib.hid hb', CELLS w' hb'⟩
 have E1 : ∀ W, Below w1.heap.size w1 W → Calls Tryz.prog 179 #[.agg #[.int .i64 m.node, .int .u64 (m.serial : Int), .slice A n c, .int .u64 (m.time : Int), .string m.fold]] W fun e w' => ∃ R rc, e = .returned (.slice R N rc) ∧ Hid (w'.ownsRow w.heap.size 5 1 (.slice R N rc) N (cs (manL m)) ∧ Below w1.heap.size w1 w') ∧ (w'.cell? ⟨g, 0, none⟩ = some (.int .i64 m.node) ∧ w'.cell? ⟨g, 1, none⟩ = some (.int .u64 (m.serial : Int)) ∧ w'.cell? ⟨g, 2, none⟩ = some (.slice A n c) ∧ w'.cell? ⟨g, 3, none⟩ = some (.int .u64 (m.time : Int)) ∧ w'.cell? ⟨g, 4, none⟩ = some (.string m.fold)) ∧ g < w'.heap.size ∧ ¬ g = w'.heap.size := fun W hW => by
  refine (EN.out W (b1.trans (hW.mono hsz1'))).mono ?_
  rintro e w' ⟨R, rc, rfl, h⟩
  have hb' := hW.trans (h.out.2.mono hW.size)
  exact ⟨R, rc, rfl, Lib.hid ⟨Own.lower h.out.1 (by have := hW.size; omega), hb'⟩, CELLS w' hb'⟩
 have S1 : ∀ W R rc, Hid (W.ownsRow w.heap.size 5 1 (.slice R N rc) N (cs (manL m)) ∧ Below w1.heap.size w1 W) → Calls Tryz.prog 170 #[.pointer (some ⟨d, 0, none⟩), .string ⟨mN.toArray⟩, .agg #[.int .u8 109, .int .u64 (K : Int), .int .u64 (m.serial : Int)], .slice (some ⟨W.heap.size, 0, none⟩) 1 1] (W.alloc (.cells #[.slice R N rc] 28)) fun e w' => e = .returned (.int .i64 r.1) ∧ Hid (Dsk.Next S w d r.2.1 r.2.2 w') ∧ (w'.cell? ⟨g, 0, none⟩ = some (.int .i64 m.node) ∧ w'.cell? ⟨g, 1, none⟩ = some (.int .u64 (m.serial : Int)) ∧ w'.cell? ⟨g, 2, none⟩ = some (.slice A n c) ∧ w'.cell? ⟨g, 3, none⟩ = some (.int .u64 (m.time : Int)) ∧ w'.cell? ⟨g, 4, none⟩ = some (.string m.fold)) := fun W R rc h => by
  refine (SW.out W w.heap.size R rc (b1.trans (h.out.2.mono hsz1')) (Nat.le_refl _) h.out.1).mono ?_
  rintro e w' ⟨rfl, hn⟩
  have hal := h.out.2.trans (((Below.refl W.heap.size W).alloc (Nat.le_refl _) (.cells #[.slice R N rc] 28)).mono h.out.2.size)
  have hx := (hal.block g (Array.getElem?_eq_some_iff.1 x1).1).trans x1
  have hx2 := (hn.out.2.block g (Array.getElem?_eq_some_iff.1 hx).1 (fun hm => by have := HSS.out _ hm; have := HGG.out; omega)).trans hx
  exact ⟨rfl, Lib.hid hn.out.1, box5 hx2⟩
 obtain ⟨p0, p1, p2, p3, p4⟩ := box5 x1
 clear CELLS x1 hgz BX hg
 go_wp2_with fail
 go_region_held3 (fun w' => w'.cell? ⟨g, 0, none⟩ = some (.int .i64 m.node) ∧ w'.cell? ⟨g, 1, none⟩ = some (.int .u64 (m.serial : Int)) ∧ w'.cell? ⟨g, 2, none⟩ = some (.slice A n c) ∧ w'.cell? ⟨g, 3, none⟩ = some (.int .u64 (m.time : Int)) ∧ w'.cell? ⟨g, 4, none⟩ = some (.string m.fold)) (go_keep)
  (first
   | (go_at_call 177
      refine (T1 _ ?h0).mono ?_
      case h0 => first | exact Below.refl _ _ | exact (Below.refl _ _).drew
      rintro e w6 ⟨rfl, HB6, ⟨p0, p1, p2, p3, p4⟩, hz6, hn6⟩)
   | (go_at_call 179
      refine (E1 _ ?h1).mono ?_
      case h1 => exact HB6.out
      rintro e w7 ⟨R, rc, rfl, HB7, ⟨p0, p1, p2, p3, p4⟩, hz7, hn7⟩)
   | (go_at_call 170
      refine (S1 _ _ _ ?h2).mono ?_
      case h2 => exact HB7
      rintro e w8 ⟨rfl, HN8, ⟨p0, p1, p2, p3, p4⟩⟩))
 go_wp2
 go_ret
 first
  | exact ⟨rfl, HN8.out⟩
  | exact ⟨by rw [HR.out]; rfl, HN8.out⟩
end Go.Proofs.YtinjbdgjcadodaaGreatDoor.Man
