/- Texts of the law ReplicaNil, put together. -/
import Derived.Deep.MidRow
import Derived.StillTailTactics
import Derived.Deep.RegionHeld3
import Derived.Test.YtinjbdgjcadodaaGreatDoorRNp02
import Derived.Test.YtinjbdgjcadodaaGreatDoorRNp07
import Derived.Test.YtinjbdgjcadodaaGreatDoorRNp08
import Derived.Test.YtinjbdgjcadodaaGreatDoorRNp14
import Derived.Test.YtinjbdgjcadodaaGreatDoorRNp18
import Derived.Test.YtinjbdgjcadodaaGreatDoorRNp19
import Derived.Test.YtinjbdgjcadodaaGreatDoorRNp21
import Derived.Test.YtinjbdgjcadodaaGreatDoorRNp24
import Derived.Test.YtinjbdgjcadodaaGreatDoorRNp25
set_option linter.unusedVariables false
set_option linter.unusedSimpArgs false
set_option maxRecDepth 100000
namespace Go.Proofs.YtinjbdgjcadodaaGreatDoor.St
open Go Go.RowKit Words Enc Go.Proofs.YtinjbdgjcadodaaGreatDoor.Made Dsk Seg
def mn0 (nd : Nat) : Man.Mn := ⟨(nd : Int), 1, [], 0, ⟨#[]⟩⟩
def mbytes (nd : Nat) : List UInt8 := Man.fileL (mn0 nd)
def mfile (nd : Nat) : File := ⟨Man.mN, mbytes nd, (mbytes nd).length⟩
theorem mn0_fits (nd : Nat) : Vec.Fits (mn0 nd).floor := fun j => by simp [mn0, Vec.at_]
theorem mn0_may {nd : Nat} (h : nd < 64) : Man.mayB (mn0 nd) = true := by
 have h1 : decide ((0 : Int) ≤ (nd : Int)) = true := decide_eq_true (by omega)
 have h2 : decide ((nd : Int) < 64) = true := decide_eq_true (by omega)
 show (decide ((0 : Int) ≤ (nd : Int)) && decide ((nd : Int) < 64) && Man.foldB ⟨#[]⟩) = true
 rw [h1, h2]
 rfl
theorem mbytes_len {nd : Nat} (h : nd < 64) : (mbytes nd).length ≤ 2100 := by
 have hn : 0 ≤ (mn0 nd).node ∧ (mn0 nd).node < 64 := by simp only [mn0]; omega
 exact (Man.fileL_len hn (by simp [mn0]) (Man.manL_small hn (by simp [mn0]) (by simp [mn0]) (mn0_fits nd) (by simp [mn0]) (by show (0 : Nat) ≤ 1000; omega))).1
theorem StoAt.setM {w : World} {g : Nat} {s : Sto} (h : StoAt w g s) (nd : Int) (sr tm : Nat) (fl : Value) (fo : ByteArray) :
  StoAt (w.setCells g 2 [.int .i64 nd, .int .u64 (sr : Int), fl, .int .u64 (tm : Int), .string fo]) g { s with node := nd, ser := sr, fl := fl, tm := tm, fo := fo } := by
 refine ⟨?_, ⟨h.ok.f, h.ok.j, h.ok.r⟩⟩
 have := heapSame (i := 6) (v := .string fo) (heapSame (i := 5) (v := .int .u64 (tm : Int)) (heapSame (i := 4) (v := fl) (heapSame (i := 3) (v := .int .u64 (sr : Int)) (heapSame (i := 2) (v := .int .i64 nd) h.row))))
 refine Eq.trans this ?_
 unfold Sto.row
 simp only [List.setIfInBounds_toArray]
 rfl
theorem setM_beside (w : World) (g : Nat) (a b c d e : Value) : Beside [g] w (w.setCells g 2 [a, b, c, d, e]) :=
 (((((Beside.refl [g] w).setCell (by simp) a).setCell (by simp) b).setCell (by simp) c).setCell (by simp) d).setCell (by simp) e
set_option maxHeartbeats 1000000 in
theorem identify_0 (g nd C : Nat) (s : Sto) (S : List Nat) (w : World) (hs : StoAt w g s) (hd : Disk w s.d S [] ⟨(C : Int), 0, -1, 0, false⟩) (hgS : g ∉ S) (T : TabsOn S w) (hnd : nd < 64) (hC : 10000 ≤ C ∧ C ≤ 1000000) :
  Calls Tryz.prog 58 #[.pointer (some ⟨g, 0, none⟩), .int .i64 (nd : Int)] w fun e w' => e = .returned (.int .i64 0) ∧ StoAt w' g { s with node := (nd : Int), ser := 1, fl := .slice none 0 0, tm := 0, fo := ⟨#[]⟩ } ∧ Beside (g :: S) w w' ∧ ∃ S', Disk w' s.d S' [mfile nd] ⟨(C : Int), 4, -1, 0, false⟩ ∧ (∀ k ∈ S', k ∈ S ∨ w.heap.size ≤ k) := by
 have hg0 := hs.lt
 have RD := (Man.read_err s.d 2 w (.inl rfl) fun W hW => (Sht.read_none s.d S [] _ Man.mN W (hd.below hW) (by simp) (by simp [sumA]) rfl (by simp [lookA])))
 rw [show Man.errM 2 = 2 from rfl] at RD
 have RD := Lib.hid RD
 have HS := Lib.hid hs
 have HD := Lib.hid hd
 have HT := Lib.hid T
 have HM := Lib.hid (And.intro (mn0_may hnd) (mbytes_len hnd))
 have HC := Lib.hid hC
 have HGS := Lib.hid hgS
 obtain ⟨c0, _⟩ := hs.head
 clear hs hd T hgS hC
 go_enter Tryz.func58, Tryz.ntmps58
 go_wp2_with fail
 refine RD.out.mono ?_
 rintro e w1 ⟨rfl, hb1⟩
 have B1 := Lib.hid hb1
 have ha1 : Below w1.heap.size w1 (w1.alloc (.cells #[.int .i64 0, .int .u64 0, .slice none 0 0, .int .u64 0, .string ⟨#[]⟩] 86)) := (Below.refl _ _).alloc (Nat.le_refl _) _
 have Z1 := Lib.hid (heap_alloc_new w1 (.cells #[.int .i64 0, .int .u64 0, .slice none 0 0, .int .u64 0, .string ⟨#[]⟩] 86))
 have HA1 := Lib.hid (B1.out.trans (ha1.mono B1.out.size))
 clear hb1 ha1
 unfold Man.zeroM
 go_wp2_with (first | (refine wpList_putRow rfl 86 (.tmp 5) (.tmp 13) rfl w1.heap.size 86 #[.int .i64 0, .int .u64 0, .slice none 0 0, .int .u64 0, .string ⟨#[]⟩] #[.int .i64 0, .int .u64 0, .slice none 0 0, .int .u64 0, .string ⟨#[]⟩] rfl rfl ?g1 (by kernel_rfl) rfl (by simp [Value.oneCell']) ?_))
 case g1 => exact Z1.out
 intro w2 hW2 hbe2
 have hbS : ∀ k ∈ [w1.heap.size], w.heap.size ≤ k := fun k hk => by simp at hk; have := B1.out.size; omega
 have B2 := Lib.hid (Below.beside HA1.out hbe2 HA1.out.size hbS)
 have G2 := Lib.hid hW2
 clear hW2 hbe2 Z1 HA1
 go_wp2_with (first | (refine wpList_putRow rfl 86 (.tmp 5) (.tmp 19) rfl w1.heap.size 86 #[.int .i64 0, .int .u64 0, .slice none 0 0, .int .u64 0, .string ⟨#[]⟩] #[.int .i64 (nd : Int), .int .u64 1, .slice none 0 0, .int .u64 0, .string ⟨#[]⟩] rfl rfl ?g1 (by kernel_rfl) rfl (by simp [Value.oneCell']) ?_))
 case g1 => exact G2.out
 intro w3 hW3 hbe3
 have B3 := Lib.hid (Below.beside B2.out hbe3 B2.out.size hbS)
 obtain ⟨m, hm⟩ : ∃ m, m = w1.heap.size := ⟨_, rfl⟩
 rw [← hm] at hW3
 have hmw : w.heap.size ≤ m := by rw [hm]; exact B1.out.size
 have hml := (Array.getElem?_eq_some_iff.1 hW3).1
 have hs3 := HS.out.below B3.out
 have hd3 := HD.out.below B3.out
 have c03 := hs3.head.1
 obtain ⟨m0, m1, m2, m3, m4⟩ := Man.box5 hW3
 have hbd : Below w.heap.size w w3.drew := B3.out.drew
 have WR := Man.write_any s.d S [] _ (mn0 nd) none 0 0 w3.drew (fun W hW => ((HT.out.below hbd) W hW).1) (HD.out.below hbd) (Sht.hd_fits5 (by have := HC.out; simp only []; omega) (by have := HC.out; simp only []; omega) (by simp) (by simp) (by simp) (by simp) (by simp)) (by simp) HM.out.1 (by simp [mn0]) (by simp [mn0]) ⟨Vec.SeesU.nil _ _, mn0_fits nd, Nat.le_refl _, by omega, by omega⟩ (by omega) (by simp [sumA]) (by simp)
 rw [Sht.swap_newN Man.mN_ne (room := (C : Int)) (left := -1) (torn := 0) (acts := 0) (q := Man.fileL (mn0 nd)) (by decide) (by have := HM.out.2; have := HC.out; show ((mbytes nd).length : Int) ≤ _; omega)] at WR
 have WR := Lib.hid WR
 have G3 := Lib.hid hW3
 have HB3 := Lib.hid hbd
 have HMM := Lib.hid (And.intro hm (And.intro hmw hml))
 rw [← hm]
 clear hm hs3 hd3 hbd hW3 hbe3 B2 G2 hbS c0 hmw hml
 unfold Man.Mn.val Man.Mn.row mn0 at WR
 go_wp2
 go_still_tail 5, (by kernel_rfl)
 change wpList _ _ _ _ _ w3.drew
 go_wp2_with fail
 refine WR.out.mono ?_
 rintro e w4 ⟨rfl, S', hd4, hb4, hk4⟩
 obtain ⟨hm, hmw, hml⟩ := HMM.out
 have hmS : m ∉ S := fun h => by have := HD.out.lt _ h; omega
 have hgS := HGS.out
 have G4 := (hb4.block m (show m < w3.drew.heap.size from hml) hmS).trans (show w3.drew.heap[m]? = _ from G3.out)
 obtain ⟨m0, m1, m2, m3, m4⟩ := Man.box5 G4
 have hs4 := (HS.out.below HB3.out).beside hb4 hgS
 have FIN := Lib.hid (And.intro (hs4.setM (nd : Int) 1 0 (.slice none 0 0) ⟨#[]⟩) (And.intro ((((Beside.of_below HB3.out (g :: S)).trans hb4 fun k hk => .inl (List.mem_cons.2 (.inr hk)))).trans (setM_beside w4 g (.int .i64 (nd : Int)) (.int .u64 ((1 : Nat) : Int)) (.slice none 0 0) (.int .u64 ((0 : Nat) : Int)) (.string ⟨#[]⟩)) fun k hk => .inl (by simp at hk; simp [hk]))
  (And.intro (hd4.beside (setM_beside w4 g (.int .i64 (nd : Int)) (.int .u64 ((1 : Nat) : Int)) (.slice none 0 0) (.int .u64 ((0 : Nat) : Int)) (.string ⟨#[]⟩)) (fun k hk hm => by
   simp at hk
   subst hk
   exact (hk4 _ hm).elim hgS (fun h => by have := HS.out.lt; have := HB3.out.size; omega))) (fun k hk => (hk4 k hk).imp id (fun h => Nat.le_trans HB3.out.size h)))))
 have TH : w4.there g 2 5 := fun j hj => by
  have hr := hs4.row
  refine ⟨?_, frozen_row0 hr⟩
  rw [cell_of_row w4 g _ _ _ _ hr]
  have hz := row_size hs4.ok
  rw [Array.getElem?_eq_getElem (by omega)]
  rfl
 have HTH := Lib.hid TH
 have G4H := Lib.hid G4
 clear hd4 hb4 hk4 hs4 hgS hmS TH c03 WR G3 G4 hm hmw hml
 go_wp2_with (first
  | (refine wpList_getRow rfl 86 (.tmp 5) rfl m 86 #[.int .i64 (nd : Int), .int .u64 1, .slice none 0 0, .int .u64 0, .string ⟨#[]⟩] (0, 0) _ rfl G4H.out Tryz.underlying86 rfl (by kernel_rfl) ?_)
  | (refine wpList_store_mid rfl 86 (.tmp 38) (.tmp 36) rfl g 2 #[.int .i64 (nd : Int), .int .u64 1, .slice none 0 0, .int .u64 0, .string ⟨#[]⟩] rfl rfl HTH.out (by kernel_rfl) (by simp [Value.oneCell']) ?_))
 go_ret
 exact ⟨rfl, FIN.out.1, FIN.out.2.1, S', FIN.out.2.2.1, FIN.out.2.2.2⟩
end Go.Proofs.YtinjbdgjcadodaaGreatDoor.St
namespace Go.Proofs.YtinjbdgjcadodaaGreatDoor.St
open Go Go.RowKit Words Enc Go.Proofs.YtinjbdgjcadodaaGreatDoor.Made Dsk Seg Fol
theorem newF_zero (n j : Nat) : Vec.at_ (newF n).H j = 0 := by
 unfold Vec.at_ newF
 simp only [List.getD_eq_getElem?_getD, List.getElem?_replicate]
 split <;> rfl
theorem newF_trim (n k : Nat) : Vec.trimN (newF n).H k = 0 := by
 induction k with
 | zero => rfl
 | succ k ih => simp [Vec.trimN, newF_zero, ih]
theorem noText {w : World} {S : List Nat} {d mb : Nat} {F : Fo} (h : FoldAt w S d mb F) (hL : F.L = []) (S1 : List Nat) (hd : d ∈ S1) (hm : mb ∈ S1) : FoldAt w S1 d mb F := by
 obtain ⟨L, h1, h2, _⟩ := h.map
 have h0 : L = [] := by
  have := congrArg List.length h2
  rw [hL, mapV_len] at this
  exact List.eq_nil_of_length_eq_zero (by simpa using this)
 subst h0
 exact ⟨h.row, ⟨[], h1, h2, fun p hp => by cases hp⟩, h.ok, h.ne, hd, hm⟩
set_option maxHeartbeats 1000000 in
theorem readFold_0 (g n : Nat) (s : Sto) (w : World) (hs : StoAt w g s) (hfo : s.fo = ⟨#[]⟩) (hfl : s.fl = .slice none 0 0) (hn : n ≤ 64) :
  Calls Tryz.prog 59 #[.pointer (some ⟨g, 0, none⟩), .int .i64 (n : Int)] w fun e w' => e = .returned (.int .i64 0) ∧ ∃ db mb, FoldAt w' [db, mb, g] db mb (newF n) ∧ w.heap.size ≤ db ∧ w.heap.size ≤ mb ∧ StoAt w' g { s with base := .pointer (some ⟨db, 0, none⟩) } ∧ Beside [g] w w' := by
 have hg0 := hs.lt
 have HS := Lib.hid hs
 have CELLS := fun (W : World) (hW : Below w.heap.size w W) => (by
  obtain ⟨_, _, c2, c3, c4, c5, c6, c7⟩ := (hs.below hW).head
  rw [hfo] at c6
  rw [hfl] at c4
  exact ⟨c2, c3, c4, c5, c6, (hs.below hW).lt⟩ : W.cell? ⟨g, 2, none⟩ = some (.int .i64 s.node) ∧ W.cell? ⟨g, 3, none⟩ = some (.int .u64 (s.ser : Int)) ∧ W.cell? ⟨g, 4, none⟩ = some (.slice none 0 0) ∧ W.cell? ⟨g, 5, none⟩ = some (.int .u64 (s.tm : Int)) ∧ W.cell? ⟨g, 6, none⟩ = some (.string ⟨#[]⟩) ∧ g < W.heap.size)
 have NEW : ∀ W, Below w.heap.size w W → Calls Tryz.prog 110 #[.int .i64 (n : Int)] W fun e w' => ∃ db mb, e = .returned (.pointer (some ⟨db, 0, none⟩)) ∧ Hid (Below w.heap.size w w' ∧ FoldAt w' [db, mb] db mb (newF n) ∧ W.heap.size ≤ db ∧ W.heap.size ≤ mb ∧ Below W.heap.size W w') ∧ w'.cell? ⟨g, 2, none⟩ = some (.int .i64 s.node) ∧ w'.cell? ⟨g, 3, none⟩ = some (.int .u64 (s.ser : Int)) ∧ w'.cell? ⟨g, 4, none⟩ = some (.slice none 0 0) ∧ w'.cell? ⟨g, 5, none⟩ = some (.int .u64 (s.tm : Int)) ∧ w'.cell? ⟨g, 6, none⟩ = some (.string ⟨#[]⟩) ∧ g < w'.heap.size := fun W hW => by
  refine (new_any n hn W).mono ?_
  rintro e w' ⟨rfl, hF, hb⟩
  have hb2 := hW.trans (hb.mono hW.size)
  exact ⟨_, _, rfl, Lib.hid ⟨hb2, hF, by omega, by omega, hb⟩, CELLS _ hb2⟩
 have HC := Lib.hid CELLS
 obtain ⟨c2, c3, c4, c5, c6, hgl⟩ := CELLS w (Below.refl _ _)
 have hgw : ¬ g = w.heap.size := by omega
 have hgw' : ¬ w.heap.size = g := by omega
 clear hs hfo hfl CELLS
 go_enter Tryz.func59, Tryz.ntmps59
 go_upto_region 1 with fail
 go_region_held3 (fun w' => w'.cell? ⟨g, 2, none⟩ = some (.int .i64 s.node) ∧ w'.cell? ⟨g, 3, none⟩ = some (.int .u64 (s.ser : Int)) ∧ w'.cell? ⟨g, 4, none⟩ = some (.slice none 0 0) ∧ w'.cell? ⟨g, 5, none⟩ = some (.int .u64 (s.tm : Int)) ∧ w'.cell? ⟨g, 6, none⟩ = some (.string ⟨#[]⟩)) (go_keep)
  (first
   | (go_at_call 110
      refine (NEW _ ?h1).mono ?_
      case h1 => first | exact Below.refl _ _ | exact (Below.refl _ _).drew | exact (Below.refl _ _).alloc (Nat.le_refl _) _ | exact ((Below.refl _ _).alloc (Nat.le_refl _) _).drew
      rintro e w6 ⟨db, mb, rfl, HN, c2, c3, c4, c5, c6, hgl⟩
      try (have kb := (HN.out.2.2.2.2.block w.heap.size (by simp)).trans (heap_alloc_new w (.cells #[.int .i64 0, .int .u64 0, .slice none 0 0, .int .u64 0, .string ⟨#[]⟩] 86))
           obtain ⟨k0, k1, k2, k3, k4⟩ := Man.box5 kb
           have y0 := frozen_row0 (i := 0) kb
           have y1 := frozen_row0 (i := 1) kb
           have y2 := frozen_row0 (i := 2) kb
           have y3 := frozen_row0 (i := 3) kb
           have y4 := frozen_row0 (i := 4) kb
           have hkl := (Array.getElem?_eq_some_iff.1 kb).1)))
 ·have hal := (Below.refl w6.heap.size w6).alloc (Nat.le_refl _) (.cells #[.int .i64 s.node, .int .u64 (s.ser : Int), .slice none 0 0, .int .u64 (s.tm : Int), .string ⟨#[]⟩] 86)
  have HB7 := Lib.hid (HN.out.1.trans (hal.mono HN.out.1.size))
  have G7 := Lib.hid (heap_alloc_new w6 (.cells #[.int .i64 s.node, .int .u64 (s.ser : Int), .slice none 0 0, .int .u64 (s.tm : Int), .string ⟨#[]⟩] 86))
  have hF7 := HN.out.2.1.below hal
  have HDB := Lib.hid (show w.heap.size ≤ db ∧ w.heap.size ≤ mb ∧ g < w.heap.size from ⟨HN.out.2.2.1, HN.out.2.2.2.1, hg0⟩)
  clear hal
  generalize w6.alloc (.cells #[.int .i64 s.node, .int .u64 (s.ser : Int), .slice none 0 0, .int .u64 (s.tm : Int), .string ⟨#[]⟩] 86) = w7 at HB7 G7 hF7 ⊢
  obtain ⟨m, hm⟩ : ∃ m, m = w6.heap.size := ⟨_, rfl⟩
  rw [← hm] at G7 ⊢
  clear hm HN
  have HS7 := Lib.hid (HS.out.below HB7.out)
  have HF7 := Lib.hid (noText hF7 rfl [db, mb, g] (by simp) (by simp))
  obtain ⟨m0, m1, m2, m3, m4⟩ := Man.box5 G7.out
  have HML := Lib.hid (Array.getElem?_eq_some_iff.1 G7.out).1
  have BX := fun (W : World) (hW : Below w7.heap.size w7 W) => (Man.box5 ((hW.block m HML.out).trans G7.out)).2.2.1
  have HAVE : ∀ W, Below w7.heap.size w7 W → Calls Tryz.prog 112 #[.pointer (some ⟨db, 0, none⟩)] W fun e w' => ∃ R rc, e = .returned (.slice R 0 rc) ∧ Hid (Below w7.heap.size w7 w' ∧ rc ≤ 9223372036854775807) ∧ w'.cell? ⟨m, 2, none⟩ = some (.slice none 0 0) := fun W hW => by
   refine (have_any _ db mb (newF n) W (HF7.out.below hW)).mono ?_
   rintro e w' ⟨R, rc, rfl, ho, hb⟩
   rw [newF_trim] at ho ⊢
   have hb2 := hW.trans (hb.mono hW.size)
   exact ⟨R, rc, rfl, Lib.hid ⟨hb2, (own_cap8 ho).2⟩, BX _ hb2⟩
  have SAME : ∀ W R rc, Below w7.heap.size w7 W → rc ≤ 9223372036854775807 → Calls Tryz.prog 84 #[.slice R 0 rc, .slice none 0 0] W fun e w' => e = .returned (.bool true) ∧ Hid (Below w7.heap.size w7 w') ∧ w'.cell? ⟨m, 2, none⟩ = some (.slice none 0 0) := fun W R rc hW hrc => by
   refine (Vec.same_any R none 0 rc 0 0 [] [] W ⟨Vec.SeesU.nil _ _, fun j => by simp [Vec.at_], by omega, by omega, by omega⟩ ⟨Vec.SeesU.nil _ _, fun j => by simp [Vec.at_], by omega, by omega, by omega⟩).mono ?_
   rintro e w' ⟨rfl, hb⟩
   have hb2 := hW.trans (hb.mono hW.size)
   exact ⟨rfl, Lib.hid hb2, BX _ hb2⟩
  clear BX hF7 m0 m1 m3 NEW c2 c3 c4 c5 c6 hgl
  go_upto_region 7 with fail
  go_region_held3 (fun w' => w'.cell? ⟨m, 2, none⟩ = some (.slice none 0 0)) (go_keep)
   (first
    | (go_at_call 112
       refine (HAVE _ ?h1).mono ?_
       case h1 => first | exact Below.refl _ _ | exact (Below.refl _ _).drew
       rintro e w8 ⟨R, rc, rfl, HH, m2⟩)
    | (go_at_call 84
       refine (SAME _ _ _ ?h1 HH.out.2).mono ?_
       case h1 => first | exact HH.out.1 | exact HH.out.1.drew
       rintro e w9 ⟨rfl, HN9, m2⟩))
  have hs9 := HS7.out.below HN9.out
  obtain ⟨_, _, _, _, _, _, _, c7⟩ := hs9.head
  have y7 := hs9.frozen 7
  have hg9 := hs9.lt
  have b79 := HB7.out.trans (HN9.out.mono HB7.out.size)
  have FIN := Lib.hid (And.intro ((HF7.out.below HN9.out).beside (S1 := [g]) ((Beside.refl _ w9).setCell (p := ⟨g, 7, none⟩) (by simp) (.pointer (some ⟨db, 0, none⟩))) (fun x hx => by
   simp at hx
   subst hx
   have := HDB.out
   exact .inl ⟨by simp, by omega, by omega⟩)) (And.intro (hs9.setBase (.pointer (some ⟨db, 0, none⟩))) ((Beside.of_below b79 [g]).trans ((Beside.refl _ w9).setCell (p := ⟨g, 7, none⟩) (by simp) (.pointer (some ⟨db, 0, none⟩))) fun k hk => .inl hk)))
  clear hs9 b79 m4
  go_wp2
  go_ret
  exact ⟨rfl, db, mb, FIN.out.1, HDB.out.1, HDB.out.2.1, FIN.out.2.1, FIN.out.2.2⟩
 ·have G7 := Lib.hid (show (((((w6.setCell ⟨w.heap.size, 0, none⟩ (.int .i64 s.node)).setCell ⟨w.heap.size, 1, none⟩ (.int .u64 (s.ser : Int))).setCell ⟨w.heap.size, 2, none⟩ (.slice none 0 0)).setCell ⟨w.heap.size, 3, none⟩ (.int .u64 (s.tm : Int))).setCell ⟨w.heap.size, 4, none⟩ (.string ⟨#[]⟩)).heap[w.heap.size]? = some (.cells #[.int .i64 s.node, .int .u64 (s.ser : Int), .slice none 0 0, .int .u64 (s.tm : Int), .string ⟨#[]⟩] 86 (0, 0)) from (heapSame (i := 4) (v := .string ⟨#[]⟩) (heapSame (i := 3) (v := .int .u64 (s.tm : Int)) (heapSame (i := 2) (v := .slice none 0 0) (heapSame (i := 1) (v := .int .u64 (s.ser : Int)) (heapSame (i := 0) (v := .int .i64 s.node) kb))))).trans rfl)
  have hbe : Beside [w.heap.size] w6 (((((w6.setCell ⟨w.heap.size, 0, none⟩ (.int .i64 s.node)).setCell ⟨w.heap.size, 1, none⟩ (.int .u64 (s.ser : Int))).setCell ⟨w.heap.size, 2, none⟩ (.slice none 0 0)).setCell ⟨w.heap.size, 3, none⟩ (.int .u64 (s.tm : Int))).setCell ⟨w.heap.size, 4, none⟩ (.string ⟨#[]⟩)) :=
   (((((Beside.refl [w.heap.size] w6).setCell (by simp) _).setCell (by simp) _).setCell (by simp) _).setCell (by simp) _).setCell (by simp) _
  have HB7 := Lib.hid (Below.beside HN.out.1 hbe HN.out.1.size (by simp))
  have hlo : (w.alloc (.cells #[.int .i64 0, .int .u64 0, .slice none 0 0, .int .u64 0, .string ⟨#[]⟩] 86)).heap.size ≤ db ∧ (w.alloc (.cells #[.int .i64 0, .int .u64 0, .slice none 0 0, .int .u64 0, .string ⟨#[]⟩] 86)).heap.size ≤ mb := ⟨HN.out.2.2.1, HN.out.2.2.2.1⟩
  have hw6 : mb < w6.heap.size := HN.out.2.1.lt.2
  have hsz : w.heap.size + 1 ≤ (w.alloc (.cells #[.int .i64 0, .int .u64 0, .slice none 0 0, .int .u64 0, .string ⟨#[]⟩] 86)).heap.size := by simp
  have hF7 := (noText HN.out.2.1 rfl [db, mb, w.heap.size] (by simp) (by simp)).beside hbe (fun x hx => by
   simp at hx
   subst hx
   exact .inl ⟨by simp, by omega, by omega⟩)
  have HDB := Lib.hid (show w.heap.size ≤ db ∧ w.heap.size ≤ mb ∧ g < w.heap.size by omega)
  clear hbe hlo hsz kb k0 k1 k2 k3 k4 y0 y1 y2 y3 y4
  generalize ((((w6.setCell ⟨w.heap.size, 0, none⟩ (.int .i64 s.node)).setCell ⟨w.heap.size, 1, none⟩ (.int .u64 (s.ser : Int))).setCell ⟨w.heap.size, 2, none⟩ (.slice none 0 0)).setCell ⟨w.heap.size, 3, none⟩ (.int .u64 (s.tm : Int))).setCell ⟨w.heap.size, 4, none⟩ (.string ⟨#[]⟩) = w7 at HB7 G7 hF7 ⊢
  obtain ⟨m, hm⟩ : ∃ m, m = w.heap.size := ⟨_, rfl⟩
  rw [← hm] at G7 ⊢
  clear HN hm hgw hgw'
  have HS7 := Lib.hid (HS.out.below HB7.out)
  have HF7 := Lib.hid (noText hF7 rfl [db, mb, g] (by simp) (by simp))
  obtain ⟨m0, m1, m2, m3, m4⟩ := Man.box5 G7.out
  have HML := Lib.hid (Array.getElem?_eq_some_iff.1 G7.out).1
  have BX := fun (W : World) (hW : Below w7.heap.size w7 W) => (Man.box5 ((hW.block m HML.out).trans G7.out)).2.2.1
  have HAVE : ∀ W, Below w7.heap.size w7 W → Calls Tryz.prog 112 #[.pointer (some ⟨db, 0, none⟩)] W fun e w' => ∃ R rc, e = .returned (.slice R 0 rc) ∧ Hid (Below w7.heap.size w7 w' ∧ rc ≤ 9223372036854775807) ∧ w'.cell? ⟨m, 2, none⟩ = some (.slice none 0 0) := fun W hW => by
   refine (have_any _ db mb (newF n) W (HF7.out.below hW)).mono ?_
   rintro e w' ⟨R, rc, rfl, ho, hb⟩
   rw [newF_trim] at ho ⊢
   have hb2 := hW.trans (hb.mono hW.size)
   exact ⟨R, rc, rfl, Lib.hid ⟨hb2, (own_cap8 ho).2⟩, BX _ hb2⟩
  have SAME : ∀ W R rc, Below w7.heap.size w7 W → rc ≤ 9223372036854775807 → Calls Tryz.prog 84 #[.slice R 0 rc, .slice none 0 0] W fun e w' => e = .returned (.bool true) ∧ Hid (Below w7.heap.size w7 w') ∧ w'.cell? ⟨m, 2, none⟩ = some (.slice none 0 0) := fun W R rc hW hrc => by
   refine (Vec.same_any R none 0 rc 0 0 [] [] W ⟨Vec.SeesU.nil _ _, fun j => by simp [Vec.at_], by omega, by omega, by omega⟩ ⟨Vec.SeesU.nil _ _, fun j => by simp [Vec.at_], by omega, by omega, by omega⟩).mono ?_
   rintro e w' ⟨rfl, hb⟩
   have hb2 := hW.trans (hb.mono hW.size)
   exact ⟨rfl, Lib.hid hb2, BX _ hb2⟩
  clear BX hF7 m0 m1 m3 NEW c2 c3 c4 c5 c6 hgl
  go_upto_region 7 with fail
  go_region_held3 (fun w' => w'.cell? ⟨m, 2, none⟩ = some (.slice none 0 0)) (go_keep)
   (first
    | (go_at_call 112
       refine (HAVE _ ?h1).mono ?_
       case h1 => first | exact Below.refl _ _ | exact (Below.refl _ _).drew
       rintro e w8 ⟨R, rc, rfl, HH, m2⟩)
    | (go_at_call 84
       refine (SAME _ _ _ ?h1 HH.out.2).mono ?_
       case h1 => first | exact HH.out.1 | exact HH.out.1.drew
       rintro e w9 ⟨rfl, HN9, m2⟩))
  have hs9 := HS7.out.below HN9.out
  obtain ⟨_, _, _, _, _, _, _, c7⟩ := hs9.head
  have y7 := hs9.frozen 7
  have hg9 := hs9.lt
  have b79 := HB7.out.trans (HN9.out.mono HB7.out.size)
  have FIN := Lib.hid (And.intro ((HF7.out.below HN9.out).beside (S1 := [g]) ((Beside.refl _ w9).setCell (p := ⟨g, 7, none⟩) (by simp) (.pointer (some ⟨db, 0, none⟩))) (fun x hx => by
   simp at hx
   subst hx
   have := HDB.out
   exact .inl ⟨by simp, by omega, by omega⟩)) (And.intro (hs9.setBase (.pointer (some ⟨db, 0, none⟩))) ((Beside.of_below b79 [g]).trans ((Beside.refl _ w9).setCell (p := ⟨g, 7, none⟩) (by simp) (.pointer (some ⟨db, 0, none⟩))) fun k hk => .inl hk)))
  clear hs9 b79 m4
  go_wp2
  go_ret
  exact ⟨rfl, db, mb, FIN.out.1, HDB.out.1, HDB.out.2.1, FIN.out.2.1, FIN.out.2.2⟩
theorem take_set_next {α : Type} (J L : List α) {j : Nat} {b : α} (h : J.take j = L.take j) (hl : j < J.length) (hb : L[j]? = some b) : (J.set j b).take (j + 1) = L.take (j + 1) := by
 rw [List.take_add_one, List.take_add_one, List.take_set, List.getElem?_set_self hl, hb, h, List.set_eq_of_length_le (by simp; omega)]
theorem Opened.setJ {B : Nat} {w : World} {g k n : Nat} {s : Sto} (h : Opened B w g s n) (hg : g < B) (hk : k < 64) (b : Bool) : Opened B (w.setCell ⟨g, 73 + k, none⟩ (.bool b)) g { s with J := s.J.set k b } n :=
 ⟨h.sto.setJ hk b, fun i hi => by obtain ⟨f, h1, h2, h3⟩ := h.fs i hi; exact ⟨f, h1, (heapOther (by omega)).trans h2, h3⟩⟩
theorem Opened.setR {B : Nat} {w : World} {g k n : Nat} {s : Sto} (h : Opened B w g s n) (hg : g < B) (hk : k < 64) (b : Bool) : Opened B (w.setCell ⟨g, 137 + k, none⟩ (.bool b)) g { s with R := s.R.set k b } n :=
 ⟨h.sto.setR hk b, fun i hi => by obtain ⟨f, h1, h2, h3⟩ := h.fs i hi; exact ⟨f, h1, (heapOther (by omega)).trans h2, h3⟩⟩
theorem Opened.setC {B : Nat} {w : World} {g n : Nat} {s : Sto} (h : Opened B w g s n) (hg : g < B) (x : Nat) : Opened B (w.setCell ⟨g, 72, none⟩ (.int .u64 (x : Int))) g { s with ck := x } n :=
 ⟨h.sto.setC x, fun i hi => by obtain ⟨f, h1, h2, h3⟩ := h.fs i hi; exact ⟨f, h1, (heapOther (by omega)).trans h2, h3⟩⟩
theorem Opened.below {B : Nat} {w w' : World} {g n : Nat} {s : Sto} (h : Opened B w g s n) (hb : Below w.heap.size w w') : Opened B w' g s n :=
 ⟨h.sto.below hb, fun i hi => by obtain ⟨f, h1, h2, h3⟩ := h.fs i hi; exact ⟨f, h1, h2.below hb, h3⟩⟩
theorem inSet_in (l : List Bool) {j : Nat} (hj : j < 64) : inSet l (j : Int) = l.getD j false := by
 unfold inSet
 rw [decide_eq_true ⟨by omega, by omega⟩, Bool.true_and, Int.toNat_natCast]
set_option maxHeartbeats 2000000 in
theorem examine_0 (B g : Nat) (s : Sto) (F : Fo) (SF : List Nat) (db mb : Nat) (w : World) (h : Opened B w g s 64) (hg : g < B) (hF : FoldAt w SF db mb F) (hgS : g ∈ SF) (hgd : g ≠ db) (hgm : g ≠ mb) (hbase : s.base = .pointer (some ⟨db, 0, none⟩)) :
  Calls Tryz.prog 62 #[.pointer (some ⟨g, 0, none⟩)] w fun e w' => e = .returned (.tuple #[]) ∧ Opened B w' g { s with ck := s.tm, J := F.J, R := F.R } 64 ∧ Beside [g] w w' := by
 have hgw := h.sto.lt
 obtain ⟨_, _, _, _, _, c5, _, _⟩ := h.sto.head
 have c72 := h.sto.cC
 have y72 := h.sto.frozen 72
 have H1 := Lib.hid (h.setC hg s.tm)
 have hb0 : Beside [g] w (w.setCell ⟨g, 72, none⟩ (.int .u64 (s.tm : Int))) := (Beside.refl _ _).setCell (by simp) _
 have HB0 := Lib.hid hb0
 have HF := Lib.hid (fun W (hW : Beside [g] w W) => hF.beside hW (fun x hx => by simp at hx; subst hx; exact .inl ⟨hgS, hgd, hgm⟩))
 have HJL := Lib.hid (And.intro hF.ok.j hF.ok.r)
 have HBS := Lib.hid hbase
 have HG := Lib.hid hg
 clear h hb0 hF hgS hgd hgm hbase hg
 go_enter Tryz.func62, Tryz.ntmps62
 go_wp2
 go_loopw [15] (fun v wr => ∃ (j : Nat) (J R : List Bool), v = .int .i64 (j : Int) ∧ j ≤ 64 ∧ Hid (Opened B wr g { s with ck := s.tm, J := J, R := R } 64) ∧ Hid (Beside [g] w wr) ∧ Hid (J.take j = F.J.take j ∧ R.take j = F.R.take j)) (fun v _ => 64 - (intOf v).toNat)
 case atStart => exact ⟨0, s.J, s.R, rfl, Nat.zero_le _, H1, HB0, Lib.hid ⟨by simp, by simp⟩⟩
 case round =>
  obtain ⟨j, J, R, rfl, hj, HO, HB, HT⟩ := hrel
  by_cases hlt : j < 64
  ·have hd1 : decide ((j : Int) < 64) = true := decide_eq_true (by omega)
   have HJ := Lib.hid hlt
   obtain ⟨bj, hbj⟩ : ∃ b, F.J[j]? = some b := ⟨_, List.getElem?_eq_getElem (by rw [HJL.out.1]; exact hlt)⟩
   obtain ⟨br, hbr⟩ : ∃ b, F.R[j]? = some b := ⟨_, List.getElem?_eq_getElem (by rw [HJL.out.2]; exact hlt)⟩
   have hij : inSet F.J (j : Int) = bj := by rw [inSet_in _ hlt]; simp [List.getD, hbj]
   have hir : inSet F.R (j : Int) = br := by rw [inSet_in _ hlt]; simp [List.getD, hbr]
   have CELLS : ∀ w', Below wr.heap.size wr w' → (w'.cell? ⟨g, 7, none⟩ = some (.pointer (some ⟨db, 0, none⟩))) ∧ w'.cell? ⟨g, 73 + j, none⟩ = some (.bool (J.getD j false)) ∧ w'.cell? ⟨g, 137 + j, none⟩ = some (.bool (R.getD j false)) ∧ w'.frozen? ⟨g, 73 + j, none⟩ = false ∧ w'.frozen? ⟨g, 137 + j, none⟩ = false ∧ g < w'.heap.size := fun W hW => by
    have q := HO.out.sto.below hW
    exact ⟨(q.head.2.2.2.2.2.2.2).trans (congrArg some HBS.out), q.cJ HJ.out, q.cR HJ.out, q.frozen _, q.frozen _, q.lt⟩
   have JO : ∀ W, Below wr.heap.size wr W → Calls Tryz.prog 118 #[.pointer (some ⟨db, 0, none⟩), .int .i64 (j : Int)] W fun e w' => e = .returned (.bool bj) ∧ Hid (Below wr.heap.size wr w') ∧ (w'.cell? ⟨g, 7, none⟩ = some (.pointer (some ⟨db, 0, none⟩))) ∧ w'.cell? ⟨g, 73 + j, none⟩ = some (.bool (J.getD j false)) ∧ w'.cell? ⟨g, 137 + j, none⟩ = some (.bool (R.getD j false)) ∧ w'.frozen? ⟨g, 73 + j, none⟩ = false ∧ w'.frozen? ⟨g, 137 + j, none⟩ = false ∧ g < w'.heap.size := fun W hW => by
    have := joined_any (j : Int) W ((HF.out wr HB.out).below hW)
    rw [hij] at this
    refine this.mono ?_
    rintro e w' ⟨rfl, hb⟩
    have b := hW.trans (hb.mono hW.size)
    exact ⟨rfl, Lib.hid b, CELLS _ b⟩
   have RE : ∀ W, Below wr.heap.size wr W → Calls Tryz.prog 119 #[.pointer (some ⟨db, 0, none⟩), .int .i64 (j : Int)] W fun e w' => e = .returned (.bool br) ∧ Hid (Below wr.heap.size wr w') ∧ (w'.cell? ⟨g, 7, none⟩ = some (.pointer (some ⟨db, 0, none⟩))) ∧ w'.cell? ⟨g, 73 + j, none⟩ = some (.bool (J.getD j false)) ∧ w'.cell? ⟨g, 137 + j, none⟩ = some (.bool (R.getD j false)) ∧ w'.frozen? ⟨g, 73 + j, none⟩ = false ∧ w'.frozen? ⟨g, 137 + j, none⟩ = false ∧ g < w'.heap.size := fun W hW => by
    have := retired_any (j : Int) W ((HF.out wr HB.out).below hW)
    rw [hir] at this
    refine this.mono ?_
    rintro e w' ⟨rfl, hb⟩
    have b := hW.trans (hb.mono hW.size)
    exact ⟨rfl, Lib.hid b, CELLS _ b⟩
   have K1 := Lib.hid (fun (W : World) (hW : Below wr.heap.size wr W) => (by
    have q := ((HO.out.below hW).setJ HG.out HJ.out bj).sto.head.2.2.2.2.2.2.2
    exact q.trans (congrArg some HBS.out) : (W.setCell ⟨g, 73 + j, none⟩ (.bool bj)).cell? ⟨g, 7, none⟩ = some (.pointer (some ⟨db, 0, none⟩))))
   have K2 := Lib.hid (fun (W : World) (hW : Below wr.heap.size wr W) => (by
    have q := (((HO.out.below hW).setJ HG.out HJ.out bj).setR HG.out HJ.out br).sto.head.2.2.2.2.2.2.2
    exact q.trans (congrArg some HBS.out) : ((W.setCell ⟨g, 73 + j, none⟩ (.bool bj)).setCell ⟨g, 137 + j, none⟩ (.bool br)).cell? ⟨g, 7, none⟩ = some (.pointer (some ⟨db, 0, none⟩))))
   have HN := Lib.hid (fun (W : World) (hW : Below wr.heap.size wr W) => ((HO.out.below hW).setJ HG.out HJ.out bj).setR HG.out HJ.out br)
   have HTN := Lib.hid (And.intro (take_set_next J F.J HT.out.1 (by have := HO.out.sto.ok.j; simp only [] at this; omega) hbj) (take_set_next R F.R HT.out.2 (by have := HO.out.sto.ok.r; simp only [] at this; omega) hbr))
   obtain ⟨c7, cJ, cR, yJ, yR, hgl⟩ := CELLS wr (Below.refl _ _)
   have q0 : (0 : Int) ≤ (j : Int) := by omega
   have q1 : (j : Int) < 64 := by omega
   clear CELLS hij hir hbj hbr c5 c72 y72 hgw hlt
   go_upto_region 4 with fail
   go_region_held3 (fun w' => w'.cell? ⟨g, 7, none⟩ = some (.pointer (some ⟨db, 0, none⟩))) (first | go_keep | exact K1.out _ HR2.out | exact K2.out _ HR2.out)
    (first
     | (go_at_call 118
        refine (JO _ ?h1).mono ?_
        case h1 => first | exact Below.refl _ _ | exact (Below.refl _ _).drew | exact HR1.out
        rintro e w6 ⟨rfl, HR1, c7, cJ, cR, yJ, yR, hgl⟩)
     | (go_at_call 119
        refine (RE _ ?h2).mono ?_
        case h2 => first | exact HR1.out | exact HR1.out.drew
        rintro e w7 ⟨rfl, HR2, c7, cJ, cR, yJ, yR, hgl⟩))
   go_wp2
   go_roundw
   case rel => exact ⟨j + 1, _, _, by simp, HJ.out, Lib.hid (HN.out _ HR2.out), Lib.hid (((HB.out.trans (Beside.of_below HR2.out [g]) fun k hk => .inl hk).setCell (by simp) _).setCell (by simp) _), HTN⟩
   case measure => have := HJ.out; simp [intOf]; omega
  ·have hd1 : decide ((j : Int) < 64) = false := decide_eq_false (by omega)
   obtain rfl : j = 64 := by omega
   have hJ : J = F.J := by
    have h1 := HT.out.1
    have h2 : J.length = 64 := HO.out.sto.ok.j
    rwa [List.take_of_length_le (by omega), List.take_of_length_le (by have := HJL.out.1; omega)] at h1
   have hR : R = F.R := by
    have h1 := HT.out.2
    have h2 : R.length = 64 := HO.out.sto.ok.r
    rwa [List.take_of_length_le (by omega), List.take_of_length_le (by have := HJL.out.2; omega)] at h1
   subst hJ
   subst hR
   have HL := Lib.hid (lists_0 B g _ wr HO.out)
   clear hlt c5 c72 y72 hgw HF HT
   go_wp2_with fail
   refine HL.out.mono ?_
   rintro e w5 ⟨rfl, hz5, hb5⟩
   have HZ5 := Lib.hid hz5
   have HB5 := Lib.hid hb5
   clear hz5 hb5 HL
   go_wp2
   go_loopw [44] (fun v w9 => ∃ k : Nat, v = .int .i64 (k : Int) ∧ k ≤ 64 ∧ w5 = w9) (fun v _ => 64 - (intOf v).toNat)
   case atStart => exact ⟨0, rfl, Nat.zero_le _, rfl⟩
   case round =>
    obtain ⟨k, rfl, hk, rfl⟩ := hrel
    by_cases hlk : k < 64
    ·have hd2 : decide ((k : Int) < 64) = true := decide_eq_true (by omega)
     have ck : w5.cell? ⟨wr.heap.size, k, none⟩ = some (.slice none 0 0) := by rw [cell_of_row w5 _ _ _ _ _ HZ5.out]; exact zls_at hlk
     have HK := Lib.hid hlk
     have q0 : (0 : Int) ≤ (k : Int) := by omega
     have q1 : (k : Int) < 64 := by omega
     clear hlk
     go_wp2
     go_loopw [50] (fun v w8 => v = .int .i64 0 ∧ w5 = w8) (fun _ _ => 0)
     case atStart => exact ⟨rfl, rfl⟩
     case round =>
      obtain ⟨rfl, rfl⟩ := hrel
      go_wp2
      go_roundw
      case rel => exact ⟨k + 1, by simp, HK.out, by trivial⟩
      case measure => have := HK.out; simp [intOf]; omega
    ·have hd2 : decide ((k : Int) < 64) = false := decide_eq_false (by omega)
     obtain rfl : k = 64 := by omega
     clear hlk
     go_wp2
     go_returns
     exact ⟨rfl, HO.out.below HB5.out, HB.out.trans (Beside.of_below HB5.out [g]) fun k hk => .inl hk⟩
end Go.Proofs.YtinjbdgjcadodaaGreatDoor.St
namespace Go.Proofs.YtinjbdgjcadodaaGreatDoor.St
open Go Go.RowKit Words Enc Go.Proofs.YtinjbdgjcadodaaGreatDoor.Made Dsk
theorem names_1 (d : Nat) (S : List Nat) (f : File) (h : Hd) (w : World) (hd : Disk w d S [f] h) (hoff : h.off = false) :
  Calls Tryz.prog 113 #[.pointer (some ⟨d, 0, none⟩), .string ⟨#[]⟩] w fun e w' => ∃ b c, e = .returned (.slice (some ⟨b, 0, none⟩) 1 c) ∧ w'.cell? ⟨b, 0, none⟩ = some (.string ⟨f.name.toArray⟩) ∧ Below w.heap.size w w' := by
 obtain ⟨mb, fs, hda, hab, rfl⟩ := hd
 have hl : fs.length = 1 := by
  have := congrArg List.length hab
  simpa [abs] using this
 have hn : fs.map (·.name) = [f.name] := by
  have := congrArg (List.map File.name) hab
  simpa [abs, List.map_map, Function.comp_def, Fil.abs] using this
 refine (names_pre d mb fs h ⟨#[]⟩ w hda hoff (by omega)).mono ?_
 rintro e w' ⟨A, n, c, ss, rfl, hp, rfl, ho, hb⟩
 have hf : ([f.name]).filter (fun s => Lib.hasPrefix s (⟨#[]⟩ : ByteArray).data.toList) = [f.name] := by simp [Lib.hasPrefix]
 rw [hn, hf] at hp
 obtain rfl := List.perm_singleton.1 hp
 rcases ho.2 with ⟨_, h0⟩ | ⟨g, cap, cur, hv, hbs, hh, h1, h2, h3, h4⟩
 ·simp at h0
 ·injection hv with hA _ hc
  subst hA
  have := ho.cells (g := g) rfl 0 (.string ⟨f.name.toArray⟩) (by simp [Go.Proofs.encStr])
  simp only [add_plain, Nat.zero_add] at this
  exact ⟨g, c, rfl, this, hb⟩
set_option maxHeartbeats 1000000 in
theorem clean_0 (g : Nat) (s : Sto) (S : List Nat) (f : File) (h : Hd) (w : World) (hs : StoAt w g s) (hd : Disk w s.d S [f] h) (hoff : h.off = false) (hlen : f.name.length ≤ 100000) (h1 : Lib.hasSuffix f.name [46, 110, 101, 119] = false) (h2 : Lib.hasPrefix f.name [102, 111, 108, 100, 45] = false) :
  Calls Tryz.prog 60 #[.pointer (some ⟨g, 0, none⟩)] w fun e w' => e = .returned (.int .i64 0) ∧ Below w.heap.size w w' := by
 obtain ⟨c0, _⟩ := hs.head
 have HN := Lib.hid (names_1 s.d S f h w hd hoff)
 have HLN := Lib.hid (show (⟨f.name.toArray⟩ : ByteArray).size ≤ 9223372036854775807 by show f.name.toArray.size ≤ _; rw [List.size_toArray]; omega)
 have H1 := Lib.hid h1
 have H2 := Lib.hid h2
 clear hs hd hoff h1 h2
 go_enter Tryz.func60, Tryz.ntmps60
 go_wp2_with fail
 refine HN.out.mono ?_
 rintro e w1 ⟨b, c, rfl, hc, hb⟩
 have HB := Lib.hid hb
 clear hb c0 HN
 go_wp2
 go_loopw [12] (fun v wr => (v = .int .i64 0 ∨ v = .int .i64 1) ∧ w1 = wr) (fun v _ => 1 - (intOf v).toNat)
 case atStart => exact ⟨.inl rfl, rfl⟩
 case round =>
  obtain ⟨hv, rfl⟩ := hrel
  rcases hv with rfl | rfl
  ·go_wp2_with fail
   refine (Tryz.strings_HasSuffix ⟨f.name.toArray⟩ _ w1 HLN.out).mono ?_
   rintro e w2 ⟨rfl, rfl⟩
   rw [show Lib.hasSuffix (⟨f.name.toArray⟩ : ByteArray).data.toList (⟨#[46, 110, 101, 119]⟩ : ByteArray).data.toList = false from H1.out]
   go_wp2_with fail
   refine (Tryz.strings_HasPrefix ⟨f.name.toArray⟩ _ w2).mono ?_
   rintro e w3 ⟨rfl, rfl⟩
   rw [show Lib.hasPrefix (⟨f.name.toArray⟩ : ByteArray).data.toList (⟨#[102, 111, 108, 100, 45]⟩ : ByteArray).data.toList = false from H2.out]
   go_wp2
   go_roundw
   case rel => exact ⟨.inr rfl, by trivial⟩
   case measure => simp [intOf]
  ·go_wp2
   go_ret
   exact ⟨rfl, HB.out⟩
end Go.Proofs.YtinjbdgjcadodaaGreatDoor.St
