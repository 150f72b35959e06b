/- Texts of the law ReplicaNil, put together. -/
import Derived.Test.YtinjbdgjcadodaaGreatDoorRNp45
set_option linter.unusedVariables false
set_option linter.unusedSimpArgs false
set_option maxRecDepth 100000
namespace Go.Proofs.YtinjbdgjcadodaaGreatDoor.Rp
open Go Go.RowKit Words Enc Go.Proofs.YtinjbdgjcadodaaGreatDoor.Made Dsk Seg Evt St
open Mtx (Hav noHav MatAt)
theorem infoRp : (Tryz.prog.info? 61).map (fun i => (i.zero, i.size, i.bytes)) = some (some (.pointer none), 1, 8) := by kernel_rfl
theorem infoDk : (Tryz.prog.info? 40).map (fun i => (i.zero, i.size, i.bytes)) = some (some (.pointer none), 1, 8) := by kernel_rfl
theorem Rep0.next {w0 wa w W : World} {r d g mb tb nd n C : Nat} {sz : Int} {hnd : nd < 64} {s : Sto} {S : List Nat} {f : Nat} (h : Rep0 w0 wa w r d g mb tb nd n C sz hnd s S f) (hb : Below w.heap.size w W) : Rep0 w0 wa W r d g mb tb nd n C sz hnd s S f :=
 ⟨h.fr, h.frame.trans (hb.mono h.frame.size), (hb.block r (Array.getElem?_eq_some_iff.1 h.row).1).trans h.row, h.mat.below hb, by obtain ⟨q, hq⟩ := h.tk; exact ⟨q, hq.below hb⟩, h.new⟩
structure Opn (w0 W : World) (v4 : Value) : Prop where
 x : ∃ wa r d g mb tb s S f lb c, v4 = .slice (some ⟨lb, 0, none⟩) 1 c ∧ W.cell? ⟨lb, 0, none⟩ = some (.pointer (some ⟨r, 0, none⟩)) ∧ Rep0 w0 wa W r d g mb tb 0 1 262144 100 h0_64 s S f ∧ mb < lb ∧ r < lb
theorem Opn.next {w0 W W' : World} {v4 : Value} (h : Opn w0 W v4) (hb : Below W.heap.size W W') : Opn w0 W' v4 := by
 obtain ⟨wa, r, d, g, mb, tb, s, S, f, lb, c, h1, h2, h3, h4⟩ := h.x
 exact ⟨wa, r, d, g, mb, tb, s, S, f, lb, c, h1, (hb.cell (World.block_lt_of_cell? _ _ h2)).trans h2, h3.next hb, h4⟩
set_option maxHeartbeats 4000000 in
theorem open18_1 (w : World) (T : Chk.Tabs w) (ST : STabs w) :
  Calls Tryz.prog 50 #[.agg (cfgRow 1 100 262144 2 10)] w fun e w' => ∃ v4 v5, e = .returned (.tuple #[v4, v5]) ∧ Opn w w' v4 := by
 obtain ⟨iR, hiR, hzR, hszR, hbyR⟩ := info_parts infoRp
 obtain ⟨iD, hiD, hzD, hszD, hbyD⟩ := info_parts infoDk
 obtain ⟨u, hu⟩ : ∃ u, u = w.alloc (.cells (cfgRow 1 100 262144 2 10) 73) := ⟨_, rfl⟩
 have hbu : Below w.heap.size w u := by rw [hu]; exact (Below.refl _ _).alloc (Nat.le_refl _) _
 have G := show u.heap[w.heap.size]? = some (.cells (cfgRow 1 100 262144 2 10) 73 (0, 0)) by rw [hu]; exact heap_alloc_new w _
 obtain ⟨b1, hb1⟩ : ∃ b, b = w.heap.size := ⟨_, rfl⟩
 rw [← hb1] at G
 have HG := Lib.hid G
 have HBU := Lib.hid hbu
 have HB1 := Lib.hid hb1
 have HT := Lib.hid (And.intro T ST)
 unfold cfgRow at hu
 have HU := Lib.hid hu
 clear hu hb1 G hbu T ST
 unfold cfgRow
 go_enter Tryz.func50, Tryz.ntmps50
 go_wp2_with fail
 rw [← HU.out, ← HB1.out]
 go_loopw [4, 5, 6] (fun v4 v5 v6 wr => (v4 = .slice none 0 0 ∧ v5 = .slice none 0 0 ∧ v6 = .int .i64 0 ∧ wr = u) ∨ (v6 = .int .i64 1 ∧ Hid (Opn w wr v4) ∧ Hid (wr.heap[b1]? = some (.cells (cfgRow 1 100 262144 2 10) 73 (0, 0))))) (fun v4 v5 v6 _ => 2 - (intOf v6).toNat)
 case atStart => exact .inl ⟨rfl, rfl, rfl, rfl⟩
 case round =>
  rcases hrel with ⟨rfl, rfl, rfl, rfl⟩ | ⟨rfl, HO, HG2⟩
  ·obtain ⟨k0, k1, k2, k3, k4⟩ := cells5 HG.out
   go_wp2_with fail
   refine (newC 262144 wr).mono ?_
   rintro e w1 ⟨d, S0, rfl, hd, hS0, hb1⟩
   have hs1 := HBU.out.size
   have OP := Lib.hid (openR_freshB d 0 1 262144 1 100 262144 2 10 S0 w w1 HT.out.1 HT.out.2 (HBU.out.trans (hb1.mono hs1)) (fun k hk => Nat.le_trans hs1 (hS0 k hk)) hd h0_64 (by omega) (by omega) (by omega))
   have hg1 := (hb1.block b1 (Array.getElem?_eq_some_iff.1 HG.out).1).trans HG.out
   obtain ⟨k0, k1, k2, k3, k4⟩ := cells5 hg1
   have HG1 := Lib.hid hg1
   have HS0 := Lib.hid (show ∀ k ∈ S0, b1 < k from fun k hk => by have := hS0 k hk; have := (Array.getElem?_eq_some_iff.1 HG.out).1; omega)
   clear hd hS0 hb1 hs1 hg1
   go_wp2_with fail
   refine OP.out.mono ?_
   rintro e w2 ⟨wa, r, g, mb, tb, s, S, f, rfl, hR, hfr⟩
   have HR := Lib.hid hR
   have HG2 := Lib.hid ((hfr.block b1 (Array.getElem?_eq_some_iff.1 HG1.out).1 (fun hm => by have := HS0.out _ hm; omega)).trans HG1.out)
   have o1 : (w2.alloc (.cells #[.pointer (some ⟨r, 0, none⟩)] 61)).ownsRow w2.heap.size 61 1 (.slice none 0 0) 0 [] := World.ownsRow_nil _ _ _ _
   have HAL := Lib.hid ((Below.refl w2.heap.size w2).alloc (Nat.le_refl _) (.cells #[.pointer (some ⟨r, 0, none⟩)] 61))
   have HD := Lib.hid (show d < 1000000000000000000000 ∨ True from .inr trivial)
   clear hR hfr OP k0 k1 k2 k3 k4
   go_wp2_with (first | (at_builtin; (refine wpList_append_own _ rfl _ _ 113 rfl w2.heap.size 61 iR (.pointer none) 1 8 Tryz.underlying113 hiR hzR hszR hbyR rfl (by decide) (.slice none 0 0) 0 [] rfl o1 ⟨w2.heap.size, 0, none⟩ 1 1 [.pointer (some ⟨r, 0, none⟩)] rfl rfl ?c1 ?c2 ?c3 ?c4 ?c5 ?_)))
   case c1 =>
    intro j x hj
    match j, hj with
    | 0, hj => simp at hj; subst hj; simp [Addr.add]
   case c2 => intro x hx; simp at hx; subst hx; rfl
   case c3 => unfold maxLen; omega
   case c4 => omega
   case c5 => simp
   intro v' w3 hown3 hgrow _
   have hb3 : Below w2.heap.size (w2.alloc (.cells #[.pointer (some ⟨r, 0, none⟩)] 61)) w3 := (Below.refl _ _).grown hgrow (by simp) (fun g hg => by have := (o1.lt g hg).1; omega)
   have HB3 := Lib.hid (HAL.out.trans hb3)
   obtain ⟨A3, c3, rfl, _⟩ := Own.shape hown3
   have hown3' : w3.ownsRow w2.heap.size 61 1 (.slice A3 1 c3) 1 [.pointer (some ⟨r, 0, none⟩)] := hown3
   obtain ⟨lb, rfl, hlb⟩ := own_at8 hown3' (by omega)
   have hcell : w3.cell? ⟨lb, 0, none⟩ = some (.pointer (some ⟨r, 0, none⟩)) := by
    have := hown3'.cells (g := lb) rfl 0 (.pointer (some ⟨r, 0, none⟩)) (by simp)
    simpa [add_plain] using this
   have HO3 := Lib.hid (show Opn w w3 (.slice (some ⟨lb, 0, none⟩) 1 c3) from ⟨⟨wa, r, d, g, mb, tb, s, S, f, lb, c3, rfl, hcell, HR.out.next HB3.out, by have := HR.out.mat.lt; omega, by have := (Array.getElem?_eq_some_iff.1 HR.out.row).1; omega⟩⟩)
   have HG3 := Lib.hid ((HB3.out.block b1 (Array.getElem?_eq_some_iff.1 HG2.out).1).trans HG2.out)
   have o4 : (w3.alloc (.cells #[.pointer (some ⟨d, 0, none⟩)] 40)).ownsRow w3.heap.size 40 1 (.slice none 0 0) 0 [] := World.ownsRow_nil _ _ _ _
   have HAL4 := Lib.hid ((Below.refl w3.heap.size w3).alloc (Nat.le_refl _) (.cells #[.pointer (some ⟨d, 0, none⟩)] 40))
   clear hown3 hown3' hb3 hgrow o1 hcell
   go_wp2_with (first | (at_builtin; (refine wpList_append_own _ rfl _ _ 114 rfl w3.heap.size 40 iD (.pointer none) 1 8 Tryz.underlying114 hiD hzD hszD hbyD rfl (by decide) (.slice none 0 0) 0 [] rfl o4 ⟨w3.heap.size, 0, none⟩ 1 1 [.pointer (some ⟨d, 0, none⟩)] rfl rfl ?d1 ?d2 ?d3 ?d4 ?d5 ?_)))
   case d1 =>
    intro j x hj
    match j, hj with
    | 0, hj => simp at hj; subst hj; simp [Addr.add]
   case d2 => intro x hx; simp at hx; subst hx; rfl
   case d3 => unfold maxLen; omega
   case d4 => omega
   case d5 => simp
   intro v'' w5 hown5 hgrow5 _
   have hb5 : Below w3.heap.size (w3.alloc (.cells #[.pointer (some ⟨d, 0, none⟩)] 40)) w5 := (Below.refl _ _).grown hgrow5 (by simp) (fun g hg => by have := (o4.lt g hg).1; omega)
   have HB5 := Lib.hid (HAL4.out.trans hb5)
   obtain ⟨A5, c5, rfl, _⟩ := Own.shape hown5
   clear hown5 hb5 hgrow5 o4
   go_wp2
   go_roundw
   case rel => exact .inr ⟨rfl, Lib.hid (HO3.out.next HB5.out), Lib.hid ((HB5.out.block b1 (Array.getElem?_eq_some_iff.1 HG3.out).1).trans HG3.out)⟩
   case measure => simp [intOf]
  ·obtain ⟨k0, k1, k2, k3, k4⟩ := cells5 HG2.out
   go_wp2
   go_ret2
   exact ⟨_, _, rfl, HO.out⟩
set_option maxHeartbeats 4000000 in
theorem awake18 (w : World) (T : Chk.Tabs w) (ST : STabs w) : Calls Tryz.prog 17 #[] w fun e w' => e = .returned (.bool true) ∧ Below w.heap.size w w' := by
 have hsf := store_float Tryz.prog
 have CF := Lib.hid (config_019 w)
 have HT := Lib.hid (And.intro T ST)
 clear T ST
 go_enter Tryz.func17, Tryz.ntmps17
 go_wp2_with fail
 refine CF.out.mono ?_
 rintro e w1 ⟨rfl, hb1⟩
 have OP := Lib.hid (open18_1 w1 (HT.out.1.below hb1) (HT.out.2.below hb1))
 have H1 := Lib.hid (And.intro hb1 (And.intro (HT.out.1.below hb1) (HT.out.2.below hb1)))
 clear hb1 CF
 go_wp2_with fail
 refine OP.out.mono ?_
 rintro e w2 ⟨v4, v5, rfl, ⟨wa, r, d, g, mb, tb, s, S, f, lb, c, rfl, hcell, hR, hlb1, hlb2⟩⟩
 have HR := Lib.hid hR
 have HC := Lib.hid hcell
 have hal : Below w2.heap.size w2 (w2.alloc (.cells #[.int .u8 118] 5)) := (Below.refl _ _).alloc (Nat.le_refl _) _
 obtain ⟨w3, hcv, hR3⟩ := Keeps.run_mark (P := Tryz.prog) (m := 1) (B := w2.heap.size) (w := w2.alloc (.cells #[.int .u8 118] 5)) 1 1 Tryz.underlying28 Tryz.underlying5 (heap_alloc_new w2 _) (Nat.le_refl _) (by simp)
 have hse : Sees (w2.alloc (.cells #[.int .u8 118] 5)) (some ⟨w2.heap.size, 0, none⟩) 1 [118] := ⟨rfl, fun _ => ⟨w2.heap.size, 0, rfl, fun j x hj => by
  match j, hj with
  | 0, hj => simp at hj; subst hj; rw [cell_of_row _ _ _ _ _ _ (heap_alloc_new w2 _)]; rfl⟩⟩
 have hse3 := Keeps.sees_keep hse hR3.2
 have hb3 : Below w2.heap.size w2 w3 := hal.trans hR3.1
 have hwa : wa.heap.size ≤ w2.heap.size := hR.frame.size
 have WR : Calls Tryz.prog 18 #[.pointer (some ⟨r, 0, none⟩), .agg #[.int .i64 0, .int .u64 0, .int .u64 0, .int .u8 1, .string ⟨#[107]⟩, .slice (some ⟨w2.heap.size, 0, none⟩) 1 1, .float .f64 0, .int .i64 0]] w3 _ := writeR_first (hR.next hb3) H1.out.2.1 H1.out.2.2 (by omega) (by omega) (by omega) exSet (some ⟨w2.heap.size, 0, none⟩) 1 1 hse3 (fun a ha => by injection ha with ha; subst ha; exact hwa) exSet_fit (by decide) (by decide) exSet_e rfl (by decide)
 rw [exSet_y] at WR
 have WR := Lib.hid WR
 have HB3 := Lib.hid hb3
 have HC3 := Lib.hid ((hb3.cell (World.block_lt_of_cell? _ _ hcell)).trans hcell)
 clear hR OP hal hR3 hse hse3 hb3 hwa
 go_wp2_with fail
 refine WR.out.mono ?_
 rintro e w4 ⟨A4, c4, k4, rfl, h4, hbe4⟩
 have hlbD : lb ∉ mb :: g :: (S ++ [f]) := fun hm => by
  have hnew := HR.out.new
  have h1 := HR.out.fr.sto.lt
  rcases List.mem_cons.1 hm with rfl | hm
  ·omega
  ·rcases List.mem_cons.1 hm with rfl | hm
   ·omega
   ·rcases List.mem_append.1 hm with hm | hm
    ·have := HR.out.fr.disk.lt _ hm; omega
    ·simp at hm; subst hm; have := HR.out.fr.bare.1.lt; omega
 have hc4 := hbe4.cell HC3.out hlbD
 have HRR := Lib.hid h4
 have HC4 := Lib.hid hc4
 have hy8 : exY.val A4 c4 k4 = .agg #[.int .i64 0, .int .u64 1, .int .u64 1, .int .u8 1, .string ⟨#[107]⟩, .slice A4 c4 k4, .float .f64 0, .int .i64 0] := rfl
 rw [hy8]
 have Z4 := Lib.hid (heap_alloc_new w4 (.cells zRowE 38))
 have HAL := Lib.hid ((Below.refl w4.heap.size w4).alloc (Nat.le_refl _) (.cells zRowE 38))
 clear h4 hbe4 hlbD hc4 hy8 WR hcv
 unfold zRowE at Z4 HAL
 go_wp2_with (first
  | (refine wpList_putRow rfl 38 (.tmp 3) (.tmp 29) rfl w4.heap.size 38 _ #[.int .i64 0, .int .u64 1, .int .u64 1, .int .u8 1, .string ⟨#[107]⟩, .slice A4 c4 k4, .float .f64 0, .int .i64 0] rfl rfl Z4.out (by kernel_rfl) rfl (by simp [Value.oneCell']) ?_))
 intro w5 hW5 hbe5
 have hb45 : Below w4.heap.size w4 w5 := Below.beside HAL.out hbe5 HAL.out.size (by simp)
 have h5 := HRR.out.next hb45
 have RD := Lib.hid (readR_first h5)
 have hc5 := (hb45.cell (World.block_lt_of_cell? _ _ HC4.out)).trans HC4.out
 have H5 := Lib.hid (And.intro h5 hc5)
 clear hW5 hbe5 hb45 h5
 go_wp2_with fail
 refine RD.out.mono ?_
 rintro e w6 ⟨A6, n6, c6, kd, nu, rfl, hs6, hb6⟩
 have H6 := Lib.hid (And.intro hs6 hb6)
 have Z6 := heap_alloc_new w6 (.cells zCell 63)
 have hal6 := (Below.refl w6.heap.size w6).alloc (Nat.le_refl _) (.cells zCell 63)
 clear hs6 hb6 RD hc5
 unfold zCell at Z6 hal6
 have Z6 := Lib.hid Z6
 have HAL6 := Lib.hid hal6
 clear hal6
 go_wp2_with (first
  | (refine wpList_putRow rfl 63 (.tmp 5) (.tmp 36) rfl w6.heap.size 63 _ #[.int .u8 (kd : Int), .slice A6 n6 c6, .float .f64 nu] rfl rfl Z6.out (by kernel_rfl) rfl (by simp [Value.oneCell']) ?_))
 intro w7 hW7 hbe7
 have hb67 : Below w6.heap.size w6 w7 := Below.beside HAL6.out hbe7 HAL6.out.size (by simp)
 have hb57 : Below w5.heap.size w5 w7 := H6.out.2.trans (hb67.mono H6.out.2.size)
 have h7 := H5.out.1.next hb57
 have hs7 := H6.out.1.below hb67
 obtain ⟨k0, k1, k2⟩ := Mtx.cells3 hW7
 have hc7 := (hb57.cell (World.block_lt_of_cell? _ _ H5.out.2)).trans H5.out.2
 have ST7 := Lib.hid (stable_first h7 rfl (by decide))
 have hstr : (convert 28 9 (.slice A6 n6 c6)).run Tryz.prog w7 = .ok (.string ⟨#[118]⟩) w7 := hs7.string c6 Tryz.underlying28 Tryz.underlying5 Tryz.underlying9
 clear hW7 hbe7 hb67 hb57 h7 hs7
 go_wp2_with fail
 refine ST7.out.mono ?_
 rintro e w8 ⟨rfl, hb8⟩
 have FIN := Lib.hid (H1.out.1.trans (hb8.mono H1.out.1.size))
 clear hb8 ST7
 go_wp2
 go_ret
 exact ⟨rfl, FIN.out⟩
end Go.Proofs.YtinjbdgjcadodaaGreatDoor.Rp
namespace Go.Proofs.YtinjbdgjcadodaaGreatDoor.Rp
open Go Go.RowKit Words Enc Go.Proofs.YtinjbdgjcadodaaGreatDoor.Made Dsk Seg Evt St
theorem eight {Y : Array Value} (h : Y.size = 8) : ∃ c0 c1 c2 c3 c4 c5 c6 c7, Y = #[c0, c1, c2, c3, c4, c5, c6, c7] := by
 obtain ⟨l⟩ := Y
 match l, h with
 | [c0, c1, c2, c3, c4, c5, c6, c7], _ => exact ⟨c0, c1, c2, c3, c4, c5, c6, c7, rfl⟩
set_option maxHeartbeats 2000000 in
theorem writeR_nil (ev : Ev) (Be : Option Addr) (me ke : Nat) (w : World) :
  Calls Tryz.prog 18 #[.pointer none, ev.val Be me ke] w fun e w' => ∃ Y : Array Value, e = .returned (.tuple #[.agg Y, .int .i64 2]) ∧ (Y.size = 8 ∧ Y.all (·.oneCell') = true) ∧ Below w.heap.size w w' := by
 have hsf := store_float Tryz.prog
 obtain ⟨w2, hw2⟩ : ∃ u, u = (w.alloc (.cells (ev.row Be me ke) 38)).alloc (.cells zRowE 38) := ⟨_, rfl⟩
 have hb1 := (Below.refl w.heap.size w).alloc (Nat.le_refl _) (.cells (ev.row Be me ke) 38)
 have hb2 := hb1.alloc hb1.size (.cells zRowE 38)
 have G3 := (Below.heap_alloc (w.alloc (.cells (ev.row Be me ke) 38)) (.cells zRowE 38) w.heap.size (by simp)).trans (heap_alloc_new w (.cells (ev.row Be me ke) 38))
 have G4 := heap_alloc_new (w.alloc (.cells (ev.row Be me ke) 38)) (.cells zRowE 38)
 rw [show (w.alloc (.cells (ev.row Be me ke) 38)).heap.size = w.heap.size + 1 by simp] at G4
 rw [← hw2] at hb2 G3 G4
 obtain ⟨b3, hb3⟩ : ∃ b, b = w.heap.size := ⟨_, rfl⟩
 obtain ⟨b4, hb4⟩ : ∃ b, b = w.heap.size + 1 := ⟨_, rfl⟩
 rw [← hb3] at G3
 rw [← hb4] at G4
 have HB3 : Hid (∀ W, Below w2.heap.size w2 W → W.heap[b3]? = some (.cells (ev.row Be me ke) 38 (0, 0))) := Lib.hid fun W hW => (hW.block b3 (Array.getElem?_eq_some_iff.1 G3).1).trans G3
 have HG4 := Lib.hid G4
 have HB2 := Lib.hid hb2
 have HB34 := Lib.hid (And.intro hb3 hb4)
 unfold Ev.row zRowE at hw2
 have HW2 := Lib.hid hw2
 clear hw2 hb1 hb2 G3 G4 hb3 hb4
 unfold Ev.val
 go_enter Tryz.func18, Tryz.ntmps18
 go_upto_region 1 with fail
 rw [← HW2.out, ← HB34.out.2, ← HB34.out.1]
 refine Facts.wp_region_inv (fun _ _ W => Below w2.heap.size w2 W) (Facts.BoxR 38 8 w2.heap.size) (n := 28) (by kernel_rfl) (by kernel_rfl) rfl (fun a => Facts.BoxR.refl _ _ _ a) [Facts.PredR.is (.pointer none), Facts.PredR.is (.pointer none), Facts.PredR.is (.agg (ev.row Be me ke)), Facts.PredR.is (.tuple #[.agg zRowE, .int .i64 2]), Facts.PredR.is (.tuple #[.agg zRowE, .int .i64 2]), Facts.PredR.is (.agg zRowE), Facts.PredR.is (.int .i64 2), Facts.PBoxR 38 8 w2.heap.size, Facts.PredR.any, Facts.PredR.is (.int .i64 2)] ?_ ?_ ?_
 ·exact (Below.refl _ _).drew
 ·refine ⟨?_, ?_, ?_, ?_, ?_, ?_, ?_, ?_, ?_, ?_, trivial⟩
  ·refine Facts.stepI_is (.pointer none) (fun a => Facts.BoxR.refl _ _ _ a) fun s a W hsz hsj hwt hI hold hnew => ?_
   have f0 : a.tmps.getD 0 undef = .pointer none := hold 0 (by kernel_rfl)
   refine ⟨Facts.wanted_free rfl, ?_, hI, fun _ => rfl⟩
   simp [go_sem, Act.eval, f0]
  ·refine Facts.stepI_call fun s a W hsz hsj hwt hI hold hnew => ?_
   have f9 : a.tmps.getD 9 undef = .pointer none := hnew 0 9 (by kernel_rfl)
   refine ⟨Facts.wanted_free rfl, 27, #[.pointer none], by simp [go_sem, Act.eval, f9], ?_⟩
   refine (store_nil W).mono ?_
   rintro e w8 ⟨rfl, rfl⟩
   exact ⟨_, rfl, hI, Facts.BoxR.refl _ _ _ _, rfl⟩
  ·refine Facts.stepI_is (.agg (ev.row Be me ke)) (fun a => Facts.BoxR.refl _ _ _ a) fun s a W hsz hsj hwt hI hold hnew => ?_
   have f3 : a.tmps.getD 3 undef = .pointer (some ⟨b3, 0, none⟩) := hold 3 (by kernel_rfl)
   refine ⟨Facts.wanted_free rfl, ?_, hI, fun _ => rfl⟩
   exact Facts.exec_getRow 38 (.tmp 3) rfl b3 38 (ev.row Be me ke) (0, 0) _ f3 (HB3.out W hI) Tryz.underlying38 rfl (by kernel_rfl)
  ·refine Facts.stepI_call fun s a W hsz hsj hwt hI hold hnew => ?_
   have f10 : a.tmps.getD 10 undef = .pointer none := hnew 1 10 (by kernel_rfl)
   have f11 : a.tmps.getD 11 undef = .agg (ev.row Be me ke) := hnew 2 11 (by kernel_rfl)
   refine ⟨Facts.wanted_free rfl, 7, #[.pointer none, .agg (ev.row Be me ke)], by simp [go_sem, Act.eval, f10, f11], ?_⟩
   refine ((writeS_nil ev Be me ke W : Calls Tryz.prog 7 #[.pointer none, .agg (ev.row Be me ke)] W _)).mono ?_
   rintro e w8 ⟨rfl, hb8⟩
   exact ⟨_, rfl, hI.trans (hb8.mono hI.size), Facts.BoxR.below hb8, rfl⟩
  ·refine Facts.stepI_is (.tuple #[.agg zRowE, .int .i64 2]) (fun a => Facts.BoxR.refl _ _ _ a) fun s a W hsz hsj hwt hI hold hnew => ?_
   have f12 : a.tmps.getD 12 undef = .tuple #[.agg zRowE, .int .i64 2] := hnew 3 12 (by kernel_rfl)
   refine ⟨Facts.wanted_free rfl, ?_, hI, fun _ => rfl⟩
   simp [go_sem, Act.eval, f12]
  ·refine Facts.stepI_is (.agg zRowE) (fun a => Facts.BoxR.refl _ _ _ a) fun s a W hsz hsj hwt hI hold hnew => ?_
   have f8 : a.tmps.getD 8 undef = .tuple #[.agg zRowE, .int .i64 2] := hnew 4 8 (by kernel_rfl)
   refine ⟨Facts.wanted_free rfl, ?_, hI, fun _ => rfl⟩
   simp [go_sem, Act.eval, f8]
  ·refine Facts.stepI_is (.int .i64 2) (fun a => Facts.BoxR.refl _ _ _ a) fun s a W hsz hsj hwt hI hold hnew => ?_
   have f8 : a.tmps.getD 8 undef = .tuple #[.agg zRowE, .int .i64 2] := hnew 4 8 (by kernel_rfl)
   refine ⟨Facts.wanted_free rfl, ?_, hI, fun _ => rfl⟩
   simp [go_sem, Act.eval, f8]
  ·refine Facts.stepI_new fun s a W hsz hsj hwt hI hold hnew => ?_
   exact ⟨Facts.wanted_free rfl, .pointer (some ⟨W.heap.size, 0, none⟩), W.alloc (.cells zRowE 38), by simp [go_sem, Act.eval, zRowE, hsf], hI.trans (((Below.refl _ _).alloc (Nat.le_refl _) _).mono hI.size), Facts.BoxR.below ((Below.refl _ _).alloc (Nat.le_refl _) _), W.heap.size, zRowE, rfl, hI.size, heap_alloc_new W _, rfl, by simp [zRowE, Value.oneCell']⟩
  ·refine Facts.stepI_store fun s a W hsz hsj hwt hI hold hnew => ?_
   have h6 : ∃ b Y, a.tmps.getD 6 undef = .pointer (some ⟨b, 0, none⟩) ∧ w2.heap.size ≤ b ∧ W.heap[b]? = some (.cells Y 38 (0, 0)) ∧ Y.size = 8 ∧ Y.all (·.oneCell') = true := hnew 7 6 (by kernel_rfl)
   obtain ⟨b6, Y6, f6, hb6, hx6, hs6, ho6⟩ := h6
   have f13 : a.tmps.getD 13 undef = .agg zRowE := hnew 5 13 (by kernel_rfl)
   exact ⟨Facts.wanted_free rfl, _, Facts.exec_putRow 38 (.tmp 6) (.tmp 13) rfl b6 38 Y6 zRowE f6 f13 hx6 (by kernel_rfl) (by rw [hs6]; rfl) (by simp [zRowE, Value.oneCell']), Below.beside hI (setRow_beside W b6 _) hI.size (by simp; exact hb6), Facts.BoxR.stored hx6 rfl (by simp [zRowE, Value.oneCell']), trivial⟩
  ·refine Facts.stepI_is (.int .i64 2) (fun a => Facts.BoxR.refl _ _ _ a) fun s a W hsz hsj hwt hI hold hnew => ?_
   have f14 : a.tmps.getD 14 undef = .int .i64 2 := hnew 6 14 (by kernel_rfl)
   refine ⟨Facts.wanted_free rfl, ?_, hI, fun _ => rfl⟩
   simp [go_sem, Act.eval, f14]
 ·intro a w3 hI hsize hdef hnew hold
  have h6 : ∃ b Y, a.tmps.getD 6 undef = .pointer (some ⟨b, 0, none⟩) ∧ w2.heap.size ≤ b ∧ w3.heap[b]? = some (.cells Y 38 (0, 0)) ∧ Y.size = 8 ∧ Y.all (·.oneCell') = true := hnew 7 6 (by kernel_rfl)
  obtain ⟨b6, Y6, f6, hb6, hx6, hs6, ho6⟩ := h6
  have f7 : a.tmps.getD 7 undef = .int .i64 2 := hnew 9 7 (by kernel_rfl)
  have f0 : a.tmps.getD 0 undef = Value.pointer none := hold 0 (Facts.not_dst (by kernel_rfl))
  have f3 : a.tmps.getD 3 undef = Value.pointer (some ⟨b3, 0, none⟩) := hold 3 (Facts.not_dst (by kernel_rfl))
  have f4 : a.tmps.getD 4 undef = Value.pointer (some ⟨b4, 0, none⟩) := hold 4 (Facts.not_dst (by kernel_rfl))
  obtain ⟨tm, df⟩ := a
  simp only [] at hdef hsize f0 f3 f4 f6 f7
  obtain ⟨xq, hxq, hlit⟩ := Facts.lits tm hsize Facts.idx28 Facts.idx28_eq
  rw [hxq] at f0 f3 f4 f6 f7
  simp only [Facts.idx28, List.map_cons, List.map_nil, f0, f3, f4, f6, f7] at hlit
  clear f0 f3 f4 f6 f7 hsize hnew hold hxq
  subst hlit
  subst hdef
  try simp only []
  have hb4l := (Array.getElem?_eq_some_iff.1 HG4.out).1
  have G43 := Lib.hid ((hI.block b4 hb4l).trans HG4.out)
  have G63 := Lib.hid hx6
  have HSZ := Lib.hid (And.intro hs6 (And.intro ho6 (HB2.out.trans (hI.mono HB2.out.size))))
  clear hI hx6 hs6 ho6 hb6 hb4l
  go_wp2_with (first
   | (refine wpList_getRow rfl 38 (.tmp 6) rfl b6 38 Y6 (0, 0) _ rfl G63.out Tryz.underlying38 rfl (by rw [HSZ.out.1]; kernel_rfl) ?_)
   | (refine wpList_putRow rfl 38 (.tmp 4) (.tmp 26) rfl b4 38 zRowE Y6 rfl rfl G43.out (by rw [HSZ.out.1]; kernel_rfl) (by rw [HSZ.out.1]; rfl) HSZ.out.2.1 ?_))
  intro w7 hW7 hbe7
  have FIN : Hid (Below w.heap.size w w7) := Lib.hid (Below.beside HSZ.out.2.2 hbe7 HSZ.out.2.2.size (by simp; have := HB34.out.2; omega))
  obtain ⟨c0, c1, c2, c3, c4, c5, c6, c7, rfl⟩ := eight HSZ.out.1
  obtain ⟨k0, k1, k2, k3, k4, k5, k6, k7⟩ := box8 hW7
  have HOC := Lib.hid HSZ.out.2.1
  clear hW7 hbe7
  go_wp2
  refine bodyPost_ret (v := .tuple #[.agg #[c0, c1, c2, c3, c4, c5, c6, c7], .int .i64 2]) ?_ rfl ⟨_, rfl, ⟨rfl, HOC.out⟩, FIN.out⟩
  simp [results, Tryz.results18, go_sem, k0, k1, k2, k3, k4, k5, k6, k7]
theorem cellV_nil (key : ByteArray) (w : World) : Calls Tryz.prog 51 #[.pointer none, .string key] w fun e w' => e = .returned (.tuple #[.agg zCell, .bool false]) ∧ Below w.heap.size w w' := by
 have hsf := store_float Tryz.prog
 obtain ⟨u, hu⟩ : ∃ u, u = w.alloc (.cells zCell 63) := ⟨_, rfl⟩
 have hb0 : Below w.heap.size w u := by rw [hu]; exact (Below.refl _ _).alloc (Nat.le_refl _) _
 have G4 := Lib.hid (show u.heap[w.heap.size]? = some (.cells zCell 63 (0, 0)) by rw [hu]; exact heap_alloc_new w _)
 have CF := Lib.hid (cellF_nil key u)
 have HB := Lib.hid hb0
 unfold zCell at hu
 have HU := Lib.hid hu
 clear hu hb0
 go_enter Tryz.func51, Tryz.ntmps51
 go_wp2_with fail
 rw [← HU.out]
 refine (end_nil u).mono ?_
 rintro e w1 ⟨rfl, hw1⟩
 rw [hw1]
 clear hw1
 go_wp2_with fail
 refine CF.out.mono ?_
 rintro e w2 ⟨rfl, hb2⟩
 have g4 := Lib.hid ((hb2.block _ (Array.getElem?_eq_some_iff.1 G4.out).1).trans G4.out)
 have H2 := Lib.hid (HB.out.trans (hb2.mono HB.out.size))
 clear hb2 CF
 unfold zCell
 go_wp2_with (first
  | (refine wpList_putRow rfl 63 (.tmp 4) (.tmp 10) rfl w.heap.size 63 zCell zCell rfl rfl g4.out (by kernel_rfl) rfl (by simp [zCell, Value.oneCell']) ?_))
 intro w3 hW3 hbe3
 unfold zCell at hW3
 obtain ⟨k0, k1, k2⟩ := Mtx.cells3 hW3
 have FIN := Lib.hid (Below.beside H2.out hbe3 H2.out.size (by simp))
 clear hW3 hbe3
 go_wp2
 refine bodyPost_ret (v := .tuple #[.agg #[.int .u8 0, .slice none 0 0, .float .f64 0], .bool false]) ?_ rfl ⟨rfl, FIN.out⟩
 simp [results, Tryz.results51, go_sem, k0, k1, k2]
theorem readR_nil (key : ByteArray) (w : World) : Calls Tryz.prog 19 #[.pointer none, .string key] w fun e w' => e = .returned (.tuple #[.agg zCell, .bool false]) ∧ Below w.heap.size w w' := by
 have hsf := store_float Tryz.prog
 obtain ⟨u, hu⟩ : ∃ u, u = w.alloc (.cells zCell 63) := ⟨_, rfl⟩
 have hb0 : Below w.heap.size w u := by rw [hu]; exact (Below.refl _ _).alloc (Nat.le_refl _) _
 have G4 := Lib.hid (show u.heap[w.heap.size]? = some (.cells zCell 63 (0, 0)) by rw [hu]; exact heap_alloc_new w _)
 have CF := Lib.hid (cellV_nil key u)
 have HB := Lib.hid hb0
 unfold zCell at hu
 have HU := Lib.hid hu
 clear hu hb0
 go_enter Tryz.func19, Tryz.ntmps19
 go_wp2_with fail
 rw [← HU.out]
 refine (view_nil u).mono ?_
 rintro e w1 ⟨rfl, hw1⟩
 rw [hw1]
 clear hw1
 go_wp2_with fail
 refine CF.out.mono ?_
 rintro e w2 ⟨rfl, hb2⟩
 have g4 := Lib.hid ((hb2.block _ (Array.getElem?_eq_some_iff.1 G4.out).1).trans G4.out)
 have H2 := Lib.hid (HB.out.trans (hb2.mono HB.out.size))
 clear hb2 CF
 unfold zCell
 go_wp2_with (first
  | (refine wpList_putRow rfl 63 (.tmp 4) (.tmp 10) rfl w.heap.size 63 zCell zCell rfl rfl g4.out (by kernel_rfl) rfl (by simp [zCell, Value.oneCell']) ?_))
 intro w3 hW3 hbe3
 unfold zCell at hW3
 obtain ⟨k0, k1, k2⟩ := Mtx.cells3 hW3
 have FIN := Lib.hid (Below.beside H2.out hbe3 H2.out.size (by simp))
 clear hW3 hbe3
 go_wp2
 refine bodyPost_ret (v := .tuple #[.agg #[.int .u8 0, .slice none 0 0, .float .f64 0], .bool false]) ?_ rfl ⟨rfl, FIN.out⟩
 simp [results, Tryz.results19, go_sem, k0, k1, k2]
def oftE (q : Nat) (E : Int) : Prop := (E = 0 ∧ 0 < q ∧ q < 1073741824) ∨ (E = 1 ∧ ¬ 0 < q) ∨ (E = 1 ∧ 0 < q ∧ ¬ q < 1073741824)
def whoE (to : Int) (E : Int) : Prop := (E = 0 ∧ 0 ≤ to ∧ to < 64) ∨ (E = 1 ∧ ¬ 0 ≤ to) ∨ (E = 1 ∧ 0 ≤ to ∧ ¬ to < 64)
theorem Rep0.below {w0 wa w : World} {r d g mb tb nd n C : Nat} {sz : Int} {hnd : nd < 64} {s : Sto} {S : List Nat} {f : Nat} (h : Rep0 w0 wa w r d g mb tb nd n C sz hnd s S f) : Below w0.heap.size w0 w := h.fr.below.trans (h.frame.mono h.fr.below.size)
theorem openR_often (d q : Nat) (S0 : List Nat) (w0 w : World) (T : Chk.Tabs w0) (ST : STabs w0) (hb : Below w0.heap.size w0 w) (hS0 : ∀ k ∈ S0, w0.heap.size ≤ k) (hd : Disk w d S0 [] ⟨((65536 : Nat) : Int), 0, -1, 0, false⟩) :
  Calls Tryz.prog 22 #[.pointer (some ⟨d, 0, none⟩), .int .i64 0, .agg (cfgRow 2 100 262144 2 2), .int .u64 (q : Int)] w fun e w' => ∃ v E, e = .returned (.tuple #[v, .int .i64 E]) ∧ oftE q E ∧ Below w0.heap.size w0 w' := by
 by_cases h : 0 < q ∧ q < 1073741824
 ·refine (openR_fresh d 0 2 65536 q 100 262144 2 2 S0 w0 w T ST hb hS0 hd h0_64 (by omega) (by omega) h).mono ?_
  rintro e w' ⟨wa, r, g, mb, tb, s, S, f, rfl, h2⟩
  exact ⟨_, 0, rfl, .inl ⟨rfl, h⟩, h2.below⟩
 ·refine (openR_arg _ 0 2 100 262144 2 2 q w (by omega)).mono ?_
  rintro e w' ⟨rfl, h2⟩
  refine ⟨_, 1, rfl, ?_, hb.trans (h2.mono hb.size)⟩
  by_cases h0 : 0 < q
  ·exact .inr (.inr ⟨rfl, h0, fun h1 => h ⟨h0, h1⟩⟩)
  ·exact .inr (.inl ⟨rfl, h0⟩)
theorem openR_whom (d : Nat) (to : Int) (S0 : List Nat) (w0 w : World) (T : Chk.Tabs w0) (ST : STabs w0) (hb : Below w0.heap.size w0 w) (hS0 : ∀ k ∈ S0, w0.heap.size ≤ k) (hd : Disk w d S0 [] ⟨((65536 : Nat) : Int), 0, -1, 0, false⟩) :
  Calls Tryz.prog 22 #[.pointer (some ⟨d, 0, none⟩), .int .i64 to, .agg (cfgRow 2 100 262144 2 2), .int .u64 1] w fun e w' => ∃ v E, e = .returned (.tuple #[v, .int .i64 E]) ∧ whoE to E ∧ Below w0.heap.size w0 w' := by
 by_cases h : 0 ≤ to ∧ to < 64
 ·obtain ⟨t, rfl⟩ := Int.eq_ofNat_of_zero_le h.1
  refine (openR_fresh d t 2 65536 1 100 262144 2 2 S0 w0 w T ST hb hS0 hd (by omega) (by omega) (by omega) (by omega)).mono ?_
  rintro e w' ⟨wa, r, g, mb, tb, s, S, f, rfl, h2⟩
  exact ⟨_, 0, rfl, .inl ⟨rfl, h⟩, h2.below⟩
 ·refine (openR_no _ to 2 100 262144 2 2 1 w (by omega) (by omega)).mono ?_
  rintro e w' ⟨rfl, h2⟩
  refine ⟨_, 1, rfl, ?_, hb.trans (h2.mono hb.size)⟩
  by_cases h0 : 0 ≤ to
  ·exact .inr (.inr ⟨rfl, h0, fun h1 => h ⟨h0, h1⟩⟩)
  ·exact .inr (.inl ⟨rfl, h0⟩)
end Go.Proofs.YtinjbdgjcadodaaGreatDoor.Rp
