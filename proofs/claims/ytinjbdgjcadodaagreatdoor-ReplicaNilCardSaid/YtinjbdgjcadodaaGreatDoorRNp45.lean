/- Texts of the law ReplicaNil, put together. -/
import Derived.Test.YtinjbdgjcadodaaGreatDoorRNp08
import Derived.Test.YtinjbdgjcadodaaGreatDoorRNp18
import Derived.Test.YtinjbdgjcadodaaGreatDoorRNp25
import Derived.Test.YtinjbdgjcadodaaGreatDoorRNp39
import Derived.Test.YtinjbdgjcadodaaGreatDoorRNp43
import Derived.Test.YtinjbdgjcadodaaGreatDoorRNp44
set_option linter.unusedVariables false
set_option linter.unusedSimpArgs false
set_option maxRecDepth 100000
namespace Go.Proofs.YtinjbdgjcadodaaGreatDoor.Rp
open Go Go.RowKit Words Enc Go.Proofs.YtinjbdgjcadodaaGreatDoor.Made Seg Evt St Fol
open Go.Proofs.YtinjbdgjcadodaaGreatDoor.Ord (HV noHV flat Rises evLe Lies Lists GoodLists TextLow)
open Go.Proofs.YtinjbdgjcadodaaGreatDoor.Vw (ViewAt ByGives by_any applyAll Flows)
def allE (E : Nat → List Ev) : List Ev := (List.range 64).flatMap E
def leE (a b : Ev) : Prop := a.time < b.time ∨ (a.time = b.time ∧ a.writer ≤ b.writer)
theorem lists_all {O : List Nat} {E : Nat → List Ev} {w : World} {b : Nat} {L : List HV} (h : StLists O E w b L) : (flat L).map EvS.e = allE E := by
 have h1 : L.map (fun x => x.S.map EvS.e) = (List.range 64).map E := by
  refine List.ext_getElem (by simp [h.len]) fun i hi hi2 => ?_
  simp only [List.getElem_map, List.getElem_range]
  have hi3 : i < L.length := by simpa using hi
  exact (h.each i L[i] (List.getElem?_eq_getElem hi3)).1
 unfold flat allE
 rw [List.map_flatMap, List.flatMap_def, List.flatMap_def, h1]
theorem base_s (g db mb : Nat) (s : Sto) (S : List Nat) (F : Fo) (w : World) (hs : StoAt w g s) (hb : s.base = .pointer (some ⟨db, 0, none⟩)) (hF : FoldAt w S db mb F) :
  Calls Tryz.prog 103 #[.pointer (some ⟨g, 0, none⟩)] w fun e w' => ∃ d2 mb2, e = .returned (.pointer (some ⟨d2, 0, none⟩)) ∧ FoldAt w' (d2 :: mb2 :: S) d2 mb2 F ∧ Below w.heap.size w w' := by
 obtain ⟨-, -, -, -, -, -, -, c7⟩ := hs.head
 rw [hb] at c7
 have CP := Lib.hid (copy_any S db mb F w hF)
 clear hs hb hF
 go_enter Tryz.func103, Tryz.ntmps103
 go_wp2_with fail
 refine CP.out.mono ?_
 rintro e w1 ⟨d2, mb2, rfl, -, -, hf, hb⟩
 have FIN := Lib.hid (And.intro hf hb)
 clear hf hb
 go_wp2
 go_ret
 exact ⟨d2, mb2, rfl, FIN.out⟩
def OfGives (w : World) (E : Nat → List Ev) (F : Fo) (e : Ending) (w' : World) : Prop :=
 ∃ vb b0 st A c R l, e = .returned (.pointer (some ⟨vb, 0, none⟩)) ∧ ViewAt w' vb b0 st F (applyAll F l) A c R ∧ R.map EvS.e = l ∧ l.Perm (allE E) ∧ l.Pairwise leE ∧ Below w.heap.size w w'
set_option maxHeartbeats 1000000 in
theorem of_s (O : List Nat) (E : Nat → List Ev) (g db mb : Nat) (s : Sto) (S : List Nat) (F : Fo) (w : World) (hs : StoAt w g s) (hb : s.base = .pointer (some ⟨db, 0, none⟩)) (hF : FoldAt w S db mb F) (hS : ∀ x ∈ S, x < w.heap.size) (hA : Alls O s E w) (hE : GoodE E)
  (hfew : (allE E).length ≤ 1000) (hfit : ∀ e ∈ allE E, e.Fit ∧ e.key.size ≤ 64) (hflow : ∀ l, l.Perm (allE E) → l.Pairwise leE → Flows F l) (hl : F.L.length ≤ 100000) :
  Calls Tryz.prog 57 #[.pointer (some ⟨g, 0, none⟩)] w (OfGives w E F) := by
 have BS := Lib.hid (base_s g db mb s S F w hs hb hF)
 have HS := Lib.hid hs
 have HA := Lib.hid hA
 have HE := Lib.hid (And.intro hE (And.intro hfew (And.intro hfit (And.intro hflow hl))))
 have HSS := Lib.hid hS
 clear hs hb hF hS hA hE hfew hfit hflow hl
 go_enter Tryz.func57, Tryz.ntmps57
 go_wp2_with fail
 refine BS.out.mono ?_
 rintro e w1 ⟨d2, mb2, rfl, hf1, hb1⟩
 have LS := Lib.hid (lists_any O E g s w1 (HS.out.below hb1) (HA.out.below hb1))
 have H1 := Lib.hid (And.intro hf1 hb1)
 clear hf1 hb1
 go_wp2_with fail
 refine LS.out.mono ?_
 rintro e w2 ⟨rfl, hr, hb2⟩
 obtain ⟨L, hL⟩ := hr.lists
 obtain ⟨b7, hb7⟩ : ∃ b, b = w1.heap.size := ⟨_, rfl⟩
 rw [← hb7] at hL ⊢
 have hall := lists_all hL
 have hmem : ∀ r ∈ flat L, r.e ∈ allE E := fun r hr => by rw [← hall]; exact List.mem_map.2 ⟨r, hr, rfl⟩
 have BY := by_any (some ⟨b7, 0, none⟩) 64 L (d2 :: mb2 :: S) d2 mb2 F w2 (H1.out.1.below hb2) (hL.good HE.out.1) (fun x hx => by
  have hl := H1.out.1.lt
  have h1 := H1.out.2.size
  have h2 := hb2.size
  rcases List.mem_cons.1 hx with rfl | hx
  ·omega
  ·rcases List.mem_cons.1 hx with rfl | hx
   ·omega
   ·have := HSS.out x hx; omega) (by rw [← List.length_map (f := EvS.e), hall]; exact HE.out.2.1) (fun r hr => ⟨(HE.out.2.2.1 _ (hmem r hr)).1, (HE.out.2.2.1 _ (hmem r hr)).2, by
    have := ((hL.good HE.out.1).text r hr)
    obtain ⟨x, hx, hr2⟩ := flat_at hr
    obtain ⟨i, hi, _, he⟩ := hL.at_ hx
    have h3 := HE.out.1.text i hi r.e (by rw [← he]; exact List.mem_map.2 ⟨r, hr2, rfl⟩)
    have h4 : r.e.text.length = r.n := this.sees.1
    omega⟩) (fun r0 hp hri => HE.out.2.2.2.1 _ (by rw [← hall]; exact hp.map _) (by rw [List.pairwise_map]; exact hri)) HE.out.2.2.2.2
 rw [hL.len] at BY
 have BY := Lib.hid BY
 have HB2 := Lib.hid (H1.out.2.trans (hb2.mono H1.out.2.size))
 have HALL := Lib.hid hall
 clear hr hb2 hb7 hall hmem hL
 go_wp2_with fail
 refine BY.out.mono ?_
 rintro e w3 ⟨vb, b0, st, g3, R, r0, rfl, hv, hR, hp, hri, hb3⟩
 have FIN : Hid (OfGives w E F (.returned (.pointer (some ⟨vb, 0, none⟩))) w3) := Lib.hid ⟨vb, b0, st, _, _, R, r0.map EvS.e, rfl, hv, hR, by rw [← HALL.out]; exact hp.map _, by rw [List.pairwise_map]; exact hri, HB2.out.trans (hb3.mono HB2.out.size)⟩
 clear hv hR hp hri hb3
 go_wp2
 go_ret
 exact FIN.out
end Go.Proofs.YtinjbdgjcadodaaGreatDoor.Rp
namespace Go.Proofs.YtinjbdgjcadodaaGreatDoor.St
open Go Go.RowKit Words Enc Go.Proofs.YtinjbdgjcadodaaGreatDoor.Made Dsk Fol
def nodesS (l : List Nat) : List Value := l.map fun x : Nat => Value.int .i64 (x : Int)
theorem infoIntS : (Tryz.prog.info? 3).map (fun i => (i.zero, i.size, i.bytes)) = some (some (.int .i64 0), 1, 8) := by kernel_rfl
def memSL (s : Sto) : Nat → List Nat
 | 0 => []
 | j + 1 => memSL s j ++ if memS s j = true then [j] else []
set_option maxHeartbeats 1000000 in
theorem members_s (g : Nat) (s : Sto) (w : World) (h : StoAt w g s) :
  Calls Tryz.prog 98 #[.pointer (some ⟨g, 0, none⟩)] w fun e w' => ∃ A c, e = .returned (.slice A (memSL s 64).length c) ∧ w'.ownsRow w.heap.size 3 1 (.slice A (memSL s 64).length c) (memSL s 64).length (nodesS (memSL s 64)) ∧ Below w.heap.size w w' := by
 obtain ⟨i, hi, hz, hsz, hby⟩ := info_parts infoIntS
 have H := Lib.hid h
 obtain ⟨ML, hML⟩ : ∃ ML, ML = memSL s 64 := ⟨_, rfl⟩
 rw [← hML]
 have HML := Lib.hid hML
 clear h hML
 go_enter Tryz.func98, Tryz.ntmps98
 go_wp2_with fail
 go_loopw [3, 5] (fun a3 a5 wr => ∃ (j : Nat) (A : Option Addr) (m c : Nat), a5 = .int .i64 (j : Int) ∧ a3 = .slice A m c ∧ j ≤ 64 ∧ m ≤ j ∧ Hid (m = (memSL s j).length) ∧ Hid (wr.ownsRow w.heap.size 3 1 (.slice A m c) m (nodesS (memSL s j))) ∧ Hid (Below w.heap.size w wr)) (fun a3 a5 _ => 64 - (intOf a5).toNat)
 case atStart => exact ⟨0, none, 0, 0, rfl, rfl, by omega, by omega, Lib.hid rfl, Lib.hid (World.ownsRow_nil _ _ _ _), Lib.hid (Below.refl _ _)⟩
 case round =>
  obtain ⟨j, A, m, c, rfl, rfl, hj, hmj, HM, HO, HB⟩ := hrel
  by_cases h1 : j < 64
  ·have hd : decide ((j : Int) < 64) = true := decide_eq_true (by omega)
   have MB := Lib.hid (member_s g s j wr (H.out.below HB.out) h1)
   obtain ⟨x, hx⟩ : ∃ x, x = memS s j := ⟨_, rfl⟩
   rw [← hx] at MB
   have HX := Lib.hid hx
   clear hx
   cases x with
   | true =>
     go_wp2_with fail
     refine MB.out.mono ?_
     rintro e w1 ⟨rfl, hb1⟩
     have hb0 := HB.out
     have o1 := Own.below HO.out hb1 (Nat.le_refl _)
     have hs1 := hb0.size
     have hs2 := hb1.size
     have o2 := World.ownsRow.alloc o1 (.cells #[.int .i64 (j : Int)] 3)
     have HL : Hid (memSL s (j + 1) = memSL s j ++ [j]) := Lib.hid (by rw [memSL, if_pos HX.out.symm])
     have HB1 := Lib.hid hb1
     clear hb1 MB hb0 o1
     go_wp2_with (first | (at_builtin; (refine wpList_append_own _ rfl _ _ 165 rfl w.heap.size 3 i (.int .i64 0) 1 8 Tryz.underlying165 hi hz hsz hby rfl (by decide) (.slice A m c) m (nodesS (memSL s j)) rfl o2 ⟨w1.heap.size, 0, none⟩ 1 1 [.int .i64 (j : Int)] rfl rfl ?c1 ?c2 ?c3 ?c4 ?c5 ?_)))
     case c1 =>
      intro j u hj
      match j, hj with
      | 0, hj => simp at hj; subst hj; simp [Addr.add]
     case c2 => intro u hu; simp at hu; subst hu; rfl
     case c3 => unfold maxLen; omega
     case c4 => omega
     case c5 => simp; omega
     intro v' w3 hown3 hgrow _
     have hb3 : Below w.heap.size (w1.alloc (.cells #[.int .i64 (j : Int)] 3)) w3 := (Below.refl _ _).grown hgrow (by simp; omega) (fun g hg => by have := (o2.lt g hg).1; omega)
     have HB3 := Lib.hid ((HB.out.trans (HB1.out.mono hs1)).trans (((Below.refl _ _).alloc (by omega) _).trans hb3))
     obtain ⟨A3, c3, rfl, _⟩ := Own.shape hown3
     have HO3 := Lib.hid hown3
     clear hown3 hb3 hgrow o2
     go_wp2
     go_roundw
     case rel => exact ⟨j + 1, A3, m + 1, c3, by simp, rfl, by omega, by omega, Lib.hid (by rw [HL.out, List.length_append, ← HM.out]; rfl), Lib.hid (by rw [HL.out]; simpa [nodesS] using HO3.out), HB3⟩
     case measure => simp [intOf]; omega
   | false =>
     go_wp2_with fail
     refine MB.out.mono ?_
     rintro e w1 ⟨rfl, hb1⟩
     have hs1 := HB.out.size
     have HO1 := Lib.hid (Own.below HO.out hb1 (Nat.le_refl _))
     have HB1 := Lib.hid (HB.out.trans (hb1.mono hs1))
     have HL : Hid (memSL s (j + 1) = memSL s j) := Lib.hid (by rw [memSL, if_neg (by rw [← HX.out]; simp)]; simp)
     clear hb1 MB
     go_wp2
     go_roundw
     case rel => exact ⟨j + 1, A, m, c, by simp, rfl, by omega, by omega, Lib.hid (by rw [HL.out]; exact HM.out), Lib.hid (by rw [HL.out]; exact HO1.out), HB1⟩
     case measure => simp [intOf]; omega
  ·have hd : decide ((j : Int) < 64) = false := decide_eq_false (by omega)
   obtain rfl : j = 64 := by omega
   go_wp2
   go_ret
   have hm := HM.out
   have ho := HO.out
   rw [← HML.out] at hm ho
   subst hm
   exact ⟨A, c, rfl, ho, HB.out⟩
end Go.Proofs.YtinjbdgjcadodaaGreatDoor.St
namespace Go.Proofs.YtinjbdgjcadodaaGreatDoor.Rp
open Go Go.RowKit Words Enc Go.Proofs.YtinjbdgjcadodaaGreatDoor.Made Dsk Seg Evt St
open Mtx (Hav noHav MatAt mat_new Raised ListsAt boundUpto rowBound limit listOf bound_any knownV endT)
open Go.Proofs.YtinjbdgjcadodaaGreatDoor.Ord (HV)
theorem trim_none (w : World) : Calls Tryz.prog 48 #[.slice none 0 0] w fun e w' => e = .returned (.slice none 0 0) ∧ w' = w := by
 have CL : Calls Tryz.prog 85 #[.slice none 0 0] w fun e w' => e = .returned (.slice none 0 0) ∧ w' = w := by
  have he := Vec.eql_none w 0 0
  go_enter Tryz.func85, Tryz.ntmps85
  go_wp2
  go_ret
  exact ⟨rfl, rfl⟩
 have CL := Lib.hid CL
 go_enter Tryz.func48, Tryz.ntmps48
 go_wp2_with fail
 go_loopw [3] (fun x wr => x = .int .i64 0 ∧ wr = w) (fun x _ => 0)
 case atStart => exact ⟨rfl, rfl⟩
 case round =>
  obtain ⟨rfl, rfl⟩ := hrel
  go_wp2_with fail
  refine CL.out.mono ?_
  rintro e w1 ⟨rfl, rfl⟩
  go_wp2
  go_ret
  exact ⟨rfl, rfl⟩
theorem floor_0 (g : Nat) (s : Sto) (w : World) (h : StoAt w g s) (hf : s.fl = .slice none 0 0) : Calls Tryz.prog 99 #[.pointer (some ⟨g, 0, none⟩)] w fun e w' => e = .returned (.slice none 0 0) ∧ w' = w := by
 obtain ⟨-, -, -, -, c4, -⟩ := h.head
 rw [hf] at c4
 have TR := Lib.hid (trim_none w)
 clear h hf
 go_enter Tryz.func99, Tryz.ntmps99
 go_wp2_with fail
 refine TR.out.mono ?_
 rintro e w1 ⟨rfl, rfl⟩
 go_wp2
 go_ret
 exact ⟨rfl, rfl⟩
theorem time_s (g : Nat) (s : Sto) (w : World) (h : StoAt w g s) : Calls Tryz.prog 101 #[.pointer (some ⟨g, 0, none⟩)] w fun e w' => e = .returned (.int .u64 (s.tm : Int)) ∧ w' = w := by
 obtain ⟨-, -, -, -, -, c5, -⟩ := h.head
 clear h
 go_enter Tryz.func101, Tryz.ntmps101
 go_wp2
 go_ret
 exact ⟨rfl, rfl⟩
theorem mem_first {s : Sto} (hj : ∀ k, k < 64 → s.J.getD k false = decide (k < 1)) (hr : ∀ k, k < 64 → s.R.getD k false = false) : memSL s 64 = [0] := by
 have h0 : memS s 0 = true := by unfold memS; rw [hj 0 (by omega), hr 0 (by omega)]; rfl
 have h1 : ∀ k, 0 < k → k < 64 → memS s k = false := fun k hk hk2 => by unfold memS; rw [hj k hk2, hr k hk2, decide_eq_false (by omega)]; rfl
 have h2 : ∀ j, j + 1 ≤ 64 → memSL s (j + 1) = [0] := fun j => by
  induction j with
  | zero => intro _; simp [memSL, h0]
  | succ j ih => intro hj2; rw [memSL, ih (by omega), h1 (j + 1) (by omega) (by omega)]; simp
 exact h2 63 (by omega)
theorem bound_first {O : List Nat} {y : Ev} {w : World} {b : Nat} {L : List HV} (hL : StLists O (oneE 0 y) w b L) {R : Nat → Hav} (ht : (R 0).t = 1) (hh : ∀ i, Vec.at_ (R 0).H i = if i < 64 then oneN 0 i else 0) :
  boundUpto 64 (fun i => havOf (HV.at_ L i)) R [0] 1 = 1 := by
 have hn : ∀ k, k < 64 → (havOf (HV.at_ L k)).n = if k = 0 then 1 else 0 := fun k hk => by
  have hk' : k < L.length := by rw [hL.len]; exact hk
  have hx : L[k]? = some (HV.at_ L k) := by
   unfold HV.at_
   rw [List.getElem?_eq_getElem hk', List.getD_eq_getElem?_getD, List.getElem?_eq_getElem hk']
   rfl
  have := congrArg List.length (hL.each k _ hx).1
  rw [List.length_map] at this
  show (HV.at_ L k).S.length = _
  rw [this]
  unfold oneE
  split <;> rfl
 have hlim : ∀ j, j ≤ 64 → limit (fun i => havOf (HV.at_ L i)) (R 0).H (R 0).t j = 1 := fun j => by
  induction j with
  | zero => intro _; exact ht
  | succ j ih =>
    intro hj
    rw [limit, if_neg, ih (by omega)]
    rw [hh j, if_pos (by omega), hn j (by omega)]
    unfold oneN
    split <;> omega
 show Nat.min endT (rowBound 64 _ (R ([0].getD 0 0)) ([0].getD 0 0)) = 1
 show Nat.min endT (rowBound 64 _ (R 0) 0) = 1
 unfold rowBound
 rw [if_neg, hlim 64 (Nat.le_refl _)]
 ·rfl
 ·rw [hh 0, if_pos (by omega)]
  unfold listOf
  rw [if_pos (by omega), hn 0 (by omega)]
  decide
theorem goodE_first {y : Ev} (ht : y.time = 1) (hx : y.text.length ≤ 29) : GoodE (oneE 0 y) := by
 have hm : ∀ i, ∀ e ∈ oneE 0 y i, e = y := fun i e he => by
  unfold oneE at he
  split at he
  ·simpa using he
  ·cases he
 refine ⟨fun i _ => ?_, fun i _ => ?_, fun i _ e he => ?_, fun i _ e he => ?_⟩
 ·unfold oneE; split <;> simp
 ·unfold oneE; split <;> simp
 ·rw [hm i e he, ht]; omega
 ·rw [hm i e he]; omega
theorem Rep1.next {w0 w W : World} {r g mb tb nd n st : Nat} {s : Sto} {y : Ev} (h : Rep1 w0 w r g mb tb nd n st s y) (hb : Below w.heap.size w W) : Rep1 w0 W r g mb tb nd n st s y :=
 ⟨h.first.next hb, (hb.block r (Array.getElem?_eq_some_iff.1 h.row).1).trans h.row, by obtain ⟨R, h1, h2⟩ := h.mat; exact ⟨R, h1.below hb, h2⟩, h.new⟩
theorem sto_drewN {w : World} {g : Nat} {s : Sto} (h : StoAt w g s) (k : Nat) : StoAt (w.drewN k) g s := ⟨h.row, h.ok⟩
set_option maxHeartbeats 2000000 in
theorem stableBy_first {w0 w : World} {r g mb tb : Nat} {s : Sto} {y : Ev} (h : Rep1 w0 w r g mb tb 0 1 0 s y) (hy : y.time = 1) (hx : y.text.length ≤ 29) :
  Calls Tryz.prog 54 #[.pointer (some ⟨r, 0, none⟩), .pointer (some ⟨mb, 0, none⟩)] w fun e w' => e = .returned (.int .u64 1) ∧ Below w.heap.size w w' := by
 obtain ⟨k0, k1, k2, k3⟩ := rep_cells h.row
 have ME := members_s g s w h.first.sto
 rw [mem_first h.first.jn h.first.rt] at ME
 have ME := Lib.hid ME
 have H := Lib.hid h
 have HY := Lib.hid (And.intro hy hx)
 clear h hy hx
 go_enter Tryz.func54, Tryz.ntmps54
 go_wp2_with fail
 refine ME.out.mono ?_
 rintro e w1 ⟨A, c, rfl, ho, hb1⟩
 obtain ⟨gA, rfl, -⟩ := own_at8 ho (by simp)
 have hcell : w1.cell? ⟨gA, 0, none⟩ = some (.int .i64 0) := by
  have := ho.cells (g := gA) rfl 0 (.int .i64 0) (by simp [nodesS])
  simpa [add_plain] using this
 have HC := Lib.hid hcell
 have HB1 := Lib.hid hb1
 have FL := Lib.hid (floor_0 g s w1 (H.out.first.sto.below hb1) H.out.first.fl)
 clear ho hb1 hcell ME k0 k1 k2 k3
 go_wp2_with fail
 refine FL.out.mono ?_
 rintro e w2 ⟨rfl, rfl⟩
 obtain ⟨O, hO⟩ := H.out.first.alls
 have LS := Lib.hid (lists_any O (oneE 0 y) g s w2 (H.out.first.sto.below HB1.out) (hO w2 (Beside.of_below HB1.out _)))
 clear hO FL
 go_wp2_with fail
 refine LS.out.mono ?_
 rintro e w3 ⟨rfl, hr, hb3⟩
 obtain ⟨L, hL⟩ := hr.lists
 obtain ⟨ob, hob⟩ : ∃ b, b = w2.heap.size := ⟨_, rfl⟩
 rw [← hob] at hL ⊢
 obtain ⟨R, hM, ht, hh⟩ := H.out.mat
 have hb13 := HB1.out.trans (hb3.mono HB1.out.size)
 have BD := bound_any mb gA c ob 64 R (fun i => havOf (HV.at_ L i)) [0] w3 (hM.below hb13) (hL.known (goodE_first HY.out.1 HY.out.2)) (fun i hi => by
  have : i = 0 := by simpa using hi
  subst this
  exact ⟨(hb3.cell (World.block_lt_of_cell? _ _ HC.out)).trans HC.out, by decide⟩) (by simp) (by simp)
 rw [show ([0] : List Nat).length = 1 from rfl, bound_first hL (by rw [ht, HY.out.1]) hh] at BD
 have BD := Lib.hid BD
 have HB3 := Lib.hid hb13
 clear hr hL hob hM ht hh hb13 hb3 LS
 unfold knownV at BD
 go_wp2_with fail
 refine BD.out.mono ?_
 rintro e w4 ⟨rfl, hb4⟩
 have HB4 := Lib.hid (HB3.out.trans (hb4.mono HB3.out.size))
 have h4 := H.out.next HB4.out
 obtain ⟨k0, k1, k2, k3⟩ := rep_cells h4.row
 have HS4 := Lib.hid h4.first.sto
 have htm := h4.first.tm
 clear hb4 BD h4
 go_wp2_with fail
 go_quiet (first | (refine (time_s g s _ (sto_drewN HS4.out _)).mono ?_; rw [htm]; intro e w1 h; exact ⟨h.1, _, h.2⟩))
 go_wp2
 go_ret
 exact ⟨rfl, ⟨HB4.out.os, HB4.out.tape, HB4.out.output, HB4.out.size, HB4.out.block⟩⟩
set_option maxHeartbeats 2000000 in
theorem stable_first {w0 w : World} {r g mb tb : Nat} {s : Sto} {y : Ev} (h : Rep1 w0 w r g mb tb 0 1 0 s y) (hy : y.time = 1) (hx : y.text.length ≤ 29) :
  Calls Tryz.prog 25 #[.pointer (some ⟨r, 0, none⟩)] w fun e w' => e = .returned (.int .u64 1) ∧ Below w0.heap.size w0 w' := by
 have CE4 : Hid (∀ W, Below w.drew.heap.size w.drew W → W.cell? ⟨r, 0, none⟩ = some (.pointer (some ⟨g, 0, none⟩)) ∧ W.cell? ⟨r, 1, none⟩ = some (.pointer (some ⟨mb, 0, none⟩)) ∧ W.cell? ⟨r, 2, none⟩ = some (.pointer (some ⟨tb, 0, none⟩)) ∧ W.cell? ⟨r, 3, none⟩ = some (.int .u64 ((0 : Nat) : Int))) := Lib.hid fun W hW => rep_cells (h.next (((Below.refl w.heap.size w).drew).trans hW)).row
 have H := Lib.hid h
 have HY := Lib.hid (And.intro hy hx)
 clear h hy hx
 go_enter Tryz.func25, Tryz.ntmps25
 go_upto_region 3 with fail
 refine Facts.wp_region_tail 8 (n := 27) (by kernel_rfl) (by kernel_rfl) (by kernel_rfl) rfl [Facts.Pred.is (.pointer (some ⟨r, 0, none⟩)), Facts.Pred.is (.pointer (some ⟨r, 0, none⟩)), Facts.Pred.is (.pointer (some ⟨r, 0, none⟩)), Facts.Pred.is (.pointer (some ⟨g, 0, none⟩)), Facts.Pred.is (.pointer (some ⟨r, 0, none⟩)), Facts.Pred.is (.pointer (some ⟨r, 0, none⟩)), Facts.Pred.is (.pointer (some ⟨r, 1, none⟩)), Facts.Pred.is (.pointer (some ⟨mb, 0, none⟩))] ?_ ?_
 ·refine ⟨?_, ?_, ?_, ?_, ?_, ?_, ?_, ?_, trivial⟩
  ·refine Facts.step_is (.pointer (some ⟨r, 0, none⟩)) fun a W hR hold hnew => ?_
   have f0 : a.tmps.getD 0 undef = .pointer (some ⟨r, 0, none⟩) := hold 0 (by kernel_rfl)
   refine ⟨Facts.wanted_free rfl, ?_, fun _ => rfl⟩; simp [go_sem, Act.eval, f0]
  ·refine Facts.step_is (.pointer (some ⟨r, 0, none⟩)) fun a W hR hold hnew => ?_
   have f5 : a.tmps.getD 5 undef = .pointer (some ⟨r, 0, none⟩) := hnew 0 5 (by kernel_rfl)
   refine ⟨Facts.wanted_free rfl, ?_, fun _ => rfl⟩; simp [go_sem, Act.eval, f5]
  ·refine Facts.step_is (.pointer (some ⟨r, 0, none⟩)) fun a W hR hold hnew => ?_
   have f6 : a.tmps.getD 6 undef = .pointer (some ⟨r, 0, none⟩) := hnew 1 6 (by kernel_rfl)
   refine ⟨Facts.wanted_free rfl, ?_, fun _ => rfl⟩; simp [go_sem, Act.eval, f6]
  ·refine Facts.step_is (.pointer (some ⟨g, 0, none⟩)) fun a W hR hold hnew => ?_
   have f7 : a.tmps.getD 7 undef = .pointer (some ⟨r, 0, none⟩) := hnew 2 7 (by kernel_rfl)
   obtain ⟨k0, k1, k2, k3⟩ := CE4.out W hR
   refine ⟨Facts.wanted_free rfl, ?_, fun _ => rfl⟩; simp [go_sem, Act.eval, f7, k0]
  ·refine Facts.step_is (.pointer (some ⟨r, 0, none⟩)) fun a W hR hold hnew => ?_
   have f0 : a.tmps.getD 0 undef = .pointer (some ⟨r, 0, none⟩) := hold 0 (by kernel_rfl)
   refine ⟨Facts.wanted_free rfl, ?_, fun _ => rfl⟩; simp [go_sem, Act.eval, f0]
  ·refine Facts.step_is (.pointer (some ⟨r, 0, none⟩)) fun a W hR hold hnew => ?_
   have f9 : a.tmps.getD 9 undef = .pointer (some ⟨r, 0, none⟩) := hnew 4 9 (by kernel_rfl)
   refine ⟨Facts.wanted_free rfl, ?_, fun _ => rfl⟩; simp [go_sem, Act.eval, f9]
  ·refine Facts.step_is (.pointer (some ⟨r, 1, none⟩)) fun a W hR hold hnew => ?_
   have f10 : a.tmps.getD 10 undef = .pointer (some ⟨r, 0, none⟩) := hnew 5 10 (by kernel_rfl)
   refine ⟨Facts.wanted_free rfl, ?_, fun _ => rfl⟩; simp [go_sem, Act.eval, f10]
  ·refine Facts.step_is (.pointer (some ⟨mb, 0, none⟩)) fun a W hR hold hnew => ?_
   have f11 : a.tmps.getD 11 undef = .pointer (some ⟨r, 1, none⟩) := hnew 6 11 (by kernel_rfl)
   obtain ⟨k0, k1, k2, k3⟩ := CE4.out W hR
   refine ⟨Facts.wanted_free rfl, ?_, fun _ => rfl⟩; simp [go_sem, Act.eval, f11, k1]
 ·intro a w2 hR' hsize hdef hnew hold
  have f8 : a.tmps.getD 8 undef = .pointer (some ⟨g, 0, none⟩) := hnew 3 8 (by omega) (by kernel_rfl)
  have f12 : a.tmps.getD 12 undef = .pointer (some ⟨mb, 0, none⟩) := hnew 7 12 (by omega) (by kernel_rfl)
  have f0 : a.tmps.getD 0 undef = Value.pointer (some ⟨r, 0, none⟩) := hold 0 (fun i _ => Facts.not_dst (by kernel_rfl) i)
  obtain ⟨tm, df⟩ := a
  simp only [] at hdef hsize f0 f8 f12
  obtain ⟨xq, hxq, hlit⟩ := Facts.lits tm hsize Facts.idx27 Facts.idx27_eq
  rw [hxq] at f0 f8 f12
  simp only [Facts.idx27, List.map_cons, List.map_nil, f0, f8, f12] at hlit
  clear f0 f8 f12 hsize hnew hold hxq
  subst hlit
  subst hdef
  try simp only []
  simp only [List.drop_succ_cons, List.drop_zero]
  have hb2 : Below w.heap.size w w2 := ((Below.refl w.heap.size w).drew).trans hR'
  have h2 := H.out.next hb2
  obtain ⟨R, hM, ht, hh⟩ := h2.mat
  have NT := Lib.hid (note_t g mb 0 s (oneN 0) R w2 h2.first.sto (h2.first.nexts w2 (Beside.refl _ _)) hM (by omega) h2.first.node (by rw [h2.first.ck, HY.out.1]; omega))
  have H2 := Lib.hid (And.intro h2 (And.intro ht hh))
  clear hb2 h2 hM ht hh hR'
  go_wp2_with fail
  refine NT.out.mono ?_
  rintro e w3 ⟨rfl, w9, R', hb9, hR⟩
  obtain ⟨h2, ht, hh⟩ := H2.out
  have h9 := h2.next hb9
  have hnew := h9.new
  have hf3 := h9.first.beside (hR.beside.wider (S1 := [mb, r]) fun k hk => .inl (by simp at hk; simp [hk])) (fun k hk => by simp at hk; omega)
  have hr3 := (hR.beside.block r (Array.getElem?_eq_some_iff.1 h9.row).1 (by simp; omega)).trans h9.row
  have h3 : Rep1 w0 w3 r g mb tb 0 1 0 s y := ⟨hf3, hr3, ⟨R', hR.mat, by rw [hR.time, ht, h9.first.ck]; exact Nat.max_self _, fun i => by
   rw [hR.have_ i, hh i, haveT_atN, haveL_at]
   exact Nat.max_self _⟩, hnew⟩
  have SB := Lib.hid (stableBy_first h3 HY.out.1 HY.out.2)
  have H3 := Lib.hid h3
  obtain ⟨k0, k1, k2, k3⟩ := rep_cells hr3
  clear hb9 hR h2 ht hh h9 hnew hf3 hr3 h3 NT
  go_wp2_with fail
  refine SB.out.mono ?_
  rintro e w4 ⟨rfl, hb4⟩
  have h4 := H3.out.next hb4
  obtain ⟨k0, k1, k2, k3⟩ := rep_cells h4.row
  have y3 : w4.frozen? ⟨r, 3, none⟩ = false := frozen_row0 h4.row
  have hrl := (Array.getElem?_eq_some_iff.1 h4.row).1
  have FIN : Hid (Below w0.heap.size w0 (w4.setCell ⟨r, 3, none⟩ (.int .u64 1))) := Lib.hid (h4.first.below.setCell (by have := h4.new; simp; omega) _)
  clear hb4 h4
  go_wp2
  go_ret
  exact ⟨rfl, FIN.out⟩
end Go.Proofs.YtinjbdgjcadodaaGreatDoor.Rp
namespace Go.Proofs.YtinjbdgjcadodaaGreatDoor.Rp
open Go Go.RowKit Words Enc Go.Proofs.YtinjbdgjcadodaaGreatDoor.Made Dsk Seg Evt St Fol
open Go.Proofs.YtinjbdgjcadodaaGreatDoor.Vw (ViewAt applyAll Flows)
def exSet : Ev := ⟨0, 0, 0, 1, ⟨#[107]⟩, [118], 0, 0⟩
def exY : Ev := ⟨0, 1, 1, 1, ⟨#[107]⟩, [118], 0, 0⟩
theorem exSet_y : asOwn exSet 0 1 1 = exY := rfl
theorem exSet_e : rightE (asOwn exSet 0 1 1) = 0 := by decide +kernel
theorem exSet_fit : exSet.Fit := ⟨by decide, by decide, by decide, by decide, by decide, by decide, by decide, by decide⟩
theorem exY_fit : exY.Fit := ⟨by decide, by decide, by decide, by decide, by decide, by decide, by decide, by decide⟩
theorem exY_flows : Flows (newF 1) [exY] := ⟨by decide +kernel, trivial⟩
theorem exY_all : allE (oneE 0 exY) = [exY] := by
 unfold allE
 rw [show List.range 64 = 0 :: (List.range 63).map (· + 1) from by decide]
 rw [List.flatMap_cons]
 have : ((List.range 63).map (· + 1)).flatMap (oneE 0 exY) = [] := by
  rw [List.flatMap_eq_nil_iff]
  intro i hi
  obtain ⟨j, _, rfl⟩ := List.mem_map.1 hi
  rfl
 rw [this]
 rfl
theorem exY_cell : ∃ c, lk (⟨#[107]⟩ : ByteArray).data.toList (applyAll (newF 1) [exY]).L = some c ∧ c.text = [118] := ⟨_, rfl, rfl⟩
set_option maxHeartbeats 1000000 in
theorem cellW_any {w : World} {vb b0 st : Nat} {F0 F : Fo} {A : Option Addr} {c : Nat} {R : List EvS} (h : ViewAt w vb b0 st F0 F A c R) (k : ByteArray) (hk : k.size ≤ 100000) {cl : Cel} (hc : lk k.data.toList F.L = some cl) (ht : cl.text = [118]) :
  Calls Tryz.prog 51 #[.pointer (some ⟨vb, 0, none⟩), .string k] w fun e w' => (∃ A n cap, e = .returned (.tuple #[.agg #[.int .u8 (cl.kind : Int), .slice A n cap, .float .f64 cl.num], .bool true]) ∧ Sees w' A n cl.text) ∧ Below w.heap.size w w' := by
 have hsf := store_float Tryz.prog
 obtain ⟨S, mb, hF⟩ := h.state
 have hb0 : Below w.heap.size w (w.alloc (.cells zCell 63)) := (Below.refl _ _).alloc (Nat.le_refl _) _
 obtain ⟨u, hu⟩ : ∃ u, u = w.alloc (.cells zCell 63) := ⟨_, rfl⟩
 rw [← hu] at hb0
 have G4 := Lib.hid (show u.heap[w.heap.size]? = some (.cells zCell 63 (0, 0)) by rw [hu]; exact heap_alloc_new w _)
 have EN := Lib.hid (Vw.end_any (h.below hb0))
 have CE := cell_any k S st mb F u (hF.below hb0) hk
 rw [hc] at CE
 have CE := Lib.hid CE
 have HB := Lib.hid hb0
 have HT := Lib.hid ht
 unfold zCell at hu
 have HU := Lib.hid hu
 clear hu hb0 h hF hc ht
 go_enter Tryz.func51, Tryz.ntmps51
 go_wp2_with fail
 rw [← HU.out]
 refine EN.out.mono ?_
 rintro e w1 ⟨rfl, rfl⟩
 go_wp2_with fail
 refine CE.out.mono ?_
 rintro e w2 ⟨hb2, A2, n2, c2, rfl, hs2⟩
 obtain ⟨b4, hb4⟩ : ∃ b, b = w.heap.size := ⟨_, rfl⟩
 have g4 := (hb2.block _ (Array.getElem?_eq_some_iff.1 G4.out).1).trans G4.out
 rw [← hb4] at g4 ⊢
 have G42 := Lib.hid g4
 have H2 := Lib.hid (And.intro (HB.out.trans (hb2.mono HB.out.size)) hs2)
 have H4 := Lib.hid hb4
 clear hb2 hs2 hb4 g4
 go_wp2_with (first
  | (refine wpList_putRow rfl 63 (.tmp 4) (.tmp 10) rfl b4 63 zCell #[.int .u8 (cl.kind : Int), .slice A2 n2 c2, .float .f64 cl.num] rfl rfl G42.out (by kernel_rfl) rfl (by simp [Value.oneCell']) ?_))
 intro w3 hW3 hbe3
 have hc3 := Mtx.cells3 hW3
 obtain ⟨k0, k1, k2⟩ := hc3
 have FIN : Hid (Sees w3 A2 n2 cl.text ∧ Below w.heap.size w w3) := Lib.hid ⟨H2.out.2.beside hbe3 (fun hn a ha hm => by
  simp at hm
  rw [HT.out] at H2
  obtain ⟨hl, hc⟩ := H2.out.2
  obtain ⟨b, o, hA, hcell⟩ := hc hn
  have h0 := hcell 0 118 rfl
  rw [hA] at ha
  injection ha with ha
  subst ha
  simp only at hm
  subst hm
  rw [cell_of_row w2 b _ _ _ _ G42.out] at h0
  match o, h0 with
  | 0, h0 => simp [zCell] at h0
  | 1, h0 => simp [zCell] at h0
  | 2, h0 => simp [zCell] at h0
  | o + 3, h0 => simp [zCell] at h0), Below.beside H2.out.1 hbe3 H2.out.1.size (by simp; exact Nat.le_of_eq H4.out.symm)⟩
 clear hW3 hbe3
 go_wp2
 refine bodyPost_ret (v := .tuple #[.agg #[.int .u8 (cl.kind : Int), .slice A2 n2 c2, .float .f64 cl.num], .bool true]) ?_ rfl ⟨⟨A2, n2, c2, rfl, FIN.out.1⟩, FIN.out.2⟩
 simp [results, Tryz.results51, go_sem, k0, k1, k2]
set_option maxHeartbeats 1000000 in
theorem viewR_first {w0 w : World} {r g mb tb st : Nat} {s : Sto} (h : Rep1 w0 w r g mb tb 0 1 st s exY) : Calls Tryz.prog 29 #[.pointer (some ⟨r, 0, none⟩)] w (OfGives w (oneE 0 exY) (newF 1)) := by
 have SR := Lib.hid (store_r r g mb tb st w h.row)
 obtain ⟨O, hO⟩ := h.first.alls
 obtain ⟨db, mb2, hb, hF⟩ := h.first.base
 have hFw := hF w (Beside.refl _ _)
 have hl := hFw.lt
 have OF := Lib.hid (of_s O (oneE 0 exY) g db mb2 s [db, mb2] (newF 1) w h.first.sto hb hFw (fun x hx => by simp at hx; omega) (hO w (Beside.refl _ _)) (goodE_first rfl (by decide)) (by rw [exY_all]; simp) (fun e he => by
  rw [exY_all] at he
  simp at he
  subst he
  exact ⟨exY_fit, by decide⟩) (fun l hl _ => by
  rw [exY_all] at hl
  rw [List.perm_singleton.1 hl]
  exact exY_flows) (by simp [newF]))
 clear h hO hb hF hFw hl
 go_enter Tryz.func29, Tryz.ntmps29
 go_wp2_with fail
 refine SR.out.mono ?_
 rintro e w1 ⟨rfl, rfl⟩
 go_wp2_with fail
 refine OF.out.mono ?_
 unfold OfGives
 rintro e w2 ⟨vb, b0, st2, A, c, R, l, rfl, h2⟩
 have FIN : Hid (OfGives w1 (oneE 0 exY) (newF 1) (.returned (.pointer (some ⟨vb, 0, none⟩))) w2) := Lib.hid ⟨vb, b0, st2, A, c, R, l, rfl, h2⟩
 clear h2 OF
 go_wp2
 go_ret
 exact FIN.out
set_option maxHeartbeats 1000000 in
theorem readR_first {w0 w : World} {r g mb tb st : Nat} {s : Sto} (h : Rep1 w0 w r g mb tb 0 1 st s exY) :
  Calls Tryz.prog 19 #[.pointer (some ⟨r, 0, none⟩), .string ⟨#[107]⟩] w fun e w' => ∃ A n c kd nu, e = .returned (.tuple #[.agg #[.int .u8 (kd : Nat), .slice A n c, .float .f64 nu], .bool true]) ∧ Sees w' A n [118] ∧ Below w.heap.size w w' := by
 have hsf := store_float Tryz.prog
 have hb0 : Below w.heap.size w (w.alloc (.cells zCell 63)) := (Below.refl _ _).alloc (Nat.le_refl _) _
 obtain ⟨u, hu⟩ : ∃ u, u = w.alloc (.cells zCell 63) := ⟨_, rfl⟩
 rw [← hu] at hb0
 have G4 := Lib.hid (show u.heap[w.heap.size]? = some (.cells zCell 63 (0, 0)) by rw [hu]; exact heap_alloc_new w _)
 have VW := Lib.hid (viewR_first (h.next hb0))
 have HB := Lib.hid hb0
 unfold zCell at hu
 have HU := Lib.hid hu
 clear hu hb0 h
 go_enter Tryz.func19, Tryz.ntmps19
 go_wp2_with fail
 rw [← HU.out]
 refine VW.out.mono ?_
 rintro e w1 ⟨vb, b0, st1, A1, c1, R1, l, rfl, hv, -, hp, -, hb1⟩
 rw [exY_all] at hp
 obtain rfl := List.perm_singleton.1 hp
 obtain ⟨cl, hcl, htx⟩ := exY_cell
 have CE := Lib.hid (cellW_any hv ⟨#[107]⟩ (by decide) hcl htx)
 have HB1 := Lib.hid hb1
 obtain ⟨kd, nu, hkd⟩ : ∃ kd nu, kd = cl.kind ∧ nu = cl.num := ⟨_, _, rfl, rfl⟩
 rw [← hkd.1, ← hkd.2, htx] at CE
 clear hv hp hb1 hcl htx hkd VW
 go_wp2_with fail
 refine CE.out.mono ?_
 rintro e w2 ⟨⟨A2, n2, c2, rfl, hs2⟩, hb2⟩
 obtain ⟨b4, hb4⟩ : ∃ b, b = w.heap.size := ⟨_, rfl⟩
 have g4 := ((HB1.out.trans (hb2.mono HB1.out.size)).block _ (Array.getElem?_eq_some_iff.1 G4.out).1).trans G4.out
 rw [← hb4] at g4 ⊢
 have G42 := Lib.hid g4
 have H2 := Lib.hid (And.intro (HB.out.trans ((HB1.out.trans (hb2.mono HB1.out.size)).mono HB.out.size)) hs2)
 have H4 := Lib.hid hb4
 clear hb2 hs2 hb4 g4 CE
 go_wp2_with (first
  | (refine wpList_putRow rfl 63 (.tmp 4) (.tmp 10) rfl b4 63 zCell #[.int .u8 (kd : Int), .slice A2 n2 c2, .float .f64 nu] rfl rfl G42.out (by kernel_rfl) rfl (by simp [Value.oneCell']) ?_))
 intro w3 hW3 hbe3
 have hc3 := Mtx.cells3 hW3
 obtain ⟨k0, k1, k2⟩ := hc3
 have FIN : Hid (Sees w3 A2 n2 [118] ∧ Below w.heap.size w w3) := Lib.hid ⟨H2.out.2.beside hbe3 (fun hn a ha hm => by
  simp at hm
  obtain ⟨hl, hc⟩ := H2.out.2
  obtain ⟨b, o, hA, hcell⟩ := hc hn
  have h0 := hcell 0 118 rfl
  rw [hA] at ha
  injection ha with ha
  subst ha
  simp only at hm
  subst hm
  rw [cell_of_row w2 b _ _ _ _ G42.out] at h0
  match o, h0 with
  | 0, h0 => simp [zCell] at h0
  | 1, h0 => simp [zCell] at h0
  | 2, h0 => simp [zCell] at h0
  | o + 3, h0 => simp [zCell] at h0), Below.beside H2.out.1 hbe3 H2.out.1.size (by simp; exact Nat.le_of_eq H4.out.symm)⟩
 clear hW3 hbe3
 go_wp2
 refine bodyPost_ret (v := .tuple #[.agg #[.int .u8 (kd : Int), .slice A2 n2 c2, .float .f64 nu], .bool true]) ?_ rfl ⟨A2, n2, c2, kd, nu, rfl, FIN.out.1, FIN.out.2⟩
 simp [results, Tryz.results19, go_sem, k0, k1, k2]
end Go.Proofs.YtinjbdgjcadodaaGreatDoor.Rp
