/- Texts of the law ReplicaNil, put together. -/
import Derived.Test.YtinjbdgjcadodaaGreatDoorRNp04
import Derived.Test.YtinjbdgjcadodaaGreatDoorRNp07
import Derived.Test.YtinjbdgjcadodaaGreatDoorRNp25
import Derived.Test.YtinjbdgjcadodaaGreatDoorRNp35
import Derived.Test.YtinjbdgjcadodaaGreatDoorRNp38
import Derived.Test.YtinjbdgjcadodaaGreatDoorRNp42
set_option linter.unusedVariables false
set_option linter.unusedSimpArgs false
set_option maxRecDepth 100000
namespace Go.Proofs.YtinjbdgjcadodaaGreatDoor.Vw
open Go Go.RowKit Words Enc Go.Proofs.YtinjbdgjcadodaaGreatDoor.Q Evt Fol
def Flows : Fo → List Ev → Prop
 | _, [] => True
 | F, e :: r => applyE F e = 0 ∧ Flows (applyF F e) r
def applyAll (F : Fo) (l : List Ev) : Fo := l.foldl applyF F
theorem applyAll_take (F : Fo) (l : List Ev) (j : Nat) {e : Ev} (h : l[j]? = some e) : applyAll F (l.take (j + 1)) = applyF (applyAll F (l.take j)) e := by
 unfold applyAll
 rw [List.take_add_one, h]
 simp
theorem Flows.append : ∀ {F : Fo} {a b : List Ev}, Flows F (a ++ b) → Flows F a ∧ Flows (applyAll F a) b
 | _, [], _, h => ⟨trivial, h⟩
 | F, e :: r, b, h => by
   obtain ⟨h1, h2⟩ := Flows.append (F := applyF F e) (a := r) (b := b) h.2
   exact ⟨⟨h.1, h1⟩, h2⟩
theorem Flows.at_ {F : Fo} {l : List Ev} (h : Flows F l) {j : Nat} {e : Ev} (hj : l[j]? = some e) : applyE (applyAll F (l.take j)) e = 0 := by
 have hl : j < l.length := (List.getElem?_eq_some_iff.1 hj).1
 have hs : l = l.take j ++ l.drop j := (List.take_append_drop j l).symm
 rw [hs] at h
 have h2 := h.append.2
 rw [List.drop_eq_getElem_cons hl] at h2
 have he : l[j] = e := by rw [List.getElem?_eq_getElem hl] at hj; injection hj
 rw [he] at h2
 exact h2.1
end Go.Proofs.YtinjbdgjcadodaaGreatDoor.Vw
namespace Go.Proofs.YtinjbdgjcadodaaGreatDoor.Vw
open Go Go.RowKit Words Enc Go.Proofs.YtinjbdgjcadodaaGreatDoor.Q Evt Seg Fol
theorem change_len {F : Fo} {e : Ev} (hr : Rise F.L) : (change F e).L.length ≤ F.L.length + 1 := by
 have hi : ∀ (k : Key) (c : Cel), (ins k c F.L).length ≤ F.L.length + 1 := fun k c => by rw [len_ins k c hr]; split <;> omega
 have hd : ∀ (k : Key), (del k F.L).length ≤ F.L.length + 1 := fun k => by rw [len_del k F.L]; split <;> omega
 unfold change
 split
 ·exact hi _ _
 ·split
  ·exact hi _ _
  ·split
   ·exact hi _ _
   ·split
    ·exact hd _
    ·split <;> (show F.L.length ≤ _; omega)
theorem apply_L {F : Fo} {e : Ev} : (applyF F e).L = (change F e).L ∨ (applyF F e).L = F.L := by
 unfold applyF
 split
 ·exact .inl rfl
 ·exact .inr rfl
theorem apply_len {F : Fo} {e : Ev} (ok : Ok F) : (applyF F e).L.length ≤ F.L.length + 1 := by
 rcases apply_L (F := F) (e := e) with h | h
 ·rw [h]; exact change_len ok.rise
 ·rw [h]; omega
structure ViewAt (w : World) (vb b0 st : Nat) (F0 F : Fo) (A : Option Addr) (c : Nat) (R : List EvS) : Prop where
 row : w.heap[vb]? = some (.cells #[.pointer (some ⟨b0, 0, none⟩), .slice A R.length c, .pointer (some ⟨st, 0, none⟩)] 207 (0, 0))
 base : ∃ S mb, FoldAt w S b0 mb F0
 state : ∃ S mb, FoldAt w S st mb F
 raw : RawEv w A R
 text : ∀ r ∈ R, Sees w r.A r.n r.e.text
 few : R.length ≤ 1000
 small : ∀ r ∈ R, r.n ≤ 1000000
 cap : R.length ≤ c ∧ c ≤ 9223372036854775807
theorem ViewAt.below {w w' : World} {vb b0 st : Nat} {F0 F : Fo} {A : Option Addr} {c : Nat} {R : List EvS} (h : ViewAt w vb b0 st F0 F A c R) (hb : Below w.heap.size w w') : ViewAt w' vb b0 st F0 F A c R :=
 ⟨(hb.block vb (Array.getElem?_eq_some_iff.1 h.row).1).trans h.row, by obtain ⟨S, mb, h1⟩ := h.base; exact ⟨S, mb, h1.below hb⟩, by obtain ⟨S, mb, h1⟩ := h.state; exact ⟨S, mb, h1.below hb⟩, h.raw.below hb, fun r hr => (h.text r hr).below hb, h.few, h.small, h.cap⟩
section
variable {w : World} {vb b0 st : Nat} {F0 F : Fo} {A : Option Addr} {c : Nat} {R : List EvS}
theorem ViewAt.cells (h : ViewAt w vb b0 st F0 F A c R) : w.cell? ⟨vb, 0, none⟩ = some (.pointer (some ⟨b0, 0, none⟩)) ∧ w.cell? ⟨vb, 1, none⟩ = some (.slice A R.length c) ∧ w.cell? ⟨vb, 2, none⟩ = some (.pointer (some ⟨st, 0, none⟩)) := by
 refine ⟨?_, ?_, ?_⟩
 ·rw [cell_of_row w vb 0 _ _ _ h.row]; rfl
 ·rw [cell_of_row w vb 1 _ _ _ h.row]; rfl
 ·rw [cell_of_row w vb 2 _ _ _ h.row]; rfl
theorem end_any (h : ViewAt w vb b0 st F0 F A c R) : Calls Tryz.prog 86 #[.pointer (some ⟨vb, 0, none⟩)] w fun e w' => e = .returned (.pointer (some ⟨st, 0, none⟩)) ∧ w' = w := by
 obtain ⟨h0, h1, h2⟩ := h.cells
 clear h
 go_enter Tryz.func86, Tryz.ntmps86
 go_wp2
 go_ret
 exact ⟨rfl, rfl⟩
end
end Go.Proofs.YtinjbdgjcadodaaGreatDoor.Vw
namespace Go.Proofs.YtinjbdgjcadodaaGreatDoor.Vw
open Go Go.RowKit Words Enc Go.Proofs.YtinjbdgjcadodaaGreatDoor.Q Evt Seg Fol Go.Proofs.YtinjbdgjcadodaaGreatDoor.Ord
def ByGives (w : World) (L : List HV) (F0 : Fo) (e : Ending) (w' : World) : Prop :=
 ∃ vb b0 st g R r0, e = .returned (.tuple #[.pointer (some ⟨vb, 0, none⟩), .int .i64 0]) ∧ ViewAt w' vb b0 st F0 (applyAll F0 (r0.map EvS.e)) (some ⟨g, 0, none⟩) R.length R ∧ R.map EvS.e = r0.map EvS.e ∧ r0.Perm (flat L) ∧ Rises r0 ∧ Below w.heap.size w w'
theorem good_later {B : Nat} {w w' : World} {Al : Option Addr} {L : List HV} (h : GoodLists B w Al L) (hb : Below B w w') (hB : B ≤ w'.heap.size) : GoodLists w'.heap.size w' Al L :=
 ⟨⟨fun hn => by
   obtain ⟨b, o, h1, h2⟩ := (h.lists.below hb).row hn
   exact ⟨b, o, by omega, h2⟩, fun x hx => ⟨((h.lists.below hb).lie x hx).1, fun h0 => by
   obtain ⟨b, o, h1, h2⟩ := ((h.lists.below hb).lie x hx).2 h0
   exact ⟨b, o, by omega, h2⟩⟩⟩, h.rise, h.few, h.evs, fun r hr => by
   have h0 := (h.text r hr).below hb
   exact ⟨h0.sees, h0.few, fun hn a ha => by have := h0.low hn a ha; omega⟩⟩
structure ByAt (w0 W : World) (S : List Nat) (vb d2 mb2 d3 mb3 g : Nat) (R : List EvS) (F0 F : Fo) : Prop where
 row : W.heap[vb]? = some (.cells #[.pointer (some ⟨d2, 0, none⟩), .slice (some ⟨g, 0, none⟩) R.length R.length, .pointer (some ⟨d3, 0, none⟩)] 207 (0, 0))
 base : FoldAt W (d2 :: mb2 :: d3 :: mb3 :: S) d2 mb2 F0
 state : FoldAt W (d3 :: mb3 :: S) d3 mb3 F
 raw : RawEv W (some ⟨g, 0, none⟩) R
 text : ∀ r ∈ R, Sees W r.A r.n r.e.text
 below : Below w0.heap.size w0 W
 lt : ∀ x ∈ d3 :: mb3 :: S, x < W.heap.size
theorem ByAt.keep {w0 W W' : World} {S : List Nat} {vb d2 mb2 d3 mb3 g : Nat} {R : List EvS} {F0 F : Fo} (h : ByAt w0 W S vb d2 mb2 d3 mb3 g R F0 F) (hb : Below W.heap.size W W') : ByAt w0 W' S vb d2 mb2 d3 mb3 g R F0 F :=
 ⟨(hb.block vb (Array.getElem?_eq_some_iff.1 h.row).1).trans h.row, h.base.below hb, h.state.below hb, h.raw.below hb, fun r hr => (h.text r hr).below hb, h.below.trans (hb.mono h.below.size), fun x hx => Nat.lt_of_lt_of_le (h.lt x hx) hb.size⟩
theorem RawEv.beside {W W' : World} {g : Nat} {R : List EvS} {S : List Nat} (h : RawEv W (some ⟨g, 0, none⟩) R) (hb : Beside S W W') (hg : g ∉ S) : RawEv W' (some ⟨g, 0, none⟩) R := fun hn => by
 obtain ⟨b, o, hA, hc⟩ := h hn
 injection hA with hA
 injection hA with h1 h2
 subst h1; subst h2
 exact ⟨g, 0, rfl, fun j v hv => by
  have h3 := hc j v hv
  have h4 := World.block_lt_of_cell? _ _ h3
  exact hb.cell h3 hg⟩
theorem boxE (cs : Array Value) (w : World) : (w.alloc (.cells cs 38)).heap[w.heap.size]? = some (.cells cs 38 (0, 0)) := heap_alloc_new w _
set_option maxHeartbeats 4000000 in
theorem by_any (Al : Option Addr) (cl : Nat) (L : List HV) (S : List Nat) (d mb : Nat) (F0 : Fo) (w : World) (hf : FoldAt w S d mb F0) (hg : GoodLists w.heap.size w Al L) (hS : ∀ x ∈ S, x < w.heap.size) (hfl : (flat L).length ≤ 1000) (hfit : ∀ r ∈ flat L, r.e.Fit ∧ r.e.key.size ≤ 64 ∧ r.n ≤ 1000000)
  (hflow : ∀ r0 : List EvS, r0.Perm (flat L) → Rises r0 → Flows F0 (r0.map EvS.e)) (hl : F0.L.length ≤ 100000) :
  Calls Tryz.prog 107 #[.pointer (some ⟨d, 0, none⟩), .slice Al L.length cl] w (ByGives w L F0) := by
 have hsf := store_float Tryz.prog
 have C1 := Lib.hid (copy_any S d mb F0 w hf)
 have HF := Lib.hid hf
 have HG := Lib.hid hg
 have HSS := Lib.hid hS
 have HFL := Lib.hid hfl
 have HFT := Lib.hid hfit
 have HFW := Lib.hid hflow
 have HL := Lib.hid hl
 obtain ⟨ln, hln⟩ : ∃ ln, ln = L.length := ⟨_, rfl⟩
 rw [← hln]
 have HLN := Lib.hid hln
 clear hf hg hS hfl hfit hflow hl hln
 go_enter Tryz.func107, Tryz.ntmps107
 go_wp2_with fail
 refine C1.out.mono ?_
 rintro e w1 ⟨d2, mb2, rfl, hd2, hm2, hf1, hb1⟩
 have AL := Lib.hid (all_any Al cl L w1 (good_later HG.out hb1 hb1.size))
 rw [← HLN.out] at AL
 have HF1 := Lib.hid hf1
 have HB1 := Lib.hid hb1
 have HD2 := Lib.hid (And.intro hd2 hm2)
 clear hf1 hb1 hd2 hm2 C1
 go_wp2_with fail
 refine AL.out.mono ?_
 rintro e w2 ⟨g, m, R, r0, rfl, hRm, hrow, hg1, hRe, ⟨hperm, hrise⟩, hb2⟩
 subst hRm
 have C2 := Lib.hid (copy_any S d mb F0 w2 ((HF.out.below HB1.out).below hb2))
 have HB12 := Lib.hid (HB1.out.trans (hb2.mono HB1.out.size))
 have HF2 := Lib.hid (HF1.out.below hb2)
 have HROW := Lib.hid hrow
 have HR := Lib.hid (And.intro hRe (And.intro hperm hrise))
 have HG1 := Lib.hid hg1
 have HSZ := Lib.hid hb2.size
 clear hrow hRe hperm hrise hb2 hg1 AL HF1
 go_wp2_with fail
 refine C2.out.mono ?_
 rintro e w3 ⟨d3, mb3, rfl, hd3, hm3, hf3, hb3⟩
 obtain ⟨vb, hvb⟩ : ∃ b, b = w3.heap.size := ⟨_, rfl⟩
 obtain ⟨u, hu⟩ : ∃ u, u = w3.alloc (.cells #[.pointer (some ⟨d2, 0, none⟩), .slice (some ⟨g, 0, none⟩) R.length R.length, .pointer (some ⟨d3, 0, none⟩)] 207) := ⟨_, rfl⟩
 have hbu : Below w3.heap.size w3 u := by rw [hu]; exact (Below.refl _ _).alloc (Nat.le_refl _) _
 have g2 : u.heap[vb]? = some (.cells #[.pointer (some ⟨d2, 0, none⟩), .slice (some ⟨g, 0, none⟩) R.length R.length, .pointer (some ⟨d3, 0, none⟩)] 207 (0, 0)) := by rw [hu, hvb]; exact heap_alloc_new w3 _
 have hlt3 := hf3.lt
 have hgl : g < w2.heap.size := by obtain ⟨cur, h1, _⟩ := HROW.out.row; exact (Array.getElem?_eq_some_iff.1 h1).1
 have hb2u := hb3.trans (hbu.mono hb3.size)
 have hx2 : ∀ x ∈ S, x < w2.heap.size := fun x hx => Nat.lt_of_lt_of_le (HSS.out x hx) HB12.out.size
 have hat : ByAt w u S vb d2 mb2 d3 mb3 g R F0 F0 := by
  refine ⟨g2, (HF2.out.wider (fun x hx => by simp at hx ⊢; rcases hx with h | h | h <;> simp [h]) (fun x hx => ?_)).below hb2u, hf3.below hbu, ?_, fun r hr => ((HROW.out.text r hr).sees.below hb2u), HB12.out.trans (hb2u.mono HB12.out.size), fun x hx => ?_⟩
  ·simp at hx ⊢
   rcases hx with h | h | h | h | h
   ·exact .inl (.inl h)
   ·exact .inl (.inr (.inl h))
   ·exact .inr (by omega)
   ·exact .inr (by omega)
   ·exact .inl (.inr (.inr h))
  ·have hr : RawEv w2 (some ⟨g, 0, none⟩) R := fun _ => by
    obtain ⟨cur, h1, h2, h3⟩ := HROW.out.row
    exact ⟨g, 0, rfl, fun j v hv => by rw [cell_of_row w2 g _ _ _ _ h1, Nat.zero_add]; exact h3 j v hv⟩
   exact hr.below hb2u
  ·have := hbu.size
   simp at hx
   rcases hx with rfl | rfl | h
   ·omega
   ·omega
   ·have := hx2 x h; have := hb3.size; omega
 have hlt2 := HF2.out.lt
 have hne : vb ≠ d3 ∧ vb ≠ mb3 ∧ d3 ≠ d2 ∧ d3 ≠ mb2 ∧ mb3 ≠ d2 ∧ mb3 ≠ mb2 := by omega
 have hgn : g ∉ [d3, mb3] := by simp; omega
 have hout : ∀ r ∈ R, Out [d3, mb3] r.A r.n := fun r hr => Out.of_lt (S := [d3, mb3]) (w := w2) (B := w2.heap.size) (HROW.out.text r hr).sees (Nat.le_refl _) (fun x hx => by simp at hx; omega)
 have HAT := Lib.hid hat
 have HNE := Lib.hid hne
 have HGN := Lib.hid hgn
 have HOUT := Lib.hid hout
 have HD3 := Lib.hid (show w.heap.size ≤ d3 ∧ w.heap.size ≤ mb3 by have := HB12.out.size; omega)
 go_upto_region 4 with fail
 rw [← hu, ← hvb]
 clear hlt2 hat hne hgn hout hf3 hb3 hbu g2 hlt3 hgl hb2u hx2 C2 hd3 hm3 hu hvb HF2 HROW HSZ HB1
 obtain ⟨N, hN⟩ : ∃ N, N = R.length := ⟨_, rfl⟩
 rw [← hN]
 have HNN := Lib.hid hN
 have hN2 : (N : Int) ≤ 1000 := by
  have h1 := HR.out.2.1.length_eq
  have h2 := congrArg List.length HR.out.1
  rw [List.length_map, List.length_map] at h2
  have := HFL.out
  omega
 have hrow := HAT.out.row
 rw [← hN] at hrow
 have HROW := Lib.hid hrow
 clear hN hrow
 have c1 : u.cell? ⟨vb, 1, none⟩ = some (.slice (some ⟨g, 0, none⟩) N N) := by rw [cell_of_row u vb 1 _ _ _ HROW.out]; rfl
 go_wp2_with fail
 go_loopw [25] (fun y wr => ∃ j : Nat, y = .int .i64 (j : Int) ∧ j ≤ N ∧ Hid (ByAt w wr S vb d2 mb2 d3 mb3 g R F0 (applyAll F0 ((R.take j).map EvS.e))) ∧ Hid ((applyAll F0 ((R.take j).map EvS.e)).L.length ≤ F0.L.length + j)) (fun y _ => N - (intOf y).toNat)
 case atStart => exact ⟨0, rfl, Nat.zero_le _, HAT, Lib.hid (Nat.le_refl _)⟩
 case round =>
  obtain ⟨j, rfl, hj, HB, HLE⟩ := hrel
  by_cases hlt : j < N
  ·have hdj : decide ((j : Int) < (N : Int)) = true := decide_eq_true (by omega)
   have hjN : (j : Int) < (N : Int) := by omega
   have hjb : (j : Int) ≤ 1000 := by omega
   obtain ⟨r, hr⟩ : ∃ r, R[j]? = some r := ⟨_, List.getElem?_eq_getElem (by rw [← HNN.out]; omega)⟩
   have hrm := List.mem_of_getElem? hr
   obtain ⟨F, hF⟩ : ∃ F, F = applyAll F0 ((R.take j).map EvS.e) := ⟨_, rfl⟩
   have hst : applyAll F0 ((R.take (j + 1)).map EvS.e) = applyF F r.e := by
    have := applyAll_take F0 (R.map EvS.e) j (e := r.e) (by rw [List.getElem?_map, hr]; rfl)
    rw [hF, List.map_take, List.map_take]
    exact this
   have hfl0 : applyE F r.e = 0 := by
    have h1 := HFW.out r0 HR.out.2.1 HR.out.2.2
    rw [← HR.out.1] at h1
    have h2 := Flows.at_ h1 (j := j) (e := r.e) (by rw [List.getElem?_map, hr]; rfl)
    rw [hF, List.map_take]
    exact h2
   have hfit := HFT.out
   have hrr : ∃ r' ∈ flat L, r'.e = r.e := by
    have h1 : r.e ∈ R.map EvS.e := List.mem_map.2 ⟨r, hrm, rfl⟩
    rw [HR.out.1] at h1
    obtain ⟨r', h2, h3⟩ := List.mem_map.1 h1
    exact ⟨r', HR.out.2.1.mem_iff.1 h2, h3⟩
   rw [← hF] at HB HLE
   obtain ⟨b, o, hA, q0, q1, q2, q3, q4, q5, q6, q7⟩ := RawEv.at_ HB.out.raw hr
   injection hA with hA
   injection hA with h1 h2
   subst h1; subst h2
   have htx := HB.out.text r hrm
   have hout := HOUT.out r hrm
   have hef : r.e.Fit ∧ r.e.key.size ≤ 64 ∧ r.n ≤ 1000000 := by
    obtain ⟨r', h1, h2⟩ := hrr
    obtain ⟨h3, h4, h5⟩ := hfit r' h1
    have h6 := (HG.out.text r' h1).sees.1
    have h7 := htx.1
    rw [h2] at h3 h4 h6
    exact ⟨h3, h4, by omega⟩
   have AP := Lib.hid (fun W (hW : Below wr.heap.size wr W) => by
    have hk := HB.out.keep hW
    have hll := HLE.out
    have hl0 := HL.out
    have := apply_any r.e r.A r.n r.c W hk.state (htx.below hW) hout hk.lt (by omega) (by omega) hef.1 (by omega)
    rw [hfl0] at this
    exact this)
   have hlen2 := apply_len (e := r.e) HB.out.state.ok
   have HST := Lib.hid (And.intro hst hlen2)
   rw [show 8 * j = j * 8 by omega] at q0 q1 q2 q3 q4 q5 q6 q7
   obtain ⟨⟨ew, sq, et, kd, key, text, num, node⟩, rA, rn, rc⟩ := r
   simp only [Nat.zero_add] at q0 q1 q2 q3 q4 q5 q6 q7
   obtain ⟨eb, heb⟩ : ∃ b, b = wr.heap.size := ⟨_, rfl⟩
   have BX := Lib.hid (boxE #[.int .i64 0, .int .u64 0, .int .u64 0, .int .u8 0, .string ⟨#[]⟩, .slice none 0 0, .float .f64 0, .int .i64 0] wr)
   have HEB := Lib.hid heb
   have AP2 : ∀ W, Below wr.heap.size wr W → Calls Tryz.prog 105 #[.pointer (some ⟨d3, 0, none⟩), .agg #[.int .i64 ew, .int .u64 (sq : Int), .int .u64 (et : Int), .int .u8 (kd : Int), .string key, .slice rA rn rc, .float .f64 num, .int .i64 node]] W _ := AP.out
   have HAP := Lib.hid AP2
   clear hst hF htx hfit hlen2 hrm AP AP2 hrr hef hout hfl0 heb hr
   go_wp2_with (first | (refine wpList_putRow rfl 38 (.tmp 8) (.tmp 28) rfl wr.heap.size 38 #[.int .i64 0, .int .u64 0, .int .u64 0, .int .u8 0, .string ⟨#[]⟩, .slice none 0 0, .float .f64 0, .int .i64 0] #[.int .i64 ew, .int .u64 (sq : Int), .int .u64 (et : Int), .int .u8 (kd : Int), .string key, .slice rA rn rc, .float .f64 num, .int .i64 node] rfl rfl ?g1 (by kernel_rfl) rfl (by simp [Value.oneCell']) ?_))
   case g1 => exact (Array.getElem?_eq_some_iff.1 BX.out).2
   intro W3 hW3 hbe3
   rw [← HEB.out] at hW3 hbe3 ⊢
   have hb3 : Below wr.heap.size wr W3 := Below.beside ((Below.refl _ _).alloc (Nat.le_refl _) _) hbe3 (by simp) (fun x hx => by simp at hx; have := HEB.out; omega)
   have HB3 := Lib.hid hb3
   have p0 : W3.cell? ⟨eb, 0, none⟩ = some (.int .i64 ew) := by rw [cell_of_row W3 eb 0 _ _ _ hW3]; rfl
   have p1 : W3.cell? ⟨eb, 1, none⟩ = some (.int .u64 (sq : Int)) := by rw [cell_of_row W3 eb 1 _ _ _ hW3]; rfl
   have p2 : W3.cell? ⟨eb, 2, none⟩ = some (.int .u64 (et : Int)) := by rw [cell_of_row W3 eb 2 _ _ _ hW3]; rfl
   have p3 : W3.cell? ⟨eb, 3, none⟩ = some (.int .u8 (kd : Int)) := by rw [cell_of_row W3 eb 3 _ _ _ hW3]; rfl
   have p4 : W3.cell? ⟨eb, 4, none⟩ = some (.string key) := by rw [cell_of_row W3 eb 4 _ _ _ hW3]; rfl
   have p5 : W3.cell? ⟨eb, 5, none⟩ = some (.slice rA rn rc) := by rw [cell_of_row W3 eb 5 _ _ _ hW3]; rfl
   have p6 : W3.cell? ⟨eb, 6, none⟩ = some (.float .f64 num) := by rw [cell_of_row W3 eb 6 _ _ _ hW3]; rfl
   have p7 : W3.cell? ⟨eb, 7, none⟩ = some (.int .i64 node) := by rw [cell_of_row W3 eb 7 _ _ _ hW3]; rfl
   have c2 : W3.cell? ⟨vb, 2, none⟩ = some (.pointer (some ⟨d3, 0, none⟩)) := by rw [cell_of_row W3 vb 2 _ _ _ (HB.out.keep hb3).row]; rfl
   clear hW3 hbe3 hb3 q0 q1 q2 q3 q4 q5 q6 q7
   go_upto_region 7 with fail
   go_still_tail 5, (by kernel_rfl)
   change wpList _ _ _ _ _ W3.drew
   go_wp2_with fail
   refine (HAP.out _ HB3.out.drew).mono ?_
   rintro e w5 ⟨rfl, hmk⟩
   have HMK := Lib.hid hmk
   clear hmk HAP p0 p1 p2 p3 p4 p5 p6 p7 c2
   go_wp2
   go_roundw
   case rel =>
    have hk := HB.out.keep HB3.out.drew
    obtain ⟨hm1, hm2⟩ := HMK.out
    have hvl := (Array.getElem?_eq_some_iff.1 hk.row).1
    have hn := HNE.out
    have hd := HD3.out
    refine ⟨j + 1, by simp, by omega, Lib.hid ?_, Lib.hid ?_⟩
    ·rw [HST.out.1]
     exact ⟨(hm2.block vb hvl (by simp; omega)).trans hk.row, hk.base.beside hm2 (fun x hx => .inl (by simp at hx ⊢; omega)), hm1, RawEv.beside hk.raw hm2 HGN.out, fun r hr => (hk.text r hr).beside hm2 (HOUT.out r hr), Below.beside hk.below hm2 hk.below.size (fun x hx => by simp at hx; omega), fun x hx => Nat.lt_of_lt_of_le (hk.lt x hx) hm2.size⟩
    ·rw [HST.out.1]
     have h1 := HST.out.2
     have h2 := HLE.out
     omega
   case measure => simp [intOf]; omega
  ·obtain rfl : j = N := by omega
   have hdj : decide ((j : Int) < (j : Int)) = false := decide_eq_false (by omega)
   go_wp2
   go_returns
   have hRl : (R.take j).map EvS.e = r0.map EvS.e := by rw [HNN.out, List.take_length]; exact HR.out.1
   have hb := HB.out
   rw [hRl] at hb
   exact ⟨vb, d2, d3, g, R, r0, rfl, ⟨hb.row, ⟨_, _, hb.base⟩, ⟨_, _, hb.state⟩, hb.raw, hb.text, by have := HNN.out; omega, fun r hr => by
    have h1 : r.e ∈ R.map EvS.e := List.mem_map.2 ⟨r, hr, rfl⟩
    rw [HR.out.1] at h1
    obtain ⟨r', h2, h3⟩ := List.mem_map.1 h1
    have h4 := HR.out.2.1.mem_iff.1 h2
    have h5 := (HFT.out r' h4).2.2
    have h6 := (HG.out.text r' h4).sees.1
    have h7 := (hb.text r hr).1
    rw [h3] at h6
    omega, Nat.le_refl _, by have := HNN.out; omega⟩, HR.out.1, HR.out.2.1, HR.out.2.2, hb.below⟩
end Go.Proofs.YtinjbdgjcadodaaGreatDoor.Vw
