/- feed: All of a feed without parts. store: Lists, of feeds without parts. store: what follows from the events, where there are none. store: nothing is to be cleaned away where the manifest is the only file. store: Open on an empty disk. store: the first event of a feed, on a disk with a manifest. -/
import Derived.Deep.RegionHeld3
import Derived.Test.YtfkiajidcbefjaaGreatDoorSWp02
import Derived.Test.YtfkiajidcbefjaaGreatDoorSWp08
import Derived.Test.YtfkiajidcbefjaaGreatDoorSWp09
import Derived.Test.YtfkiajidcbefjaaGreatDoorSWp19
import Derived.Test.YtfkiajidcbefjaaGreatDoorSWp27
import Derived.Test.YtfkiajidcbefjaaGreatDoorSWp28
import Derived.Test.YtfkiajidcbefjaaGreatDoorSWp29
import Derived.Test.YtfkiajidcbefjaaGreatDoorSWp30
namespace Go.Proofs.YtfkiajidcbefjaaGreatDoor.Fd
open Go Go.RowKit Go.Proofs.YtfkiajidcbefjaaGreatDoor.Words Go.Proofs.YtfkiajidcbefjaaGreatDoor.Enc Go.Proofs.YtfkiajidcbefjaaGreatDoor.Evt Go.Proofs.YtfkiajidcbefjaaGreatDoor.Made Go.Proofs.YtfkiajidcbefjaaGreatDoor.Dsk Go.Proofs.YtfkiajidcbefjaaGreatDoor.Seg
set_option linter.unusedVariables false
set_option linter.unusedSimpArgs false

set_option maxRecDepth 100000 in
set_option maxHeartbeats 1000000 in
theorem from0 (d f : Nat) (x sz : Int) (floor time : Nat) (seq : Nat) (most : Int) (w : World) (g : w.heap[f]? = some (.cells (cells d x sz floor time (.slice none 0 0) 0) 107 (0, 0))) :
    Calls Tryz.prog 181 #[.pointer (some ⟨f, 0, none⟩), .int .u64 (seq : Int), .int .i64 most] w fun e w' => e = .returned (.slice none 0 0) ∧ Below w.heap.size w w' := by
  have hfl : f < w.heap.size := (Array.getElem?_eq_some_iff.1 g).1
  have hbx := (Below.refl w.heap.size w).alloc (Nat.le_refl _) (.cells #[.pointer (some ⟨f, 0, none⟩)] 72)
  have hby' := hbx.alloc hbx.size (.cells #[.int .u64 (seq : Int)] 22)
  have e3 := heap_alloc_new w (.cells #[.pointer (some ⟨f, 0, none⟩)] 72)
  have e3' := (Below.heap_alloc (w.alloc (.cells #[.pointer (some ⟨f, 0, none⟩)] 72)) (.cells #[.int .u64 (seq : Int)] 22) w.heap.size (by simp)).trans e3
  go_enter Tryz.func181, Tryz.ntmps181
  go_upto_region 1 with fail
  generalize (w.alloc (.cells #[.pointer (some ⟨f, 0, none⟩)] 72)).alloc (.cells #[.int .u64 (seq : Int)] 22) = w2 at hby' e3' ⊢
  obtain ⟨b3, hb3⟩ : ∃ b3, b3 = w.heap.size := ⟨_, rfl⟩
  obtain ⟨b4, hb4⟩ : ∃ b4, b4 = w.heap.size + 1 := ⟨_, rfl⟩
  rw [← hb4]
  rw [← hb3] at e3' ⊢
  have g2 := (hby'.block f hfl).trans g
  have q3 : w2.cell? ⟨b3, 0, none⟩ = some (.pointer (some ⟨f, 0, none⟩)) := by rw [cell_of_row w2 b3 _ _ _ _ e3']; rfl
  have c5 : w2.cell? ⟨f, 5, none⟩ = some (.slice none 0 0) := by rw [cell_of_row w2 f _ _ _ _ g2]; rfl
  have hsr : Calls Tryz.prog 245 #[.int .i64 0, .func (.func 246) #[] #[.pointer (some ⟨b3, 0, none⟩), .pointer (some ⟨b4, 0, none⟩)]] w2 _ := search_any (.pointer (some ⟨b3, 0, none⟩)) (.pointer (some ⟨b4, 0, none⟩)) 0 (fun _ => true) w2 (by omega) (fun W i _ hi => absurd hi (by omega)) (fun _ _ _ _ _ => rfl)
  have HSR := Lib.hid hsr
  have G2 := Lib.hid g2
  have E3 := Lib.hid e3'
  have B2 := Lib.hid hby'
  clear hsr hb3 hb4 hby' hbx e3 g g2 e3'
  go_wp2_with fail
  refine HSR.out.mono ?_
  rintro e w3 ⟨k, rfl, hk, -, -, hb3⟩
  obtain rfl : k = 0 := by omega
  have g3 := (hb3.block f (Array.getElem?_eq_some_iff.1 G2.out).1).trans G2.out
  have h3 := (hb3.block b3 (Array.getElem?_eq_some_iff.1 E3.out).1).trans E3.out
  have q3 : w3.cell? ⟨b3, 0, none⟩ = some (.pointer (some ⟨f, 0, none⟩)) := by rw [cell_of_row w3 b3 _ _ _ _ h3]; rfl
  have c5 : w3.cell? ⟨f, 5, none⟩ = some (.slice none 0 0) := by rw [cell_of_row w3 f _ _ _ _ g3]; rfl
  have B3 := Lib.hid (B2.out.trans (hb3.mono B2.out.size))
  clear g3 h3 hb3 HSR
  go_wp2
  go_loopw [8, 26] (fun v8 v26 wr => v8 = .slice none 0 0 ∧ v26 = .int .i64 0 ∧ wr = w3) (fun _ _ _ => 0)
  case atStart => exact ⟨rfl, rfl, rfl⟩
  case round =>
    obtain ⟨rfl, rfl, rfl⟩ := hrel
    go_wp2
    go_ret
    exact ⟨rfl, B3.out⟩

set_option maxRecDepth 100000 in
theorem all0 (d f : Nat) (x sz : Int) (time : Nat) (w : World) (g : w.heap[f]? = some (.cells (cells d x sz 0 time (.slice none 0 0) 0) 107 (0, 0))) :
    Calls Tryz.prog 133 #[.pointer (some ⟨f, 0, none⟩)] w fun e w' => e = .returned (.slice none 0 0) ∧ Below w.heap.size w w' := by
  have hlt := (Array.getElem?_eq_some_iff.1 g).1
  have GB := Lib.hid (fun W (hW : Below w.heap.size w W) => (hW.block f hlt).trans g)
  have c3 : ∀ W, Below w.heap.size w W → W.cell? ⟨f, 3, none⟩ = some (.int .u64 0) := fun W hW => by rw [cell_of_row W f _ _ _ _ (GB.out W hW)]; rfl
  have N1 : ∀ W, Below w.heap.size w W → Calls Tryz.prog 27 #[.pointer (some ⟨f, 0, none⟩)] W fun e w' => e = .returned (.int .u64 1) ∧ Hid (Below w.heap.size w w') ∧ w'.cell? ⟨f, 3, none⟩ = some (.int .u64 0) := fun W hW => by
    refine (next_bare d f x sz 0 time none 0 0 W (GB.out W hW) (by omega)).mono ?_
    rintro e w' ⟨rfl, hb⟩
    have b := hW.trans (hb.mono hW.size)
    exact ⟨rfl, Lib.hid b, c3 w' b⟩
  have R1 : ∀ W, Below w.heap.size w W → Calls Tryz.prog 181 #[.pointer (some ⟨f, 0, none⟩), .int .u64 1, .int .i64 0] W fun e w' => e = .returned (.slice none 0 0) ∧ Hid (Below w.heap.size w w') ∧ w'.cell? ⟨f, 3, none⟩ = some (.int .u64 0) := fun W hW => by
    refine (from0 d f x sz 0 time 1 0 W (GB.out W hW)).mono ?_
    rintro e w' ⟨rfl, hb⟩
    have b := hW.trans (hb.mono hW.size)
    exact ⟨rfl, Lib.hid b, c3 w' b⟩
  have k3 := c3 w (Below.refl _ _)
  clear c3 g
  go_enter Tryz.func133, Tryz.ntmps133
  go_upto_region 3 with fail
  go_region_held3 (fun w' => w'.cell? ⟨f, 3, none⟩ = some (.int .u64 0)) (go_keep)
    (first
      | (go_at_call 27
         refine (N1 _ ?h1).mono ?_
         case h1 => first | exact Below.refl _ _ | exact (Below.refl _ _).drew
         rintro e w6 ⟨rfl, HN, k3⟩)
      | (go_at_call 181
         refine (R1 _ ?h2).mono ?_
         case h2 => first | exact HN.out | exact HN.out.drew
         rintro e w7 ⟨rfl, HF, k3⟩))
  go_wp2
  go_ret
  exact ⟨rfl, HF.out⟩
end Go.Proofs.YtfkiajidcbefjaaGreatDoor.Fd
namespace Go.Proofs.YtfkiajidcbefjaaGreatDoor.St
open Go Go.RowKit Go.Proofs.YtfkiajidcbefjaaGreatDoor.Words Go.Proofs.YtfkiajidcbefjaaGreatDoor.Enc Go.Proofs.YtfkiajidcbefjaaGreatDoor.Made Go.Proofs.YtfkiajidcbefjaaGreatDoor.Dsk Go.Proofs.YtfkiajidcbefjaaGreatDoor.Seg
set_option linter.unusedVariables false
set_option linter.unusedSimpArgs false

theorem infoLs : (Tryz.prog.info? 42).map (fun i => (i.zero, i.size, i.bytes)) = some (some (.slice none 0 0), 1, 24) := by kernel_rfl
theorem StoAt.rangeF {w : World} {g : Nat} {s : Sto} (h : StoAt w g s) : w.rangeAt g 8 s.F := by
  intro j v hv
  have hj : j < 64 := by have := (List.getElem?_eq_some_iff.1 hv).1; rw [h.ok.f] at this; exact this
  exact h.cF hj hv
def zls : Array Value := (List.replicate 64 (Value.slice none 0 0)).toArray
theorem rep_set (z : Value) (n k : Nat) : (List.replicate n z).toArray.setIfInBounds k z = (List.replicate n z).toArray := by
  rw [List.setIfInBounds_toArray]
  congr 1
  refine List.ext_getElem (by simp) fun i _ _ => ?_
  simp [List.getElem_set]
theorem rep_at (z : Value) (n : Nat) {k : Nat} (hk : k < n) : (List.replicate n z).toArray[k]? = some z := by simp [hk]
theorem zls_set (k : Nat) : zls.setIfInBounds k (.slice none 0 0) = zls := rep_set _ _ _
theorem zls_at {k : Nat} (hk : k < 64) : zls[k]? = some (.slice none 0 0) := rep_at _ _ hk
set_option maxRecDepth 100000 in
theorem make_64 (W : World) : (Instr.makeSlice 140 (.int .i64 64) (.int .i64 64)).run Tryz.prog W = .ok (.slice (some ⟨W.heap.size, 0, none⟩) 64 64) (W.alloc (.cells zls 42)) := by
  obtain ⟨i, hi, hz, hsz, hby⟩ := info_parts infoLs
  have := run_make (P := Tryz.prog) W 140 42 i (.slice none 0 0) Tryz.underlying140 hi hz .i64 .i64 (64 : Int) (64 : Int) (by omega) (Int.le_refl _) (by rw [hby]; omega) (by omega)
  rw [this, hsz]
  simp only [show Int.toNat 64 = 64 from rfl, Nat.mul_one]
  congr 4
  apply Array.ext'
  rw [show (Value.slice none 0 0).cells = #[Value.slice none 0 0] from rfl, toList_madeCells_one]
  rfl
theorem und_F : Tryz.prog.underlying 76 = some (.array 64 72) := by kernel_rfl
theorem und_row : ∃ dd, Tryz.prog.underlying 76 = some dd ∧ dd.isRow = true := ⟨_, und_F, rfl⟩
theorem index_F (R : Array Value) (v : Value) (j : Nat) (w : World) (hn : R.size = 64) (hj : j < 64) (hR : R[j]? = some v) (hv : v.oneCell' = true) :
    (Instr.index 76 (.agg R) (.int .i64 (j : Int))).run Tryz.prog w = .ok v w := by
  simp [Instr.index, run_underlying und_F, asIntOf, hn, hR, go_sem]
  intro h
  omega
set_option maxRecDepth 100000 in
set_option maxHeartbeats 1000000 in
theorem lists_0 (B g : Nat) (s : Sto) (w : World) (h : Opened B w g s 64) :
    Calls Tryz.prog 86 #[.pointer (some ⟨g, 0, none⟩)] w fun e w' => e = .returned (.slice (some ⟨w.heap.size, 0, none⟩) 64 64) ∧ w'.heap[w.heap.size]? = some (.cells zls 42 (0, 0)) ∧ Below w.heap.size w w' := by
  have hmk := make_64 w
  obtain ⟨dd, hdd, hrow⟩ := und_row
  have hr := fun W (hW : Below w.heap.size w W) => (h.sto.below hW).rangeF
  have hlen := h.sto.ok.f
  have HF := Lib.hid h.fs
  obtain ⟨q, hq⟩ : ∃ q, q = s.F := ⟨_, rfl⟩
  rw [← hq] at hr hlen HF
  have hiF : (Tryz.prog.info? 76).map (·.size) = some q.length := by rw [hlen]; kernel_rfl
  have HLEN := Lib.hid hlen
  have HR := Lib.hid hr
  clear h hq hlen hr
  go_enter Tryz.func86, Tryz.ntmps86
  obtain ⟨w1, hw1⟩ : ∃ w1, w1 = w.alloc (.cells zls 42) := ⟨_, rfl⟩
  have hb : Below w.heap.size w w1 := by rw [hw1]; exact (Below.refl w.heap.size w).alloc (Nat.le_refl _) _
  have hz1 : w1.heap[w.heap.size]? = some (.cells zls 42 (0, 0)) := by rw [hw1]; exact heap_alloc_new w _
  rw [← hw1] at hmk
  have hr1 := HR.out _ hb
  have HB1 := Lib.hid hb
  have HZ1 := Lib.hid hz1
  clear hw1 hb hz1
  go_wp2_with (refine wpList_load_mid rfl 76 (.tmp 11) rfl g 8 rfl q dd hr1 hdd hrow hiF ?_)
  go_loopw [13] (fun v wr => ∃ (j : Nat), v = .int .i64 (j : Int) ∧ j ≤ 64 ∧ Hid (Below w.heap.size w wr) ∧ Hid (wr.heap[w.heap.size]? = some (.cells zls 42 (0, 0)))) (fun v _ => 64 - (intOf v).toNat)
  case atStart => exact ⟨0, rfl, Nat.zero_le _, HB1, HZ1⟩
  case round =>
    obtain ⟨j, rfl, hj, HB, HZ⟩ := hrel
    by_cases hlt : j < 64
    · have hd1 : decide ((j : Int) < 64) = true := decide_eq_true (by omega)
      obtain ⟨f, hf, hbare, _⟩ := HF.out j hlt
      have HAL := Lib.hid (Fd.all0 s.d f (j : Int) s.sz 0 wr (hbare.below HB.out))
      have HJ := Lib.hid hlt
      have q0 : (0 : Int) ≤ (j : Int) := by omega
      have q1 : (j : Int) < 64 := by omega
      have hq1 : q.toArray[j]? = some (.pointer (some ⟨f, 0, none⟩)) := by simpa using hf
      have hix := fun W => index_F q.toArray _ j W (by simpa using HLEN.out) hlt hq1 rfl
      clear hlt hbare hf
      go_wp2_with fail
      refine HAL.out.mono ?_
      rintro e w5 ⟨rfl, hb5⟩
      have b5 := HB.out.trans (hb5.mono HB.out.size)
      have z5 := (hb5.block _ (Array.getElem?_eq_some_iff.1 HZ.out).1).trans HZ.out
      have c5 : w5.cell? ⟨w.heap.size, j, none⟩ = some (.slice none 0 0) := by rw [cell_of_row w5 _ _ _ _ _ z5]; exact zls_at HJ.out
      have y5 : w5.frozen? ⟨w.heap.size, j, none⟩ = false := frozen_row0 z5
      have B5 := Lib.hid b5
      have Z5 := Lib.hid z5
      clear b5 z5 hb5
      go_wp2
      go_roundw
      case rel => exact ⟨j + 1, by simp, HJ.out, Lib.hid (B5.out.setCell (by simp) _), Lib.hid (by rw [heapSame Z5.out, zls_set])⟩
      case measure => have := HJ.out; simp [intOf]; omega
    · have hd1 : decide ((j : Int) < 64) = false := decide_eq_false (by omega)
      obtain rfl : j = 64 := by omega
      clear hlt
      go_wp2
      go_ret
      exact ⟨rfl, HZ.out, HB.out⟩
end Go.Proofs.YtfkiajidcbefjaaGreatDoor.St
namespace Go.Proofs.YtfkiajidcbefjaaGreatDoor.St
open Go Go.RowKit Go.Proofs.YtfkiajidcbefjaaGreatDoor.Words Go.Proofs.YtfkiajidcbefjaaGreatDoor.Enc Go.Proofs.YtfkiajidcbefjaaGreatDoor.Made Go.Proofs.YtfkiajidcbefjaaGreatDoor.Dsk Go.Proofs.YtfkiajidcbefjaaGreatDoor.Seg Go.Proofs.YtfkiajidcbefjaaGreatDoor.Fol
set_option linter.unusedVariables false
set_option linter.unusedSimpArgs false

theorem take_set_next {α : Type} (J L : List α) {j : Nat} {b : α} (h : J.take j = L.take j) (hl : j < J.length) (hb : L[j]? = some b) : (J.set j b).take (j + 1) = L.take (j + 1) := by
  rw [List.take_add_one, List.take_add_one, List.take_set, List.getElem?_set_self hl, hb, h, List.set_eq_of_length_le (by simp; omega)]
theorem Opened.setJ {B : Nat} {w : World} {g k n : Nat} {s : Sto} (h : Opened B w g s n) (hg : g < B) (hk : k < 64) (b : Bool) : Opened B (w.setCell ⟨g, 73 + k, none⟩ (.bool b)) g { s with J := s.J.set k b } n :=
  ⟨h.sto.setJ hk b, fun i hi => by obtain ⟨f, h1, h2, h3⟩ := h.fs i hi; exact ⟨f, h1, (heapOther (by omega)).trans h2, h3⟩⟩
theorem Opened.setR {B : Nat} {w : World} {g k n : Nat} {s : Sto} (h : Opened B w g s n) (hg : g < B) (hk : k < 64) (b : Bool) : Opened B (w.setCell ⟨g, 137 + k, none⟩ (.bool b)) g { s with R := s.R.set k b } n :=
  ⟨h.sto.setR hk b, fun i hi => by obtain ⟨f, h1, h2, h3⟩ := h.fs i hi; exact ⟨f, h1, (heapOther (by omega)).trans h2, h3⟩⟩
theorem Opened.setC {B : Nat} {w : World} {g n : Nat} {s : Sto} (h : Opened B w g s n) (hg : g < B) (x : Nat) : Opened B (w.setCell ⟨g, 72, none⟩ (.int .u64 (x : Int))) g { s with ck := x } n :=
  ⟨h.sto.setC x, fun i hi => by obtain ⟨f, h1, h2, h3⟩ := h.fs i hi; exact ⟨f, h1, (heapOther (by omega)).trans h2, h3⟩⟩
theorem Opened.below {B : Nat} {w w' : World} {g n : Nat} {s : Sto} (h : Opened B w g s n) (hb : Below w.heap.size w w') : Opened B w' g s n :=
  ⟨h.sto.below hb, fun i hi => by obtain ⟨f, h1, h2, h3⟩ := h.fs i hi; exact ⟨f, h1, h2.below hb, h3⟩⟩

theorem inSet_in (l : List Bool) {j : Nat} (hj : j < 64) : inSet l (j : Int) = l.getD j false := by
  unfold inSet
  rw [decide_eq_true ⟨by omega, by omega⟩, Bool.true_and, Int.toNat_natCast]
set_option maxRecDepth 100000 in
set_option maxHeartbeats 2000000 in
theorem examine_0 (B g : Nat) (s : Sto) (F : Fo) (SF : List Nat) (db mb : Nat) (w : World) (h : Opened B w g s 64) (hg : g < B) (hF : FoldAt w SF db mb F) (hgS : g ∈ SF) (hgd : g ≠ db) (hgm : g ≠ mb) (hbase : s.base = .pointer (some ⟨db, 0, none⟩)) :
    Calls Tryz.prog 46 #[.pointer (some ⟨g, 0, none⟩)] w fun e w' => e = .returned (.tuple #[]) ∧ Opened B w' g { s with ck := s.tm, J := F.J, R := F.R } 64 ∧ Beside [g] w w' := by
  have hgw := h.sto.lt
  obtain ⟨_, _, _, _, _, c5, _, _⟩ := h.sto.head
  have c72 := h.sto.cC
  have y72 := h.sto.frozen 72
  have H1 := Lib.hid (h.setC hg s.tm)
  have hb0 : Beside [g] w (w.setCell ⟨g, 72, none⟩ (.int .u64 (s.tm : Int))) := (Beside.refl _ _).setCell (by simp) _
  have HB0 := Lib.hid hb0
  have HF := Lib.hid (fun W (hW : Beside [g] w W) => hF.beside hW (fun x hx => by simp at hx; subst hx; exact .inl ⟨hgS, hgd, hgm⟩))
  have HJL := Lib.hid (And.intro hF.ok.j hF.ok.r)
  have HBS := Lib.hid hbase
  have HG := Lib.hid hg
  clear h hb0 hF hgS hgd hgm hbase hg
  go_enter Tryz.func46, Tryz.ntmps46
  go_wp2
  go_loopw [15] (fun v wr => ∃ (j : Nat) (J R : List Bool), v = .int .i64 (j : Int) ∧ j ≤ 64 ∧ Hid (Opened B wr g { s with ck := s.tm, J := J, R := R } 64) ∧ Hid (Beside [g] w wr) ∧ Hid (J.take j = F.J.take j ∧ R.take j = F.R.take j)) (fun v _ => 64 - (intOf v).toNat)
  case atStart => exact ⟨0, s.J, s.R, rfl, Nat.zero_le _, H1, HB0, Lib.hid ⟨by simp, by simp⟩⟩
  case round =>
    obtain ⟨j, J, R, rfl, hj, HO, HB, HT⟩ := hrel
    by_cases hlt : j < 64
    · have hd1 : decide ((j : Int) < 64) = true := decide_eq_true (by omega)
      have HJ := Lib.hid hlt
      obtain ⟨bj, hbj⟩ : ∃ b, F.J[j]? = some b := ⟨_, List.getElem?_eq_getElem (by rw [HJL.out.1]; exact hlt)⟩
      obtain ⟨br, hbr⟩ : ∃ b, F.R[j]? = some b := ⟨_, List.getElem?_eq_getElem (by rw [HJL.out.2]; exact hlt)⟩
      have hij : inSet F.J (j : Int) = bj := by rw [inSet_in _ hlt]; simp [List.getD, hbj]
      have hir : inSet F.R (j : Int) = br := by rw [inSet_in _ hlt]; simp [List.getD, hbr]
      have CELLS : ∀ w', Below wr.heap.size wr w' → (w'.cell? ⟨g, 7, none⟩ = some (.pointer (some ⟨db, 0, none⟩))) ∧ w'.cell? ⟨g, 73 + j, none⟩ = some (.bool (J.getD j false)) ∧ w'.cell? ⟨g, 137 + j, none⟩ = some (.bool (R.getD j false)) ∧ w'.frozen? ⟨g, 73 + j, none⟩ = false ∧ w'.frozen? ⟨g, 137 + j, none⟩ = false ∧ g < w'.heap.size := fun W hW => by
        have q := HO.out.sto.below hW
        exact ⟨(q.head.2.2.2.2.2.2.2).trans (congrArg some HBS.out), q.cJ HJ.out, q.cR HJ.out, q.frozen _, q.frozen _, q.lt⟩
      have JO : ∀ W, Below wr.heap.size wr W → Calls Tryz.prog 84 #[.pointer (some ⟨db, 0, none⟩), .int .i64 (j : Int)] W fun e w' => e = .returned (.bool bj) ∧ Hid (Below wr.heap.size wr w') ∧ (w'.cell? ⟨g, 7, none⟩ = some (.pointer (some ⟨db, 0, none⟩))) ∧ w'.cell? ⟨g, 73 + j, none⟩ = some (.bool (J.getD j false)) ∧ w'.cell? ⟨g, 137 + j, none⟩ = some (.bool (R.getD j false)) ∧ w'.frozen? ⟨g, 73 + j, none⟩ = false ∧ w'.frozen? ⟨g, 137 + j, none⟩ = false ∧ g < w'.heap.size := fun W hW => by
        have := joined_any (j : Int) W ((HF.out wr HB.out).below hW)
        rw [hij] at this
        refine this.mono ?_
        rintro e w' ⟨rfl, hb⟩
        have b := hW.trans (hb.mono hW.size)
        exact ⟨rfl, Lib.hid b, CELLS _ b⟩
      have RE : ∀ W, Below wr.heap.size wr W → Calls Tryz.prog 85 #[.pointer (some ⟨db, 0, none⟩), .int .i64 (j : Int)] W fun e w' => e = .returned (.bool br) ∧ Hid (Below wr.heap.size wr w') ∧ (w'.cell? ⟨g, 7, none⟩ = some (.pointer (some ⟨db, 0, none⟩))) ∧ w'.cell? ⟨g, 73 + j, none⟩ = some (.bool (J.getD j false)) ∧ w'.cell? ⟨g, 137 + j, none⟩ = some (.bool (R.getD j false)) ∧ w'.frozen? ⟨g, 73 + j, none⟩ = false ∧ w'.frozen? ⟨g, 137 + j, none⟩ = false ∧ g < w'.heap.size := fun W hW => by
        have := retired_any (j : Int) W ((HF.out wr HB.out).below hW)
        rw [hir] at this
        refine this.mono ?_
        rintro e w' ⟨rfl, hb⟩
        have b := hW.trans (hb.mono hW.size)
        exact ⟨rfl, Lib.hid b, CELLS _ b⟩
      have K1 := Lib.hid (fun (W : World) (hW : Below wr.heap.size wr W) => (by
        have q := ((HO.out.below hW).setJ HG.out HJ.out bj).sto.head.2.2.2.2.2.2.2
        exact q.trans (congrArg some HBS.out) : (W.setCell ⟨g, 73 + j, none⟩ (.bool bj)).cell? ⟨g, 7, none⟩ = some (.pointer (some ⟨db, 0, none⟩))))
      have K2 := Lib.hid (fun (W : World) (hW : Below wr.heap.size wr W) => (by
        have q := (((HO.out.below hW).setJ HG.out HJ.out bj).setR HG.out HJ.out br).sto.head.2.2.2.2.2.2.2
        exact q.trans (congrArg some HBS.out) : ((W.setCell ⟨g, 73 + j, none⟩ (.bool bj)).setCell ⟨g, 137 + j, none⟩ (.bool br)).cell? ⟨g, 7, none⟩ = some (.pointer (some ⟨db, 0, none⟩))))
      have HN := Lib.hid (fun (W : World) (hW : Below wr.heap.size wr W) => ((HO.out.below hW).setJ HG.out HJ.out bj).setR HG.out HJ.out br)
      have HTN := Lib.hid (And.intro (take_set_next J F.J HT.out.1 (by have := HO.out.sto.ok.j; simp only [] at this; omega) hbj) (take_set_next R F.R HT.out.2 (by have := HO.out.sto.ok.r; simp only [] at this; omega) hbr))
      obtain ⟨c7, cJ, cR, yJ, yR, hgl⟩ := CELLS wr (Below.refl _ _)
      have q0 : (0 : Int) ≤ (j : Int) := by omega
      have q1 : (j : Int) < 64 := by omega
      clear CELLS hij hir hbj hbr c5 c72 y72 hgw hlt
      go_upto_region 4 with fail
      go_region_held3 (fun w' => w'.cell? ⟨g, 7, none⟩ = some (.pointer (some ⟨db, 0, none⟩))) (first | go_keep | exact K1.out _ HR2.out | exact K2.out _ HR2.out)
        (first
          | (go_at_call 84
             refine (JO _ ?h1).mono ?_
             case h1 => first | exact Below.refl _ _ | exact (Below.refl _ _).drew | exact HR1.out
             rintro e w6 ⟨rfl, HR1, c7, cJ, cR, yJ, yR, hgl⟩)
          | (go_at_call 85
             refine (RE _ ?h2).mono ?_
             case h2 => first | exact HR1.out | exact HR1.out.drew
             rintro e w7 ⟨rfl, HR2, c7, cJ, cR, yJ, yR, hgl⟩))
      go_wp2
      go_roundw
      case rel => exact ⟨j + 1, _, _, by simp, HJ.out, Lib.hid (HN.out _ HR2.out), Lib.hid (((HB.out.trans (Beside.of_below HR2.out [g]) fun k hk => .inl hk).setCell (by simp) _).setCell (by simp) _), HTN⟩
      case measure => have := HJ.out; simp [intOf]; omega
    · have hd1 : decide ((j : Int) < 64) = false := decide_eq_false (by omega)
      obtain rfl : j = 64 := by omega
      have hJ : J = F.J := by
        have h1 := HT.out.1
        have h2 : J.length = 64 := HO.out.sto.ok.j
        rwa [List.take_of_length_le (by omega), List.take_of_length_le (by have := HJL.out.1; omega)] at h1
      have hR : R = F.R := by
        have h1 := HT.out.2
        have h2 : R.length = 64 := HO.out.sto.ok.r
        rwa [List.take_of_length_le (by omega), List.take_of_length_le (by have := HJL.out.2; omega)] at h1
      subst hJ
      subst hR
      have HL := Lib.hid (lists_0 B g _ wr HO.out)
      clear hlt c5 c72 y72 hgw HF HT
      go_wp2_with fail
      refine HL.out.mono ?_
      rintro e w5 ⟨rfl, hz5, hb5⟩
      have HZ5 := Lib.hid hz5
      have HB5 := Lib.hid hb5
      clear hz5 hb5 HL
      go_wp2
      go_loopw [44] (fun v w9 => ∃ k : Nat, v = .int .i64 (k : Int) ∧ k ≤ 64 ∧ w5 = w9) (fun v _ => 64 - (intOf v).toNat)
      case atStart => exact ⟨0, rfl, Nat.zero_le _, rfl⟩
      case round =>
        obtain ⟨k, rfl, hk, rfl⟩ := hrel
        by_cases hlk : k < 64
        · have hd2 : decide ((k : Int) < 64) = true := decide_eq_true (by omega)
          have ck : w5.cell? ⟨wr.heap.size, k, none⟩ = some (.slice none 0 0) := by rw [cell_of_row w5 _ _ _ _ _ HZ5.out]; exact zls_at hlk
          have HK := Lib.hid hlk
          have q0 : (0 : Int) ≤ (k : Int) := by omega
          have q1 : (k : Int) < 64 := by omega
          clear hlk
          go_wp2
          go_loopw [50] (fun v w8 => v = .int .i64 0 ∧ w5 = w8) (fun _ _ => 0)
          case atStart => exact ⟨rfl, rfl⟩
          case round =>
            obtain ⟨rfl, rfl⟩ := hrel
            go_wp2
            go_roundw
            case rel => exact ⟨k + 1, by simp, HK.out, by trivial⟩
            case measure => have := HK.out; simp [intOf]; omega
        · have hd2 : decide ((k : Int) < 64) = false := decide_eq_false (by omega)
          obtain rfl : k = 64 := by omega
          clear hlk
          go_wp2
          go_returns
          exact ⟨rfl, HO.out.below HB5.out, HB.out.trans (Beside.of_below HB5.out [g]) fun k hk => .inl hk⟩
end Go.Proofs.YtfkiajidcbefjaaGreatDoor.St
namespace Go.Proofs.YtfkiajidcbefjaaGreatDoor.St
open Go Go.RowKit Go.Proofs.YtfkiajidcbefjaaGreatDoor.Words Go.Proofs.YtfkiajidcbefjaaGreatDoor.Enc Go.Proofs.YtfkiajidcbefjaaGreatDoor.Made Go.Proofs.YtfkiajidcbefjaaGreatDoor.Dsk
set_option linter.unusedVariables false
set_option linter.unusedSimpArgs false

theorem names_1 (d : Nat) (S : List Nat) (f : File) (h : Hd) (w : World) (hd : Disk w d S [f] h) (hoff : h.off = false) :
    Calls Tryz.prog 79 #[.pointer (some ⟨d, 0, none⟩), .string ⟨#[]⟩] w fun e w' => ∃ b c, e = .returned (.slice (some ⟨b, 0, none⟩) 1 c) ∧ w'.cell? ⟨b, 0, none⟩ = some (.string ⟨f.name.toArray⟩) ∧ Below w.heap.size w w' := by
  obtain ⟨mb, fs, hda, hab, rfl⟩ := hd
  have hl : fs.length = 1 := by
    have := congrArg List.length hab
    simpa [abs] using this
  have hn : fs.map (·.name) = [f.name] := by
    have := congrArg (List.map File.name) hab
    simpa [abs, List.map_map, Function.comp_def, Fil.abs] using this
  refine (names_pre d mb fs h ⟨#[]⟩ w hda hoff (by omega)).mono ?_
  rintro e w' ⟨A, n, c, ss, rfl, hp, rfl, ho, hb⟩
  have hf : ([f.name]).filter (fun s => Lib.hasPrefix s (⟨#[]⟩ : ByteArray).data.toList) = [f.name] := by simp [Lib.hasPrefix]
  rw [hn, hf] at hp
  obtain rfl := List.perm_singleton.1 hp
  rcases ho.2 with ⟨_, h0⟩ | ⟨g, cap, cur, hv, hbs, hh, h1, h2, h3, h4⟩
  · simp at h0
  · injection hv with hA _ hc
    subst hA
    have := ho.cells (g := g) rfl 0 (.string ⟨f.name.toArray⟩) (by simp [Go.Proofs.encStr])
    simp only [add_plain, Nat.zero_add] at this
    exact ⟨g, c, rfl, this, hb⟩
set_option maxRecDepth 100000 in
set_option maxHeartbeats 1000000 in
theorem clean_0 (g : Nat) (s : Sto) (S : List Nat) (f : File) (h : Hd) (w : World) (hs : StoAt w g s) (hd : Disk w s.d S [f] h) (hoff : h.off = false) (hlen : f.name.length ≤ 100000) (h1 : Lib.hasSuffix f.name [46, 110, 101, 119] = false) (h2 : Lib.hasPrefix f.name [102, 111, 108, 100, 45] = false) :
    Calls Tryz.prog 44 #[.pointer (some ⟨g, 0, none⟩)] w fun e w' => e = .returned (.int .i64 0) ∧ Below w.heap.size w w' := by
  obtain ⟨c0, _⟩ := hs.head
  have HN := Lib.hid (names_1 s.d S f h w hd hoff)
  have HLN := Lib.hid (show (⟨f.name.toArray⟩ : ByteArray).size ≤ 9223372036854775807 by show f.name.toArray.size ≤ _; rw [List.size_toArray]; omega)
  have H1 := Lib.hid h1
  have H2 := Lib.hid h2
  clear hs hd hoff h1 h2
  go_enter Tryz.func44, Tryz.ntmps44
  go_wp2_with fail
  refine HN.out.mono ?_
  rintro e w1 ⟨b, c, rfl, hc, hb⟩
  have HB := Lib.hid hb
  clear hb c0 HN
  go_wp2
  go_loopw [12] (fun v wr => (v = .int .i64 0 ∨ v = .int .i64 1) ∧ w1 = wr) (fun v _ => 1 - (intOf v).toNat)
  case atStart => exact ⟨.inl rfl, rfl⟩
  case round =>
    obtain ⟨hv, rfl⟩ := hrel
    rcases hv with rfl | rfl
    · go_wp2_with fail
      refine (Tryz.strings_HasSuffix ⟨f.name.toArray⟩ _ w1 HLN.out).mono ?_
      rintro e w2 ⟨rfl, rfl⟩
      rw [show Lib.hasSuffix (⟨f.name.toArray⟩ : ByteArray).data.toList (⟨#[46, 110, 101, 119]⟩ : ByteArray).data.toList = false from H1.out]
      go_wp2_with fail
      refine (Tryz.strings_HasPrefix ⟨f.name.toArray⟩ _ w2).mono ?_
      rintro e w3 ⟨rfl, rfl⟩
      rw [show Lib.hasPrefix (⟨f.name.toArray⟩ : ByteArray).data.toList (⟨#[102, 111, 108, 100, 45]⟩ : ByteArray).data.toList = false from H2.out]
      go_wp2
      go_roundw
      case rel => exact ⟨.inr rfl, by trivial⟩
      case measure => simp [intOf]
    · go_wp2
      go_ret
      exact ⟨rfl, HB.out⟩
end Go.Proofs.YtfkiajidcbefjaaGreatDoor.St
namespace Go.Proofs.YtfkiajidcbefjaaGreatDoor.St
open Go Go.RowKit Go.Proofs.YtfkiajidcbefjaaGreatDoor.Words Go.Proofs.YtfkiajidcbefjaaGreatDoor.Enc Go.Proofs.YtfkiajidcbefjaaGreatDoor.Made Go.Proofs.YtfkiajidcbefjaaGreatDoor.Dsk Go.Proofs.YtfkiajidcbefjaaGreatDoor.Seg Go.Proofs.YtfkiajidcbefjaaGreatDoor.Fol
set_option linter.unusedVariables false
set_option linter.unusedSimpArgs false

/-- A store's struct as it is made. -/
def stoZ (d : Nat) (sz : Int) : Sto := ⟨d, sz, 0, 0, .slice none 0 0, 0, ⟨#[]⟩, .pointer none, List.replicate 64 (.pointer none), 0, List.replicate 64 false, List.replicate 64 false⟩
/-- A new store's struct. -/
def sto0 (d : Nat) (sz : Int) (nd db n : Nat) (F : List Value) : Sto := ⟨d, sz, (nd : Int), 1, .slice none 0 0, 0, ⟨#[]⟩, .pointer (some ⟨db, 0, none⟩), F, 0, (newF n).J, (newF n).R⟩
theorem stoZ_ok (d : Nat) (sz : Int) : (stoZ d sz).Ok := ⟨by simp [stoZ], by simp [stoZ], by simp [stoZ]⟩
set_option maxRecDepth 100000 in
theorem build_sto (d : Nat) (sz : Int) (W : World) : (Instr.build 80 #[(0, .pointer (some ⟨d, 0, none⟩)), (1, .int .i64 sz)]).run Tryz.prog W = .ok (.agg (stoZ d sz).row) W := by kernel_rfl
theorem mN_plain (nd : Nat) : Lib.hasSuffix (mfile nd).name [46, 110, 101, 119] = false ∧ Lib.hasPrefix (mfile nd).name [102, 111, 108, 100, 45] = false ∧ (mfile nd).name.length ≤ 100000 :=
  ⟨by show Lib.hasSuffix Man.mN _ = false; decide, by show Lib.hasPrefix Man.mN _ = false; decide, by show Man.mN.length ≤ 100000; decide⟩
theorem mN_feed (nd : Nat) : NoFeed [mfile nd] := by
  intro x _ f hf
  simp only [List.mem_singleton] at hf
  subst hf
  show Lib.hasPrefix Man.mN (beginL (x : Int)) = false
  unfold beginL
  rfl
/-- A store that has been opened on an empty disk, without events. -/
structure New0 (w0 w : World) (d g nd n db C : Nat) (sz : Int) (S0 S : List Nat) (F : List Value) (B : Nat) : Prop where
  op : Opened B w g (sto0 d sz nd db n F) 64
  gB : g < B
  g0 : w0.heap.size ≤ g
  disk : Disk w d S [mfile nd] ⟨(C : Int), 4, -1, 0, false⟩
  new : ∀ k ∈ S, k ∈ S0 ∨ w0.heap.size ≤ k
  low : ∀ k ∈ S, k < B
  off : g ∉ S
  frame : Beside S0 w0 w
set_option maxRecDepth 100000 in
set_option maxHeartbeats 2000000 in
theorem open_0 (d nd n C : Nat) (sz : Int) (S0 : List Nat) (w : World) (hd : Disk w d S0 [] ⟨(C : Int), 0, -1, 0, false⟩) (T : TabsOn S0 w) (hnd : nd < 64) (hn : n ≤ 64) (hC : 10000 ≤ C ∧ C ≤ 1000000) :
    Calls Tryz.prog 23 #[.pointer (some ⟨d, 0, none⟩), .int .i64 (nd : Int), .int .i64 (n : Int), .int .i64 sz] w fun e w' => ∃ g db S F B, e = .returned (.tuple #[.pointer (some ⟨g, 0, none⟩), .int .i64 0]) ∧ New0 w w' d g nd n db C sz S0 S F B := by
  have d0 : decide ((nd : Int) < 0) = false := decide_eq_false (by omega)
  have d1 : decide ((64 : Int) ≤ (nd : Int)) = false := decide_eq_false (by omega)
  obtain ⟨R, hR⟩ : ∃ R, R = (stoZ d sz).row := ⟨_, rfl⟩
  have hbn := build_sto d sz w
  rw [← hR] at hbn
  have HBN := Lib.hid hbn
  have hb0 : Below w.heap.size w (w.alloc (.cells R 80)) := (Below.refl _ _).alloc (Nat.le_refl _) _
  have hs0 : StoAt (w.alloc (.cells R 80)) w.heap.size (stoZ d sz) := ⟨by rw [← hR]; exact heap_alloc_new w _, stoZ_ok d sz⟩
  have HID := Lib.hid (identify_0 w.heap.size nd C (stoZ d sz) S0 _ hs0 (hd.below hb0) (fun hm => by have := hd.lt _ hm; omega) (T.below hb0) hnd hC)
  have HB0 := Lib.hid hb0
  have HDL := Lib.hid hd.lt
  have HTT := Lib.hid (T.below hb0)
  have HC := Lib.hid hC
  have T0 := Lib.hid T
  clear hbn hR hb0 hs0 hd T hC
  go_enter Tryz.func23, Tryz.ntmps23
  go_wp2_with (first | (refine wpList_build2 rfl 80 0 1 (.tmp 21) (.tmp 22) rfl (.pointer (some ⟨d, 0, none⟩)) (.int .i64 sz) (.agg R) rfl rfl HBN.out ?_))
  refine HID.out.mono ?_
  rintro e w1 ⟨rfl, hs1, hb1, S1, hd1, hn1⟩
  have hg1 : w.heap.size ∉ S1 := fun hm => by
    rcases hn1 _ hm with h | h
    · have := HDL.out _ h; omega
    · simp at h; omega
  have HRF := Lib.hid (readFold_0 w.heap.size n _ w1 hs1 rfl rfl hn)
  have H1 := Lib.hid (And.intro hs1 (And.intro hb1 (And.intro hd1 (And.intro hn1 hg1))))
  clear hs1 hb1 hd1 hn1 hg1 HID
  go_wp2_with fail
  refine HRF.out.mono ?_
  rintro e w2 ⟨rfl, db, mb, hF, hdb, hmb, hs2, hb2⟩
  have hg0 : w.heap.size < (w.alloc (.cells R 80)).heap.size := by simp
  obtain ⟨hs1, hb1, hd1, hn1, hg1⟩ := H1.out
  have hlt1 : w.heap.size < w1.heap.size := Nat.lt_of_lt_of_le hg0 hb1.size
  have hfr1 : Beside S0 w w1 := (Beside.of_below HB0.out S0).trans hb1 fun k hk => by
    rcases List.mem_cons.1 hk with rfl | h
    · exact .inr (Nat.le_refl _)
    · exact .inl h
  have hn1' : ∀ k ∈ S1, k ∈ S0 ∨ w.heap.size ≤ k := fun k hk => (hn1 k hk).imp id (fun h => by omega)
  have hd2 : Disk w2 d S1 [mfile nd] ⟨(C : Int), 4, -1, 0, false⟩ := hd1.beside hb2 (by simpa using hg1)
  have hfr2 : Beside S0 w w2 := hfr1.trans hb2 fun k hk => .inr (by simp at hk; omega)
  have HCL := Lib.hid (clean_0 w.heap.size _ S1 (mfile nd) _ w2 hs2 hd2 rfl (mN_plain nd).2.2 (mN_plain nd).1 (mN_plain nd).2.1)
  have H2 := Lib.hid (And.intro hs2 (And.intro hd2 (And.intro hfr2 (And.intro hF (And.intro hdb (And.intro hmb hn1'))))))
  have HL := Lib.hid (And.intro hlt1 (And.intro hg1 hb2.size))
  clear hs1 hb1 hd1 hn1 hg1 hlt1 hfr1 hn1' hd2 hfr2 hs2 hb2 hF hdb hmb HRF H1 hg0
  go_wp2_with fail
  refine HCL.out.mono ?_
  rintro e w3 ⟨rfl, hb3⟩
  obtain ⟨hs2, hd2, hfr2, hF, hdb, hmb, hn1⟩ := H2.out
  obtain ⟨hlt1, hg1, hl12⟩ := HL.out
  have hfr3 : Beside S0 w w3 := hfr2.trans (Beside.of_below hb3 []) fun k hk => by cases hk
  have hs3 := hs2.below hb3
  have hd3 := hd2.below hb3
  have hF3 := hF.below hb3
  have HOF := Lib.hid (openFeeds_0 w.heap.size _ S1 [mfile nd] _ w3 hs3 hd3 hg1 (T0.out.next hfr3 fun k hk => by
    rcases List.mem_append.1 hk with h | h
    · exact hn1 k h
    · simp at h; exact .inr (by omega)) rfl (by simp) (mN_feed nd) rfl rfl)
  have H3 := Lib.hid (And.intro hd3 (And.intro hfr3 (And.intro hF3 (And.intro hn1 hd3.lt))))
  have hl3 : w.heap.size < w3.heap.size := by have := hb3.size; omega
  clear hs2 hd2 hfr2 hF hn1 hfr3 hs3 hd3 hF3 hb3 HCL H2
  have HDB := Lib.hid (And.intro hlt1 (And.intro hdb hmb))
  clear hlt1 hdb hmb hl12
  go_wp2_with fail
  refine HOF.out.mono ?_
  rintro e w4 ⟨rfl, F, hop, hb4⟩
  obtain ⟨hd3, hfr3, hF3, hn1, hlow⟩ := H3.out
  have hne : w.heap.size ≠ db ∧ w.heap.size ≠ mb := by have := HDB.out; omega
  have hF4 := hF3.beside hb4 (fun x hx => by
    simp at hx
    subst hx
    exact .inl ⟨by simp, hne.1, hne.2⟩)
  have hd4 : Disk w4 d S1 [mfile nd] ⟨(C : Int), 4, -1, 0, false⟩ := hd3.beside hb4 (by simpa using hg1)
  have hfr4 : Beside S0 w w4 := hfr3.trans hb4 fun k hk => .inr (by simp at hk; omega)
  have HEX := Lib.hid (examine_0 w3.heap.size w.heap.size _ (newF n) [db, mb, w.heap.size] db mb w4 hop hl3 hF4 (by simp) hne.1 hne.2 rfl)
  have H4 := Lib.hid (And.intro hd4 (And.intro hfr4 (And.intro hn1 (And.intro hlow (And.intro hl3 hg1)))))
  clear hd3 hfr3 hF3 hn1 hlow hF4 hd4 hfr4 hop hb4 HOF H3 hne hl3 hg1 HDB HL
  go_wp2_with fail
  refine HEX.out.mono ?_
  rintro e w5 ⟨rfl, hop, hb5⟩
  obtain ⟨hd4, hfr4, hn1, hlow, hl3, hg1⟩ := H4.out
  have FIN := Lib.hid (⟨hop, hl3, Nat.le_refl _, hd4.beside hb5 (by simpa using hg1), hn1, hlow, hg1, hfr4.trans hb5 fun k hk => .inr (by simp at hk; omega)⟩ : New0 w w5 d w.heap.size nd n db C sz S0 S1 F w3.heap.size)
  clear hd4 hfr4 hn1 hlow hl3 hg1 hop hb5 HEX H4
  go_wp2
  go_ret2
  exact ⟨_, _, _, _, _, rfl, FIN.out⟩
end Go.Proofs.YtfkiajidcbefjaaGreatDoor.St
namespace Go.Proofs.YtfkiajidcbefjaaGreatDoor.St
open Go Go.RowKit Go.Proofs.YtfkiajidcbefjaaGreatDoor.Words Go.Proofs.YtfkiajidcbefjaaGreatDoor.Enc Go.Proofs.YtfkiajidcbefjaaGreatDoor.Made Go.Proofs.YtfkiajidcbefjaaGreatDoor.Dsk Go.Proofs.YtfkiajidcbefjaaGreatDoor.Seg Go.Proofs.YtfkiajidcbefjaaGreatDoor.Evt
open Go.Proofs.YtfkiajidcbefjaaGreatDoor.Fd (XS xsX xsO xsC Feed FeedAt FNext Part SegS blk bx hdA Rise evsP)
open Go.Proofs.YtfkiajidcbefjaaGreatDoor.Sht (headL headL_len titleL_len)
set_option linter.unusedVariables false
set_option linter.unusedSimpArgs false

/-- What else is on the disk: the manifest; events lie outside of the store's struct. -/
abbrev xsS (X : List Nat) (nd C : Nat) (hnd : nd < 64) (hC : C ≤ 1000000) : XS where
  X := X
  O := fun _ => [mfile nd]
  no := fun x f hf => by
    simp only [List.mem_singleton] at hf
    subst hf
    show Lib.hasPrefix Man.mN (beginL (x : Int)) = false
    unfold beginL
    rfl
  few := fun x => ⟨by have := mbytes_len hnd; simp [sumA, mfile]; omega, by simp⟩
  cap := C
  capOk := hC
abbrev ixS (X : List Nat) (nd C : Nat) (hnd : nd < 64) (hC : C ≤ 1000000) : Inhabited XS := ⟨xsS X nd C hnd hC⟩
theorem head1 {x : Nat} (hx : x < 64) : (headL 115 x 1).length ≤ 60 := by
  have h := headL_len (k := 115) (a := x) (b := 1) (by omega) (by omega)
  have h3 := (titleL_len (k := 115) (a := x) (b := 1) (by omega) (by omega)).2
  omega
theorem feed_beside [Inhabited XS] {w w' : World} {d f x : Nat} {sz : Int} {floor time : Nat} {P : List Part} {safe : Nat} {O : List Nat} {h : Hd} (F : Feed w d f x sz floor time P safe O h) {D : List Nat} (hb : Beside D w w') (hD : ∀ k ∈ D, k ∈ xsX) (hO : ∀ k ∈ D, k ∉ O) : Feed w' d f x sz floor time P safe O h := by
  obtain ⟨R, A, c, S, hR, hOe, F⟩ := F
  have hS : ∀ k ∈ D, k ∉ S := fun k hk hm => hO k hk (by rw [hOe]; exact List.mem_append.2 (.inl hm))
  have hf : f ∉ D := fun hm => hO f hm (by rw [hOe]; simp)
  have hA : ∀ g ∈ blk A, g ∉ D := fun g hg hm => hO g hm (by rw [hOe]; simp [hg])
  refine ⟨R, A, c, S, hR, hOe, ⟨F.disk.beside hb hS, (hb.block f (Array.getElem?_eq_some_iff.1 F.box).1 hf).trans F.box, Fd.own_kept F.row fun g hg => hb.block g (Fd.own_blk F.row g hg).2 (hA g hg), fun r hr => ?_, F.fS, F.aS, fun k hk => Nat.lt_of_lt_of_le (F.xl k hk) hb.size⟩⟩
  exact (F.evs r hr).next (hb.wider fun k hk => .inl (List.mem_append.2 (.inr (List.mem_append.2 (.inr (hD k hk)))))) fun k hk => .inl hk
/-- The one part of a feed with one event. -/
def part1 (x : Nat) (ev : Ev) : Part := ⟨1, [plainE ev], (headL 115 x 1).length⟩
theorem wrap_small {ev : Ev} (hr : Right ev) (htx : ev.text.length ≤ 500) : (wrap (evL ev)).length ≤ 700 := by
  have h1 := wrap_length (evL ev)
  have h2 := evL_len hr
  have h3 := enc_ten (n := (evL ev).length) (by omega)
  omega
theorem part1_z {x : Nat} {ev : Ev} (hr : Right ev) : (part1 x ev).z x = (headL 115 x 1).length + (wrap (evL ev)).length := by
  simp [part1, Part.z, Sht.wraps, plain_evL hr.k1]
set_option maxHeartbeats 1000000 in
theorem feedAdd_0 (X : List Nat) (d f x nd C : Nat) (sz : Int) (S : List Nat) (ev : Ev) (Be : Option Addr) (me ke : Nat) (w : World) (hnd : nd < 64) (hC : C ≤ 1000000) (hC0 : 10000 ≤ C) (hf : Bare w d f x sz) (hd : Disk w d S [mfile nd] ⟨(C : Int), 4, -1, 0, false⟩) (hfS : f ∉ S) (hg : ∀ k ∈ X, k < w.heap.size)
    (T : TabsOn (S ++ [f]) w) (hs : Sees w Be me ev.text) (hout : Out (S ++ [f]) Be me) (hr : Right ev) (hfit : ev.Fit) (htx : ev.text.length ≤ 500) (hkey : ev.key.size ≤ 1048576) (hx : x < 64) (hwr : ev.writer = (x : Int)) (hsq : ev.seq = 1) :
    Calls Tryz.prog 52 #[.pointer (some ⟨f, 0, none⟩), ev.val Be me ke] w fun e w' => e = .returned (.int .i64 0) ∧ ∃ acts', acts' ≤ 7 ∧ @FNext (ixS X nd C hnd hC) (S ++ [f]) w d f x sz 0 0 [part1 x ev] 0 acts' w' := by
  letI : Inhabited XS := ixS X nd C hnd hC
  have F : Feed w d f x sz 0 0 [] 0 (S ++ [f]) (hdA 4) := ⟨[], none, 0, S, rfl, rfl, ⟨hd, hf, World.ownsRow_nil _ _ _ _, fun r hr => (by cases hr), hfS, fun k hk => (by simp [blk] at hk), fun k hk => hg k hk⟩⟩
  have G : Fd.Good x 0 1 [] := ⟨trivial, by omega, by simp [evsP], by omega, by simp [evsP]⟩
  have hsum : sumA (xsO x) = (mbytes nd).length := by show sumA [mfile nd] = _; simp [sumA, mfile]
  have hml := mbytes_len hnd
  have hwl := wrap_small hr htx
  have hhl := head1 hx
  have hxc : xsC = C := rfl
  have hla := fun W (hW : Below w.heap.size w W) => Fd.lastF_none d f x sz 0 0 [] 0 (S ++ [f]) (hdA 4) 1 W (F.below hW) G (by simp [evsP])
  refine (Fd.add_at f x 1 0 true ev Be me ke w (fun W w' => ∃ acts', acts' ≤ 7 ∧ FNext (S ++ [f]) W d f x sz 0 0 [part1 x ev] 0 acts' w')
    (fun W hW => by rw [cell_of_row W f _ _ _ _ (hf.below hW)]; rfl)
    (fun W hW => Fd.sealed_none _ W (hla W hW))
    (fun W hW => Fd.next_bare d f (x : Int) sz 0 0 none 0 0 W (hf.below hW) (by omega))
    (fun W hW => Fd.time_none f 0 W (fun W2 hW2 => by rw [cell_of_row W2 f _ _ _ _ ((hf.below hW).below hW2)]; rfl) (hla W hW))
    (fun W hW => Fd.full_none d f x sz 0 0 0 (S ++ [f]) (hdA 4) W (F.below hW))
    (fun _ W hW => ?_) (fun h => by cases h) hwr hsq (by have := hr.t1; omega) (Array.getElem?_eq_some_iff.1 hf).1).mono ?_
  · refine (Fd.begin_gen d f x sz 0 0 [] 0 4 (S ++ [f]) ev Be me ke W (F.below hW) (T.below hW) ⟨List.Pairwise.nil, fun p hp => (by cases hp)⟩ hx (by simp) (by simp) (by omega) (fun p hp => (by cases hp)) (fun p hp => (by simp at hp)) (hs.below hW) hout hr hfit (by omega) hkey hwr (by omega) (fun p hp => (by cases hp)) ?_).mono ?_
    · rw [hsum, hxc, hsq]; simp; omega
    · rintro e w' ⟨rfl, acts', ha, hN⟩
      rw [hsq] at hN
      exact ⟨rfl, acts', by simpa using ha, hN⟩
  · rintro e w' ⟨rfl, W, hW, acts', ha, O', h1, h2, h3⟩
    exact ⟨rfl, acts', ha, O', h1, (Beside.of_below hW _).trans h2 fun k hk => .inl hk, fun k hk => (h3 k hk).imp id (fun h => Nat.le_trans hW.size h)⟩
end Go.Proofs.YtfkiajidcbefjaaGreatDoor.St
