/- Order: Len, Less, Swap of the heap of lists. Order: Swap, Push, Pop of the heap of lists. Order: Push of the heap of lists. Order: Pop of the heap of lists: slices.Delete of the last. Order: container/heap: up, down. -/
import Derived.BigRegion
import Derived.Deep.RegionLaw
import Derived.Deep.AppendLies
import Derived.Lib.SliceRun
import Derived.Test.YtmogoopkjkdkgaaGreatVTp12
namespace Go.Proofs.YtmogoopkjkdkgaaGreat.Ord
open Go Go.RowKit Go.Proofs.YtmogoopkjkdkgaaGreat.Words Go.Proofs.YtmogoopkjkdkgaaGreat.Enc Go.Proofs.YtmogoopkjkdkgaaGreat.Evt Go.Proofs.YtmogoopkjkdkgaaGreat.Seg
set_option linter.unusedVariables false
set_option linter.unusedSimpArgs false

theorem at_mem {hs : List HV} {k : Nat} (hk : k < hs.length) : HV.at_ hs k ∈ hs := by
  unfold HV.at_
  rw [List.getD_eq_getElem?_getD, List.getElem?_eq_getElem hk]
  exact List.getElem_mem hk
theorem HeadsAt.get {B p : Nat} {T : TypeId} {A : Option Addr} {c : Nat} {hs : List HV} {w : World} (h : HeadsAt B p T A c hs w) (hn : 0 < hs.length) :
    ∃ g, A = some ⟨g, 0, none⟩ ∧ B ≤ g ∧ g ≠ p ∧ ∀ k, k < hs.length → w.cell? ⟨g, k, none⟩ = some (HV.at_ hs k).val := by
  obtain ⟨g, rfl, hg⟩ := own_at8 h.own hn
  refine ⟨g, rfl, hg, h.apart _ rfl, fun k hk => ?_⟩
  have := h.own.cells (g := g) rfl k (HV.at_ hs k).val (by
    unfold HV.at_
    rw [List.getD_eq_getElem?_getD, List.getElem?_map, List.getElem?_eq_getElem hk]; rfl)
  rw [add_plain] at this
  simpa using this
theorem Lies.first {B : Nat} {w : World} {h : HV} (hl : Lies B w h) (hn : h.S ≠ []) : ∃ b o, b < B ∧ h.A = some ⟨b, o, none⟩ ∧ w.cell? ⟨b, o, none⟩ = some (.int .i64 h.one.e.writer) ∧ w.cell? ⟨b, o + 1, none⟩ = some (.int .u64 (h.one.e.seq : Int)) ∧ w.cell? ⟨b, o + 2, none⟩ = some (.int .u64 (h.one.e.time : Int)) ∧ w.cell? ⟨b, o + 3, none⟩ = some (.int .u8 (h.one.e.kind : Int)) ∧ w.cell? ⟨b, o + 4, none⟩ = some (.string h.one.e.key) ∧ w.cell? ⟨b, o + 5, none⟩ = some (.slice h.one.A h.one.n h.one.c) ∧ w.cell? ⟨b, o + 6, none⟩ = some (.float .f64 h.one.e.num) ∧ w.cell? ⟨b, o + 7, none⟩ = some (.int .i64 h.one.e.node) := by
  have hn' : 0 < h.S.length := by
    cases hS : h.S with
    | nil => exact absurd hS hn
    | cons a l => simp
  obtain ⟨b, o, h1, h2, h3⟩ := hl.2 hn'
  refine ⟨b, o, h1, h2, ?_⟩
  have h0 : h.S[0]? = some h.one := by
    unfold HV.one
    cases hS : h.S with
    | nil => exact absurd hS hn
    | cons a l => simp
  obtain ⟨b', o', e, k⟩ := RawEv.at_ (S := h.S) (A := some ⟨b, o, none⟩) (w := w) (fun _ => ⟨b, o, rfl, h3⟩) h0
  cases e
  simpa using k

theorem len_any (A : Option Addr) (n c : Nat) (w : World) :
    Calls Tryz.prog 150 #[.slice A n c] w fun e w' => e = .returned (.int .i64 (n : Int)) ∧ w' = w := by
  go_enter Tryz.func150, Tryz.ntmps150
  go_wp2
  go_ret
  exact ⟨rfl, rfl⟩

set_option maxRecDepth 100000 in
set_option maxHeartbeats 2000000 in
theorem less_any {B p : Nat} {T : TypeId} {A : Option Addr} {c : Nat} {hs : List HV} {w : World} (h : HeadsAt B p T A c hs w) (i j : Nat) (hi : i < hs.length) (hj : j < hs.length) (ni : (HV.at_ hs i).S ≠ []) (nj : (HV.at_ hs j).S ≠ []) :
    Calls Tryz.prog 151 #[.slice A hs.length c, .int .i64 (i : Int), .int .i64 (j : Int)] w fun e w' => e = .returned (.bool (lessB (HV.at_ hs i).one (HV.at_ hs j).one)) ∧ Below w.heap.size w w' := by
  obtain ⟨g, rfl, hg, hgp, hc⟩ := h.get (by omega)
  have ki := hc i hi
  have kj := hc j hj
  obtain ⟨b1, o1, hb1, hA1, f1⟩ := (h.lie _ (at_mem hi)).first ni
  obtain ⟨b2, o2, hb2, hA2, f2⟩ := (h.lie _ (at_mem hj)).first nj
  have z1 : 0 < (HV.at_ hs i).S.length := List.length_pos_iff.2 ni
  have z2 : 0 < (HV.at_ hs j).S.length := List.length_pos_iff.2 nj
  unfold HV.val at ki kj
  rw [hA1] at ki
  rw [hA2] at kj
  generalize (HV.at_ hs i).one = a at *
  generalize (HV.at_ hs j).one = b at *
  generalize (HV.at_ hs i).S.length = n1 at *
  generalize (HV.at_ hs j).S.length = n2 at *
  generalize (HV.at_ hs i).c = c1 at *
  generalize (HV.at_ hs j).c = c2 at *
  generalize hs.length = n at *
  clear hc ni nj hA1 hA2 h
  obtain ⟨r, hr⟩ : ∃ r, r = cmpS a.e.time a.e.writer b.e.time b.e.writer := ⟨_, rfl⟩
  have HF := Lib.hid (And.intro (And.intro ki kj) (And.intro f1 f2))
  have HC : ∀ (W : World), Below w.heap.size w W → Calls Tryz.prog 153 #[.agg #[.int .i64 a.e.writer, .int .u64 (a.e.seq : Int), .int .u64 (a.e.time : Int), .int .u8 (a.e.kind : Int), .string a.e.key, .slice a.A a.n a.c, .float .f64 a.e.num, .int .i64 a.e.node], .agg #[.int .i64 b.e.writer, .int .u64 (b.e.seq : Int), .int .u64 (b.e.time : Int), .int .u8 (b.e.kind : Int), .string b.e.key, .slice b.A b.n b.c, .float .f64 b.e.num, .int .i64 b.e.node]] W fun e w' => e = .returned (.int .i64 r) ∧ Hid (Below w.heap.size w w') ∧ (w'.cell? ⟨g, i, none⟩ = some (.slice (some ⟨b1, o1, none⟩) n1 c1) ∧ w'.cell? ⟨g, j, none⟩ = some (.slice (some ⟨b2, o2, none⟩) n2 c2)) ∧ (w'.cell? ⟨b1, o1, none⟩ = some (.int .i64 a.e.writer) ∧ w'.cell? ⟨b1, o1 + 1, none⟩ = some (.int .u64 (a.e.seq : Int)) ∧ w'.cell? ⟨b1, o1 + 2, none⟩ = some (.int .u64 (a.e.time : Int)) ∧ w'.cell? ⟨b1, o1 + 3, none⟩ = some (.int .u8 (a.e.kind : Int)) ∧ w'.cell? ⟨b1, o1 + 4, none⟩ = some (.string a.e.key) ∧ w'.cell? ⟨b1, o1 + 5, none⟩ = some (.slice a.A a.n a.c) ∧ w'.cell? ⟨b1, o1 + 6, none⟩ = some (.float .f64 a.e.num) ∧ w'.cell? ⟨b1, o1 + 7, none⟩ = some (.int .i64 a.e.node)) ∧ w'.cell? ⟨b2, o2, none⟩ = some (.int .i64 b.e.writer) ∧ w'.cell? ⟨b2, o2 + 1, none⟩ = some (.int .u64 (b.e.seq : Int)) ∧ w'.cell? ⟨b2, o2 + 2, none⟩ = some (.int .u64 (b.e.time : Int)) ∧ w'.cell? ⟨b2, o2 + 3, none⟩ = some (.int .u8 (b.e.kind : Int)) ∧ w'.cell? ⟨b2, o2 + 4, none⟩ = some (.string b.e.key) ∧ w'.cell? ⟨b2, o2 + 5, none⟩ = some (.slice b.A b.n b.c) ∧ w'.cell? ⟨b2, o2 + 6, none⟩ = some (.float .f64 b.e.num) ∧ w'.cell? ⟨b2, o2 + 7, none⟩ = some (.int .i64 b.e.node) := fun W hW => by
    rw [hr]
    refine (ordCmp_any a b W).mono ?_
    rintro e w' ⟨rfl, hb⟩
    have hb2 := hW.trans (hb.mono hW.size)
    have old : ∀ {q : Addr} {v : Value}, w.cell? q = some v → w'.cell? q = some v := fun {q v} hq => by rw [hb2.cell (World.block_lt_of_cell? _ _ hq)]; exact hq
    obtain ⟨⟨m1, m2⟩, ⟨e0, e1, e2, e3, e4, e5, e6, e7⟩, d0, d1, d2, d3, d4, d5, d6, d7⟩ := HF.out
    exact ⟨rfl, Lib.hid hb2, ⟨old m1, old m2⟩, ⟨old e0, old e1, old e2, old e3, old e4, old e5, old e6, old e7⟩, old d0, old d1, old d2, old d3, old d4, old d5, old d6, old d7⟩
  have hll : lessB a b = decide (r < 0) := by rw [hr]; rfl
  rw [hll]
  clear hll
  have HR := Lib.hid hr
  clear hr
  obtain ⟨e0, e1, e2, e3, e4, e5, e6, e7⟩ := f1
  obtain ⟨d0, d1, d2, d3, d4, d5, d6, d7⟩ := f2
  have zi : (i : Int) < (n : Int) := by omega
  have zj : (j : Int) < (n : Int) := by omega
  have zi0 : (0 : Int) ≤ (i : Int) := by omega
  have zj0 : (0 : Int) ≤ (j : Int) := by omega
  have y1 : (0 : Int) < (n1 : Int) := by omega
  have y2 : (0 : Int) < (n2 : Int) := by omega
  go_enter Tryz.func151, Tryz.ntmps151
  go_wp2_with fail
  go_region_held3 (fun w' => (w'.cell? ⟨g, i, none⟩ = some (.slice (some ⟨b1, o1, none⟩) n1 c1) ∧ w'.cell? ⟨g, j, none⟩ = some (.slice (some ⟨b2, o2, none⟩) n2 c2)) ∧ (w'.cell? ⟨b1, o1, none⟩ = some (.int .i64 a.e.writer) ∧ w'.cell? ⟨b1, o1 + 1, none⟩ = some (.int .u64 (a.e.seq : Int)) ∧ w'.cell? ⟨b1, o1 + 2, none⟩ = some (.int .u64 (a.e.time : Int)) ∧ w'.cell? ⟨b1, o1 + 3, none⟩ = some (.int .u8 (a.e.kind : Int)) ∧ w'.cell? ⟨b1, o1 + 4, none⟩ = some (.string a.e.key) ∧ w'.cell? ⟨b1, o1 + 5, none⟩ = some (.slice a.A a.n a.c) ∧ w'.cell? ⟨b1, o1 + 6, none⟩ = some (.float .f64 a.e.num) ∧ w'.cell? ⟨b1, o1 + 7, none⟩ = some (.int .i64 a.e.node)) ∧ w'.cell? ⟨b2, o2, none⟩ = some (.int .i64 b.e.writer) ∧ w'.cell? ⟨b2, o2 + 1, none⟩ = some (.int .u64 (b.e.seq : Int)) ∧ w'.cell? ⟨b2, o2 + 2, none⟩ = some (.int .u64 (b.e.time : Int)) ∧ w'.cell? ⟨b2, o2 + 3, none⟩ = some (.int .u8 (b.e.kind : Int)) ∧ w'.cell? ⟨b2, o2 + 4, none⟩ = some (.string b.e.key) ∧ w'.cell? ⟨b2, o2 + 5, none⟩ = some (.slice b.A b.n b.c) ∧ w'.cell? ⟨b2, o2 + 6, none⟩ = some (.float .f64 b.e.num) ∧ w'.cell? ⟨b2, o2 + 7, none⟩ = some (.int .i64 b.e.node)) (go_keep)
    (first
      | (go_at_call 153
         refine (HC _ ?h1).mono ?_
         case h1 => first | exact Below.refl _ _ | exact (Below.refl _ _).drew | exact Hid.out (by assumption)
         rintro e w' ⟨rfl, hb, k1, k2, k3⟩))
  all_goals go_wp2
  all_goals go_ret
  all_goals exact ⟨rfl, Hid.out (by assumption)⟩
end Go.Proofs.YtmogoopkjkdkgaaGreat.Ord
namespace Go.Proofs.YtmogoopkjkdkgaaGreat.Ord
open Go Go.RowKit Go.Proofs.YtmogoopkjkdkgaaGreat.Words Go.Proofs.YtmogoopkjkdkgaaGreat.Enc Go.Proofs.YtmogoopkjkdkgaaGreat.Evt Go.Proofs.YtmogoopkjkdkgaaGreat.Seg
set_option linter.unusedVariables false
set_option linter.unusedSimpArgs false

theorem HeadsAt.set {B p g : Nat} {T : TypeId} {c : Nat} {hs : List HV} {w : World} (h : HeadsAt B p T (some ⟨g, 0, none⟩) c hs w) (k : Nat) (hk : k < hs.length) (x : HV) (hx : Lies B w x) :
    HeadsAt B p T (some ⟨g, 0, none⟩) c (hs.set k x) (w.setCell ⟨g, k, none⟩ x.val) ∧ Below B w (w.setCell ⟨g, k, none⟩ x.val) ∧ (w.setCell ⟨g, k, none⟩ x.val).heap.size = w.heap.size := by
  obtain ⟨hb, ho, ha, hlo, hl⟩ := h
  have hgp : g ≠ p := ha _ rfl
  rcases ho.2 with ⟨hv, h0⟩ | ⟨g', cap, cur, hv, hbg, hh, h1, h2, h3, h4⟩
  · cases hv
  · have hbg' : B ≤ g := by injection hv with e1 _ _; injection e1 with e1; injection e1 with e1; omega
    obtain ⟨rfl, rfl⟩ : g' = g ∧ cap = c := by injection hv with e1 _ e3; injection e1 with e1; injection e1 with e1; exact ⟨e1.symm, e3.symm⟩
    have hB : Below B w (w.setCell ⟨g', k, none⟩ x.val) := (Below.refl B w).setCell hbg' _
    have hs : (w.setCell ⟨g', k, none⟩ x.val).heap.size = w.heap.size := by simp
    refine ⟨⟨?_, ⟨by simp, .inr ⟨g', cap, cur.setIfInBounds k x.val, by simp, hbg, heapSame hh, by simpa using h1, h2, by simpa using h3, ?_⟩⟩, ha, hlo, fun y hy => ?_⟩, hB, hs⟩
    · rw [heapOther hgp.symm]
      simpa using hb
    · rw [Array.toList_setIfInBounds, List.length_set, List.take_set, h4, List.map_set]
    · rcases List.mem_or_eq_of_mem_set hy with hy | rfl
      · exact (hl y hy).below hB
      · exact hx.below hB
theorem HeadsAt.swap {B p g : Nat} {T : TypeId} {c : Nat} {hs : List HV} {w : World} (h : HeadsAt B p T (some ⟨g, 0, none⟩) c hs w) (i j : Nat) (hi : i < hs.length) (hj : j < hs.length) :
    HeadsAt B p T (some ⟨g, 0, none⟩) c (swL hs noHV i j) ((w.setCell ⟨g, i, none⟩ (HV.at_ hs j).val).setCell ⟨g, j, none⟩ (HV.at_ hs i).val) ∧ Below B w ((w.setCell ⟨g, i, none⟩ (HV.at_ hs j).val).setCell ⟨g, j, none⟩ (HV.at_ hs i).val) ∧ ((w.setCell ⟨g, i, none⟩ (HV.at_ hs j).val).setCell ⟨g, j, none⟩ (HV.at_ hs i).val).heap.size = w.heap.size := by
  obtain ⟨h1, h2, h3⟩ := h.set i hi _ (h.lie _ (at_mem hj))
  obtain ⟨k1, k2, k3⟩ := h1.set j (by simpa using hj) (HV.at_ hs i) ((h.lie _ (at_mem hi)).below h2)
  exact ⟨k1, h2.trans k2, k3.trans h3⟩
theorem HeadsAt.drew {B p : Nat} {T : TypeId} {A : Option Addr} {c : Nat} {hs : List HV} {w : World} (h : HeadsAt B p T A c hs w) : HeadsAt B p T A c hs w.drew := h.below (Below.refl _ _).drew
theorem HeadsAt.frz {B p g : Nat} {T : TypeId} {c : Nat} {hs : List HV} {w : World} (h : HeadsAt B p T (some ⟨g, 0, none⟩) c hs w) (k : Nat) : w.frozen? ⟨g, k, none⟩ = false := by
  rcases h.own.2 with ⟨hv, h0⟩ | ⟨g', cap, cur, hv, hbg, hh, _⟩
  · cases hv
  · have : g' = g := by injection hv with e1 _ _; injection e1 with e1; injection e1 with e1; exact e1.symm
    subst this
    exact frozen_row0 hh

set_option maxRecDepth 100000 in
set_option maxHeartbeats 4000000 in
theorem swap_any {B p : Nat} {T : TypeId} {A : Option Addr} {c : Nat} {hs : List HV} {w : World} (h : HeadsAt B p T A c hs w) (i j : Nat) (hi : i < hs.length) (hj : j < hs.length) :
    Calls Tryz.prog 152 #[.slice A hs.length c, .int .i64 (i : Int), .int .i64 (j : Int)] w fun e w' => e = .returned (.tuple #[]) ∧ HeadsAt B p T A c (swL hs noHV i j) w' ∧ Below B w w' ∧ Beside (mine p A) w w' := by
  obtain ⟨g, rfl, hg, hgp, hc⟩ := h.get (by omega)
  obtain ⟨s1, s2, s3⟩ := h.swap i j hi hj
  have s1 := s1.drew
  have s2 := s2.drew
  have s3 : Beside (mine p (some ⟨g, 0, none⟩)) w ((w.setCell ⟨g, i, none⟩ (HV.at_ hs j).val).setCell ⟨g, j, none⟩ (HV.at_ hs i).val).drew := (((Beside.refl _ w).setCell (by simp [mine]) _).setCell (by simp [mine]) _).drew
  obtain ⟨V, hV⟩ : ∃ V, (w.setCell ⟨g, i, none⟩ (HV.at_ hs j).val).cell? ⟨g, j, none⟩ = some V := by
    obtain ⟨q1, _, _⟩ := h.set i hi _ (h.lie _ (at_mem hj))
    obtain ⟨g', e, _, _, q⟩ := q1.get (by simp; omega)
    cases e
    exact ⟨_, q j (by simpa using hj)⟩
  obtain ⟨V2, hV2⟩ : ∃ V, (w.setCell ⟨g, j, none⟩ (HV.at_ hs i).val).cell? ⟨g, i, none⟩ = some V := by
    obtain ⟨q1, _, _⟩ := h.set j hj _ (h.lie _ (at_mem hi))
    obtain ⟨g', e, _, _, q⟩ := q1.get (by simp; omega)
    cases e
    exact ⟨_, q i (by simpa using hi)⟩
  have ki := hc i hi
  have kj := hc j hj
  have fi := h.frz i
  have fj := h.frz j
  have HS := Lib.hid (And.intro s1 (And.intro s2 s3))
  clear s1 s2 s3 hc h
  obtain ⟨xa, xn, xc, hx⟩ : ∃ xa xn xc, (HV.at_ hs i).val = .slice xa xn xc := ⟨_, _, _, rfl⟩
  obtain ⟨ya, yn, yc, hy⟩ : ∃ ya yn yc, (HV.at_ hs j).val = .slice ya yn yc := ⟨_, _, _, rfl⟩
  rw [hx] at ki HS hV2
  rw [hy] at kj HS hV
  clear hx hy
  generalize swL hs noHV i j = hs' at *
  generalize hs.length = n at *
  have zi : (i : Int) < (n : Int) := by omega
  have zj : (j : Int) < (n : Int) := by omega
  have zi0 : (0 : Int) ≤ (i : Int) := by omega
  have zj0 : (0 : Int) ≤ (j : Int) := by omega
  go_enter Tryz.func152, Tryz.ntmps152
  go_wp2_with fail
  go_region
  all_goals go_wp2
  all_goals go_end0
  all_goals exact ⟨rfl, HS.out.1, HS.out.2.1, HS.out.2.2⟩
end Go.Proofs.YtmogoopkjkdkgaaGreat.Ord
namespace Go.Proofs.YtmogoopkjkdkgaaGreat.Ord
open Go Go.RowKit Go.Proofs.YtmogoopkjkdkgaaGreat.Words Go.Proofs.YtmogoopkjkdkgaaGreat.Enc Go.Proofs.YtmogoopkjkdkgaaGreat.Evt Go.Proofs.YtmogoopkjkdkgaaGreat.Seg
set_option linter.unusedVariables false
set_option linter.unusedSimpArgs false

theorem infoL : (Tryz.prog.info? 24).map (fun i => (i.zero, i.size, i.bytes)) = some (some (.slice none 0 0), 1, 24) := by kernel_rfl
@[go_sem] theorem as_list (v : Value) (w : World) : (Instr.typeAssert (.iface 24 v) 20 24 false).run Tryz.prog w = .ok v w := by kernel_rfl
theorem HeadsAt.fin {B p : Nat} {T : TypeId} {A : Option Addr} {c : Nat} {hs : List HV} {w W W2 : World} (h : HeadsAt B p T A c hs w) (hB : B ≤ w.heap.size) (x : HV) (hx : Lies B w x) (hW : Below w.heap.size w W) {g' cap' : Nat}
    (hown : W2.ownsRow B 24 1 (.slice (some ⟨g', 0, none⟩) (hs.length + 1) cap') (hs.length + 1) (hs.map HV.val ++ [x.val])) (hg : W.grownBy W2 (Value.slice A hs.length c).ownBlock) (hat : (Value.slice A hs.length c).ownBlock = some g' ∨ w.heap.size ≤ g') :
    W2.heap[p]? = some (.cells #[.slice A hs.length c] T (0, 0)) ∧ HeadsAt B p T (some ⟨g', 0, none⟩) cap' (hs ++ [x]) (W2.setCell ⟨p, 0, none⟩ (.slice (some ⟨g', 0, none⟩) (hs.length + 1) cap')) ∧ Below B w (W2.setCell ⟨p, 0, none⟩ (.slice (some ⟨g', 0, none⟩) (hs.length + 1) cap')) := by
  have hp := (Array.getElem?_eq_some_iff.1 h.box).1
  have hne : (Value.slice A hs.length c).ownBlock ≠ some p := by
    cases A with
    | none => simp [Value.ownBlock]
    | some a => simpa [Value.ownBlock] using h.apart a rfl
  have hWp := (hW.block p hp).trans h.box
  have h2 : W2.heap[p]? = some (.cells #[.slice A hs.length c] T (0, 0)) := (hg.block p (by have := hW.size; omega) (fun e => hne e.symm)).trans hWp
  have hgp : g' ≠ p := by
    rcases hat with h | h
    · intro e; exact hne (by rw [h, e])
    · omega
  have hlt : ∀ k, (Value.slice A hs.length c).ownBlock = some k → B ≤ k := fun k hk => (h.own.lt k hk).1
  have hb2 : Below B w W2 := (hW.mono hB).trans ((Below.refl B W).grown hg (by have := hW.size; omega) hlt)
  have hb3 : Below B w (W2.setCell ⟨p, 0, none⟩ (.slice (some ⟨g', 0, none⟩) (hs.length + 1) cap')) := hb2.setCell h.low _
  refine ⟨h2, ⟨?_, ?_, fun a ha => by cases ha; exact hgp, h.low, fun y hy => ?_⟩, hb3⟩
  · have := heapSame (i := 0) (v := .slice (some ⟨g', 0, none⟩) (hs.length + 1) cap') h2
    rw [this]
    simp
  · rcases hown.2 with ⟨hv, _⟩ | ⟨g, cap, cur, hv, hbg, hh, r⟩
    · cases hv
    · have e1 : g' = g := by injection hv with e1 _ _; injection e1 with e1; injection e1
      subst e1
      simp only [List.length_append, List.length_cons, List.length_nil, List.map_append, List.map_cons, List.map_nil, Nat.zero_add]
      exact ⟨hown.1, .inr ⟨g', cap, cur, hv, hbg, (heapOther hgp).trans hh, r⟩⟩
  · rcases List.mem_append.1 hy with hy | hy
    · exact (h.lie y hy).below hb3
    · rw [List.mem_singleton.1 hy]; exact hx.below hb3

set_option maxRecDepth 100000 in
set_option maxHeartbeats 4000000 in
theorem push_any {B p : Nat} {T : TypeId} {A : Option Addr} {c : Nat} {hs : List HV} {w : World} (h : HeadsAt B p T A c hs w) (hB : B ≤ w.heap.size) (x : HV) (hx : Lies B w x) (hn : hs.length ≤ 1000000000) :
    Calls Tryz.prog 155 #[.pointer (some ⟨p, 0, none⟩), .iface 24 x.val] w fun e w' => e = .returned (.tuple #[]) ∧ (∃ A' c', HeadsAt B p T A' c' (hs ++ [x]) w') ∧ Below B w w' := by
  obtain ⟨i, hi, hz, hsz, hby⟩ := info_parts infoL
  have hc := h.cell
  have hfz : w.frozen? ⟨p, 0, none⟩ = false := frozen_row0 h.box
  have ROW : ∀ W, Below w.heap.size w W → W.ownsRow B 24 1 (.slice A hs.length c) hs.length (hs.map HV.val) := fun W hW => own_below8 h.own hW (Nat.le_refl _)
  have FIN : ∀ (W W2 : World) (g' cap' : Nat), Below w.heap.size w W → W2.ownsRow B 24 1 (.slice (some ⟨g', 0, none⟩) (hs.length + 1) cap') (hs.length + 1) (hs.map HV.val ++ [x.val]) → W.grownBy W2 (Value.slice A hs.length c).ownBlock → ((Value.slice A hs.length c).ownBlock = some g' ∨ w.heap.size ≤ g') →
      W2.cell? ⟨p, 0, none⟩ = some (.slice A hs.length c) ∧ W2.frozen? ⟨p, 0, none⟩ = false ∧ Hid ((∃ A' c', HeadsAt B p T A' c' (hs ++ [x]) (W2.setCell ⟨p, 0, none⟩ (.slice (some ⟨g', 0, none⟩) (hs.length + 1) cap'))) ∧ Below B w (W2.setCell ⟨p, 0, none⟩ (.slice (some ⟨g', 0, none⟩) (hs.length + 1) cap'))) := fun W W2 g' cap' hW ho hg hat => by
    obtain ⟨q1, q2, q3⟩ := h.fin hB x hx hW ho hg hat
    exact ⟨by rw [cell_of_row W2 p _ _ _ _ q1]; rfl, frozen_row0 q1, Lib.hid ⟨⟨_, _, q2⟩, q3⟩⟩
  obtain ⟨xs, hxs⟩ : ∃ xs, xs = hs.map HV.val := ⟨_, rfl⟩
  rw [← hxs] at ROW FIN
  obtain ⟨xa, xn, xc, hxv⟩ : ∃ xa xn xc, x.val = .slice xa xn xc := ⟨_, _, _, rfl⟩
  rw [hxv] at FIN ⊢
  have hc2 : (w.alloc (.cells #[.slice xa xn xc] 24)).cell? ⟨p, 0, none⟩ = some (.slice A hs.length c) := by
    rw [((Below.refl w.heap.size w).alloc (Nat.le_refl _) _).cell (Array.getElem?_eq_some_iff.1 h.box).1]; exact hc
  have hmx : hs.length + 1 ≤ maxLen := by unfold maxLen; omega
  clear h hxs
  generalize hs ++ [x] = hs' at *
  generalize hs.length = n at *
  have hn2 : (n + 1) * 24 ≤ 140737488355328 := by omega
  go_enter Tryz.func155, Tryz.ntmps155
  go_wp2_with fail
  go_region_law
    (first
     | (refine step_append_lies _ rfl (.tmp 7) (.tmp 10) 113 rfl B 24 i (.slice none 0 0) 1 24 Tryz.underlying113 hi hz hsz hby rfl (by decide) (.slice A n c) n xs (by simp [Act.eval, Act.put]) (ROW _ (by first | exact (Below.refl _ _).alloc (Nat.le_refl _) _ | exact (Below.refl _ _).drew.alloc (Nat.le_refl _) _ | exact ((Below.refl _ _).alloc (Nat.le_refl _) _).drew)) ⟨w.heap.size, 0, none⟩ 1 1 (#[.slice xa xn xc] : Array Value).toList (by simp [Act.eval, Act.put]) rfl (World.news_of_block (by first | exact heap_alloc_new _ _ | exact heap_alloc_new w _)) (by simp [Value.oneCell']) (by decide) hmx hn2 (by simp; omega) _ rfl ?_
        intro g' cap' w10 hown10 hgrow hat hlt10
        obtain ⟨c5x, y5x, FN⟩ := FIN _ w10 g' cap' (by first | exact (Below.refl _ _).alloc (Nat.le_refl _) _ | exact (Below.refl _ _).drew.alloc (Nat.le_refl _) _ | exact ((Below.refl _ _).alloc (Nat.le_refl _) _).drew) hown10 hgrow (hat.imp_right fun e => by rw [e]; simp)
        clear hown10 hgrow hat hlt10))
  all_goals go_wp2
  all_goals go_end0
  all_goals exact ⟨rfl, FN.out⟩
end Go.Proofs.YtmogoopkjkdkgaaGreat.Ord
namespace Go.Proofs.YtmogoopkjkdkgaaGreat.Ord
open Go Go.RowKit Go.Proofs.YtmogoopkjkdkgaaGreat.Words Go.Proofs.YtmogoopkjkdkgaaGreat.Enc Go.Proofs.YtmogoopkjkdkgaaGreat.Evt Go.Proofs.YtmogoopkjkdkgaaGreat.Seg
set_option linter.unusedVariables false
set_option linter.unusedSimpArgs false

theorem append_zero (W : World) (ty : TypeId) (a : Addr) (n c : Nat) (S : Option Addr) (k : Nat) (hnc : n ≤ c) : (Builtin.append_ #[113, 113] ty #[.slice (some a) n c, .slice S 0 k]).run Tryz.prog W = .ok (.slice (some a) n c) W := by
  have hi : (Tryz.prog.info? 24).isSome = true := by kernel_rfl
  obtain ⟨i, hi⟩ := Option.isSome_iff_exists.1 hi
  cases S with
  | none => simp [Builtin.append_, run_underlying Tryz.underlying113, sizeOf, typeInfo, hi, Builtin.lenOf, Builtin.firstCells, hnc, storeCells]
  | some s => simp [Builtin.append_, run_underlying Tryz.underlying113, sizeOf, typeInfo, hi, Builtin.lenOf, Builtin.firstCells, hnc, storeCells, loadCells, loadCellsFrom]
theorem zeroL_run (w : World) : (zeroValue 24).run Tryz.prog w = .ok (.slice none 0 0) w := by kernel_rfl
theorem clear_one (w : World) (ty : TypeId) (b o c : Nat) (hc : (w.cell? ⟨b, o, none⟩).isSome = true) (hf : w.frozen? ⟨b, o, none⟩ = false) :
    (Builtin.clear_ #[113] ty #[.slice (some ⟨b, o, none⟩) 1 c]).run Tryz.prog w = .ok (.tuple #[]) (w.setCell ⟨b, o, none⟩ (.slice none 0 0)) := by
  have hst := run_storeCells_cells (P := Tryz.prog) b o [Value.slice none 0 0] 0 w (by intro j hj; simp at hj; subst hj; simpa using hc) (by intro j hj; simp at hj; subst hj; simpa using hf) (by simp [Value.oneCell'])
  simp only [Nat.add_zero] at hst
  have hz := zeroL_run w
  simp [Builtin.clear_, run_underlying Tryz.underlying113, hz, Builtin.zeroCells, hst]
  rw [show List.map (fun i => (Value.slice none 0 0).cells[i % (Value.slice none 0 0).cells.size]!) (List.range (Value.slice none 0 0).cells.size) = [Value.slice none 0 0] from rfl, hst]
  rfl

set_option maxRecDepth 100000 in
set_option maxHeartbeats 4000000 in
theorem deleteL (g n c : Nat) (w : World) (hc : (w.cell? ⟨g, n, none⟩).isSome = true) (hf : w.frozen? ⟨g, n, none⟩ = false) (hnc : n + 1 ≤ c) (hn : n ≤ 2000000000) :
    Calls Tryz.prog 156 #[.slice (some ⟨g, 0, none⟩) (n + 1) c, .int .i64 (n : Int), .int .i64 ((n : Int) + 1)] w fun e w' => e = .returned (.slice (some ⟨g, 0, none⟩) n c) ∧ w' = w.drew.setCell ⟨g, n, none⟩ (.slice none 0 0) := by
  have happ := fun W ty S k => append_zero W ty ⟨g, 0, none⟩ n c S k (by omega)
  have k5 : (0 : Int) ≤ (n : Int) + 1 := by omega
  have k6 : ((n : Int) + 1).toNat = n + 1 := by omega
  have hcl := fun ty k => clear_one w.drew ty g n k hc hf
  have h1 : (((n + 1 : Nat) : Int)) = (n : Int) + 1 := by omega
  have hne : ((n : Int) == (n : Int) + 1) = false := by rw [beq_eq_false_iff_ne]; omega
  have k1 : n ≤ n + 1 := by omega
  have k2 : n ≤ c := by omega
  have k3 : ¬ c = n := by omega
  have k4 : n + 1 - n = 1 := by omega
  have hst : ∀ (W : World) (a : Addr), (storeCells a []).run Tryz.prog W = .ok () W := fun _ _ => rfl
  by_cases hcn : c = n + 1
  · subst hcn
    go_enter Tryz.func156, Tryz.ntmps156
    go_wp2_with fail
    go_region
    all_goals go_wp2
    all_goals go_ret
    all_goals exact ⟨rfl, rfl⟩
  · go_enter Tryz.func156, Tryz.ntmps156
    go_wp2_with fail
    go_region
    all_goals go_wp2
    all_goals go_ret
    all_goals exact ⟨rfl, rfl⟩

theorem HeadsAt.cut {B p g : Nat} {T : TypeId} {c n : Nat} {hs : List HV} {w : World} (h : HeadsAt B p T (some ⟨g, 0, none⟩) c hs w) (hn : hs.length = n + 1) :
    HeadsAt B p T (some ⟨g, 0, none⟩) c (hs.take n) ((w.drew.setCell ⟨g, n, none⟩ (.slice none 0 0)).setCell ⟨p, 0, none⟩ (.slice (some ⟨g, 0, none⟩) n c)) ∧
    Below B w ((w.drew.setCell ⟨g, n, none⟩ (.slice none 0 0)).setCell ⟨p, 0, none⟩ (.slice (some ⟨g, 0, none⟩) n c)) := by
  have hgp := h.apart _ rfl
  obtain ⟨g', hv, hbg, _⟩ := h.get (by omega)
  injection hv with e1
  injection e1 with e1
  subst e1
  have hB : Below B w ((w.drew.setCell ⟨g, n, none⟩ (.slice none 0 0)).setCell ⟨p, 0, none⟩ (.slice (some ⟨g, 0, none⟩) n c)) := ((Below.refl B w).drew.setCell hbg _).setCell h.low _
  refine ⟨?_, hB⟩
  have hl : (hs.take n).length = n := by rw [List.length_take]; omega
  rcases h.own.2 with ⟨hv, _⟩ | ⟨g', cap, cur, hv, hbg', hh, h1, h2, h3, h4⟩
  · cases hv
  · obtain ⟨rfl, rfl⟩ : g' = g ∧ cap = c := by injection hv with e1 _ e3; injection e1 with e1; injection e1 with e1; exact ⟨e1.symm, e3.symm⟩
    have hx := h.box
    refine ⟨?_, ?_, fun a ha => by cases ha; exact hgp, h.low, fun y hy => (h.lie y (List.mem_of_mem_take hy)).below hB⟩
    · rw [hl]
      have : (w.drew.setCell ⟨g', n, none⟩ (.slice none 0 0)).heap[p]? = some (.cells #[.slice (some ⟨g', 0, none⟩) hs.length cap] T (0, 0)) := (heapOther (Ne.symm hgp)).trans hx
      rw [heapSame this]
      simp
    · rw [hl]
      have hq : ((w.drew.setCell ⟨g', n, none⟩ (.slice none 0 0)).setCell ⟨p, 0, none⟩ (.slice (some ⟨g', 0, none⟩) n cap)).heap[g']? = some (.cells (cur.setIfInBounds n (.slice none 0 0)) 24 (0, 0)) := by
        rw [heapOther hgp]
        exact heapSame (w := w.drew) hh
      refine ⟨by simp; omega, .inr ⟨g', cap, _, rfl, hbg, hq, by omega, h2, by simpa using h3, ?_⟩⟩
      rw [Array.toList_setIfInBounds, Nat.mul_one, List.take_set, List.map_take, ← h4, List.take_take, hn, Nat.mul_one, Nat.min_eq_left (by omega)]
      exact List.set_eq_of_length_le (by rw [List.length_take]; omega)

set_option maxRecDepth 100000 in
set_option maxHeartbeats 4000000 in
theorem pop_any {B p : Nat} {T : TypeId} {A : Option Addr} {c n : Nat} {hs : List HV} {w : World} (h : HeadsAt B p T A c hs w) (hn : hs.length = n + 1) (hm : n ≤ 1000000000) :
    Calls Tryz.prog 154 #[.pointer (some ⟨p, 0, none⟩)] w fun e w' => (∃ v, e = .returned v) ∧ HeadsAt B p T A c (hs.take n) w' ∧ Below B w w' ∧ Beside (mine p A) w w' := by
  obtain ⟨g, rfl, hg, hgp, hc⟩ := h.get (by omega)
  have hbox := h.cell
  have hfz : w.frozen? ⟨p, 0, none⟩ = false := frozen_row0 h.box
  have hcn := hc n (by omega)
  obtain ⟨xa, xn, xc, hx⟩ : ∃ xa xn xc, (HV.at_ hs n).val = .slice xa xn xc := ⟨_, _, _, rfl⟩
  rw [hx] at hcn
  have hnc := (own_cap8 h.own).1
  obtain ⟨q1, q2⟩ := h.cut hn
  have q3 : Beside (mine p (some ⟨g, 0, none⟩)) w ((w.drew.setCell ⟨g, n, none⟩ (.slice none 0 0)).setCell ⟨p, 0, none⟩ (.slice (some ⟨g, 0, none⟩) n c)) := ((Beside.refl _ w).drew.setCell (by simp [mine]) _).setCell (by simp [mine]) _
  have hD := deleteL g n c w (by rw [hcn]; rfl) (h.frz n) (by omega) (by omega)
  have hp2 : (w.drew.setCell ⟨g, n, none⟩ (.slice none 0 0)).cell? ⟨p, 0, none⟩ = some (.slice (some ⟨g, 0, none⟩) hs.length c) := by
    rw [cell_of_row (w.drew.setCell ⟨g, n, none⟩ (.slice none 0 0)) p 0 _ _ _ ((heapOther (w := w.drew) (Ne.symm hgp)).trans h.box)]; rfl
  have hf2 : (w.drew.setCell ⟨g, n, none⟩ (.slice none 0 0)).frozen? ⟨p, 0, none⟩ = false := frozen_row0 ((heapOther (w := w.drew) (Ne.symm hgp)).trans h.box)
  rw [hn] at hbox hp2
  have HQ := Lib.hid (And.intro q1 (And.intro q2 q3))
  clear q1 q2 q3 hc hx hn h
  generalize hs.take n = hs' at *
  have HD := Lib.hid hD
  clear hD
  have k1 : (n : Int) < (n : Int) + 1 := by omega
  have k2 : (n : Int) < ((n + 1 : Nat) : Int) := by omega
  have k0 : (0 : Int) ≤ (n : Int) := by omega
  have k3 : ((n + 1 : Nat) : Int) - 1 = (n : Int) := by omega
  go_enter Tryz.func154, Tryz.ntmps154
  go_wp2_with (first
    | (go_at_call 156
       refine HD.out.mono ?_
       rintro e w' ⟨rfl, rfl⟩))
  all_goals go_ret
  all_goals exact ⟨⟨_, rfl⟩, HQ.out.1, HQ.out.2.1, HQ.out.2.2⟩
end Go.Proofs.YtmogoopkjkdkgaaGreat.Ord
namespace Go.Proofs.YtmogoopkjkdkgaaGreat.Ord
open Go Go.RowKit Go.Proofs.YtmogoopkjkdkgaaGreat.Words Go.Proofs.YtmogoopkjkdkgaaGreat.Enc Go.Proofs.YtmogoopkjkdkgaaGreat.Evt Go.Proofs.YtmogoopkjkdkgaaGreat.Seg
set_option linter.unusedVariables false
set_option linter.unusedSimpArgs false

/-- A call through the heap's interface. -/
theorem less_at {B p : Nat} {T : TypeId} {A : Option Addr} {c : Nat} {hs : List HV} {w : World} (h : HeadsAt B p T A c hs w) (hne : ∀ x ∈ hs, x.S ≠ []) (i j : Nat) (hi : i < hs.length) (hj : j < hs.length) :
    Calls Tryz.prog 151 #[.slice A hs.length c, .int .i64 (i : Int), .int .i64 (j : Int)] w fun e w' => e = .returned (.bool (lessB (HV.at_ hs i).one (HV.at_ hs j).one)) ∧ HeadsAt B p T A c hs w' ∧ Below w.heap.size w w' := by
  refine (less_any h i j hi hj (hne _ (at_mem hi)) (hne _ (at_mem hj))).mono ?_
  rintro e w' ⟨rfl, hb⟩
  exact ⟨rfl, h.below hb, hb⟩

/-- What stands while a heap is mended. -/
structure Mends (B p : Nat) (T : TypeId) (A : Option Addr) (c n : Nat) (hs0 : List HV) (w0 : World) (hs : List HV) (w : World) : Prop where
  at_ : HeadsAt B p T A c hs w
  perm : hs.Perm hs0
  len : hs.length = n
  ne : ∀ x ∈ hs, x.S ≠ []
  below : Below B w0 w
  beside : Beside (mine p A) w0 w
theorem Mends.next {B p : Nat} {T : TypeId} {A : Option Addr} {c n : Nat} {hs0 hs : List HV} {w0 w w' : World} (h : Mends B p T A c n hs0 w0 hs w) (hat : HeadsAt B p T A c hs w') (hb : Below w.heap.size w w') : Mends B p T A c n hs0 w0 hs w' :=
  ⟨hat, h.perm, h.len, h.ne, h.below.trans (hb.mono (by have := h.at_.low; have := (Array.getElem?_eq_some_iff.1 h.at_.box).1; omega)), h.beside.below hb⟩
theorem Mends.swap {B p : Nat} {T : TypeId} {A : Option Addr} {c n : Nat} {hs0 hs : List HV} {w0 w w' : World} (h : Mends B p T A c n hs0 w0 hs w) {i j : Nat} (hi : i < n) (hj : j < n) (hat : HeadsAt B p T A c (swL hs noHV i j) w') (hb : Below B w w') (hbs : Beside (mine p A) w w') : Mends B p T A c n hs0 w0 (swL hs noHV i j) w' :=
  have hp := swL_perm hs noHV i j (by rw [h.len]; exact hi) (by rw [h.len]; exact hj)
  ⟨hat, hp.trans h.perm, by rw [swL_len, h.len], fun x hx => h.ne x (hp.mem_iff.1 hx), h.below.trans hb, h.beside.trans hbs fun x hx => .inl hx⟩
theorem at_swap {hs : List HV} {i j : Nat} (hi : i < hs.length) (hj : j < hs.length) : HV.at_ (swL hs noHV i j) = swp (HV.at_ hs) i j := funext fun k => swL_at hs noHV i j hi hj k

set_option maxRecDepth 100000 in
set_option maxHeartbeats 4000000 in
theorem up_any {B p : Nat} {T : TypeId} {A : Option Addr} {c n : Nat} {hs0 : List HV} {w0 : World} (hs1 : List HV) (w : World) (j0 : Nat) (hj0 : j0 < n) (hn : n ≤ 1000000001) (hM : Mends B p T A c n hs0 w0 hs1 w) (hU : UpInv hvLe (HV.at_ hs1) n j0) :
    Calls Tryz.prog 114 #[IH p, .int .i64 (j0 : Int)] w fun e w' => e = .returned (.tuple #[]) ∧ ∃ hs, Mends B p T A c n hs0 w0 hs w' ∧ Heap hs := by
  have STOP : ∀ hs W j, Mends B p T A c n hs0 w0 hs W → UpInv hvLe (HV.at_ hs) n j → (j = 0 ∨ hvLe (HV.at_ hs ((j - 1) / 2)) (HV.at_ hs j)) → ∃ hs, Mends B p T A c n hs0 w0 hs W ∧ Heap hs := fun hs W j hm hu hs' =>
    ⟨hs, hm, by rw [hm.len]; exact hu.stop hs', hm.ne⟩
  have HST := Lib.hid STOP
  have H0 := Lib.hid (And.intro hM hU)
  clear hM hU STOP
  go_enter Tryz.func114, Tryz.ntmps114
  go_wp2_with fail
  go_loopw [1] (fun jv W => ∃ (j : Nat) (hs : List HV), jv = .int .i64 (j : Int) ∧ j < n ∧ Hid (Mends B p T A c n hs0 w0 hs W ∧ UpInv hvLe (HV.at_ hs) n j)) (fun jv _ => (intOf jv).toNat)
  case atStart => exact ⟨j0, hs1, rfl, hj0, H0⟩
  case round =>
    obtain ⟨j, hs, rfl, hj, HM⟩ := hrel
    have hcell := HM.out.1.at_.cell
    rw [HM.out.1.len] at hcell
    have hml := m_less p _ wr hcell
    have hms := m_swap p _ wr hcell
    by_cases hz : j = 0
    · subst hz
      have HF := Lib.hid (HST.out hs wr 0 HM.out.1 HM.out.2 (.inl rfl))
      go_wp2
      go_end0
      exact ⟨rfl, HF.out⟩
    · obtain ⟨q, hq⟩ : ∃ q, q = (j - 1) / 2 := ⟨_, rfl⟩
      have hqj : q < j := by omega
      have hd : ((j : Int) - 1).tdiv 2 = (q : Int) := by rw [show (j : Int) - 1 = ((j - 1 : Nat) : Int) by omega, hq]; rfl
      have HQ := Lib.hid hq
      clear hq
      have hne : ((q : Int) == (j : Int)) = false := by rw [beq_eq_false_iff_ne]; omega
      have LL := less_at HM.out.1.at_ HM.out.1.ne j q (by rw [HM.out.1.len]; exact hj) (by rw [HM.out.1.len]; omega)
      rw [HM.out.1.len] at LL
      cases hl : lessB (HV.at_ hs j).one (HV.at_ hs q).one with
      | false =>
        rw [hl] at LL
        go_wp2_with (first
          | (go_at_call 151
             refine LL.mono ?_
             rintro e w1 ⟨rfl, h1, hb1⟩))
        go_end0
        exact ⟨rfl, HST.out hs w1 j (HM.out.1.next h1 hb1) HM.out.2 (.inr (by rw [← HQ.out]; exact lessB_no hl))⟩
      | true =>
        rw [hl] at LL
        have SW : ∀ W, HeadsAt B p T A c hs W → Calls Tryz.prog 152 #[.slice A n c, .int .i64 (q : Int), .int .i64 (j : Int)] W fun e w' => e = .returned (.tuple #[]) ∧ HeadsAt B p T A c (swL hs noHV q j) w' ∧ Below B W w' ∧ Beside (mine p A) W w' := fun W hW => by
          have := swap_any hW q j (by rw [HM.out.1.len]; omega) (by rw [HM.out.1.len]; exact hj)
          rwa [HM.out.1.len] at this
        go_wp2_with (first
          | (go_at_call 151
             refine LL.mono ?_
             rintro e w1 ⟨rfl, h1, hb1⟩
             have hc1 := h1.cell
             rw [HM.out.1.len] at hc1
             have hms1 := m_swap p _ w1 hc1)
          | (go_at_call 152
             refine (SW w1 h1).mono ?_
             rintro e w2 ⟨rfl, h2, hb2, hs2⟩))
        go_roundw
        case rel => exact ⟨q, _, rfl, by omega, Lib.hid ⟨(HM.out.1.next h1 hb1).swap (by omega) hj h2 hb2 hs2, by
          rw [at_swap (by rw [HM.out.1.len]; omega) (by rw [HM.out.1.len]; exact hj), HQ.out]
          exact HM.out.2.go hvLe_trans (by omega) hj (by rw [← HQ.out]; exact lessB_yes hl)⟩⟩
        case measure => simp [intOf]; omega
end Go.Proofs.YtmogoopkjkdkgaaGreat.Ord
