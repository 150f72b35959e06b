/- Order: Len, Less, Swap of the heap of lists. -/
import Derived.Test.YtlacihgoammjgaaOrdA
namespace Go.Proofs.Ytlacihgoammjgaa.Ord
open Go Go.RowKit Go.Proofs.Ytlacihgoammjgaa.Words Go.Proofs.Ytlacihgoammjgaa.Enc Go.Proofs.Ytlacihgoammjgaa.Evt Go.Proofs.Ytlacihgoammjgaa.Seg
set_option linter.unusedVariables false
set_option linter.unusedSimpArgs false

theorem at_mem {hs : List HV} {k : Nat} (hk : k < hs.length) : HV.at_ hs k ∈ hs := by
  unfold HV.at_
  rw [List.getD_eq_getElem?_getD, List.getElem?_eq_getElem hk]
  exact List.getElem_mem hk
theorem HeadsAt.get {B p : Nat} {T : TypeId} {A : Option Addr} {c : Nat} {hs : List HV} {w : World} (h : HeadsAt B p T A c hs w) (hn : 0 < hs.length) :
    ∃ g, A = some ⟨g, 0, none⟩ ∧ B ≤ g ∧ g ≠ p ∧ ∀ k, k < hs.length → w.cell? ⟨g, k, none⟩ = some (HV.at_ hs k).val := by
  obtain ⟨g, rfl, hg⟩ := own_at8 h.own hn
  refine ⟨g, rfl, hg, h.apart _ rfl, fun k hk => ?_⟩
  have := h.own.cells (g := g) rfl k (HV.at_ hs k).val (by
    unfold HV.at_
    rw [List.getD_eq_getElem?_getD, List.getElem?_map, List.getElem?_eq_getElem hk]; rfl)
  rw [add_plain] at this
  simpa using this
theorem Lies.first {B : Nat} {w : World} {h : HV} (hl : Lies B w h) (hn : h.S ≠ []) : ∃ b o, b < B ∧ h.A = some ⟨b, o, none⟩ ∧ w.cell? ⟨b, o, none⟩ = some (.int .i64 h.one.e.writer) ∧ w.cell? ⟨b, o + 1, none⟩ = some (.int .u64 (h.one.e.seq : Int)) ∧ w.cell? ⟨b, o + 2, none⟩ = some (.int .u64 (h.one.e.time : Int)) ∧ w.cell? ⟨b, o + 3, none⟩ = some (.int .u8 (h.one.e.kind : Int)) ∧ w.cell? ⟨b, o + 4, none⟩ = some (.string h.one.e.key) ∧ w.cell? ⟨b, o + 5, none⟩ = some (.slice h.one.A h.one.n h.one.c) ∧ w.cell? ⟨b, o + 6, none⟩ = some (.float .f64 h.one.e.num) ∧ w.cell? ⟨b, o + 7, none⟩ = some (.int .i64 h.one.e.node) := by
  have hn' : 0 < h.S.length := by
    cases hS : h.S with
    | nil => exact absurd hS hn
    | cons a l => simp
  obtain ⟨b, o, h1, h2, h3⟩ := hl.2 hn'
  refine ⟨b, o, h1, h2, ?_⟩
  have h0 : h.S[0]? = some h.one := by
    unfold HV.one
    cases hS : h.S with
    | nil => exact absurd hS hn
    | cons a l => simp
  obtain ⟨b', o', e, k⟩ := RawEv.at_ (S := h.S) (A := some ⟨b, o, none⟩) (w := w) (fun _ => ⟨b, o, rfl, h3⟩) h0
  cases e
  simpa using k

theorem len_any (A : Option Addr) (n c : Nat) (w : World) :
    Calls Try.prog 88 #[.slice A n c] w fun e w' => e = .returned (.int .i64 (n : Int)) ∧ w' = w := by
  go_enter Try.func88, Try.ntmps88
  go_wp2
  go_ret
  exact ⟨rfl, rfl⟩

set_option maxRecDepth 100000 in
set_option maxHeartbeats 2000000 in
theorem less_any {B p : Nat} {T : TypeId} {A : Option Addr} {c : Nat} {hs : List HV} {w : World} (h : HeadsAt B p T A c hs w) (i j : Nat) (hi : i < hs.length) (hj : j < hs.length) (ni : (HV.at_ hs i).S ≠ []) (nj : (HV.at_ hs j).S ≠ []) :
    Calls Try.prog 89 #[.slice A hs.length c, .int .i64 (i : Int), .int .i64 (j : Int)] w fun e w' => e = .returned (.bool (lessB (HV.at_ hs i).one (HV.at_ hs j).one)) ∧ Below w.heap.size w w' := by
  obtain ⟨g, rfl, hg, hgp, hc⟩ := h.get (by omega)
  have ki := hc i hi
  have kj := hc j hj
  obtain ⟨b1, o1, hb1, hA1, f1⟩ := (h.lie _ (at_mem hi)).first ni
  obtain ⟨b2, o2, hb2, hA2, f2⟩ := (h.lie _ (at_mem hj)).first nj
  have z1 : 0 < (HV.at_ hs i).S.length := List.length_pos_iff.2 ni
  have z2 : 0 < (HV.at_ hs j).S.length := List.length_pos_iff.2 nj
  unfold HV.val at ki kj
  rw [hA1] at ki
  rw [hA2] at kj
  generalize (HV.at_ hs i).one = a at *
  generalize (HV.at_ hs j).one = b at *
  generalize (HV.at_ hs i).S.length = n1 at *
  generalize (HV.at_ hs j).S.length = n2 at *
  generalize (HV.at_ hs i).c = c1 at *
  generalize (HV.at_ hs j).c = c2 at *
  generalize hs.length = n at *
  clear hc ni nj hA1 hA2 h
  obtain ⟨r, hr⟩ : ∃ r, r = cmpS a.e.time a.e.writer b.e.time b.e.writer := ⟨_, rfl⟩
  have HF := Lib.hid (And.intro (And.intro ki kj) (And.intro f1 f2))
  have HC : ∀ (W : World), Below w.heap.size w W → Calls Try.prog 34 #[.agg #[.int .i64 a.e.writer, .int .u64 (a.e.seq : Int), .int .u64 (a.e.time : Int), .int .u8 (a.e.kind : Int), .string a.e.key, .slice a.A a.n a.c, .float .f64 a.e.num, .int .i64 a.e.node], .agg #[.int .i64 b.e.writer, .int .u64 (b.e.seq : Int), .int .u64 (b.e.time : Int), .int .u8 (b.e.kind : Int), .string b.e.key, .slice b.A b.n b.c, .float .f64 b.e.num, .int .i64 b.e.node]] W fun e w' => e = .returned (.int .i64 r) ∧ Hid (Below w.heap.size w w') ∧ (w'.cell? ⟨g, i, none⟩ = some (.slice (some ⟨b1, o1, none⟩) n1 c1) ∧ w'.cell? ⟨g, j, none⟩ = some (.slice (some ⟨b2, o2, none⟩) n2 c2)) ∧ (w'.cell? ⟨b1, o1, none⟩ = some (.int .i64 a.e.writer) ∧ w'.cell? ⟨b1, o1 + 1, none⟩ = some (.int .u64 (a.e.seq : Int)) ∧ w'.cell? ⟨b1, o1 + 2, none⟩ = some (.int .u64 (a.e.time : Int)) ∧ w'.cell? ⟨b1, o1 + 3, none⟩ = some (.int .u8 (a.e.kind : Int)) ∧ w'.cell? ⟨b1, o1 + 4, none⟩ = some (.string a.e.key) ∧ w'.cell? ⟨b1, o1 + 5, none⟩ = some (.slice a.A a.n a.c) ∧ w'.cell? ⟨b1, o1 + 6, none⟩ = some (.float .f64 a.e.num) ∧ w'.cell? ⟨b1, o1 + 7, none⟩ = some (.int .i64 a.e.node)) ∧ w'.cell? ⟨b2, o2, none⟩ = some (.int .i64 b.e.writer) ∧ w'.cell? ⟨b2, o2 + 1, none⟩ = some (.int .u64 (b.e.seq : Int)) ∧ w'.cell? ⟨b2, o2 + 2, none⟩ = some (.int .u64 (b.e.time : Int)) ∧ w'.cell? ⟨b2, o2 + 3, none⟩ = some (.int .u8 (b.e.kind : Int)) ∧ w'.cell? ⟨b2, o2 + 4, none⟩ = some (.string b.e.key) ∧ w'.cell? ⟨b2, o2 + 5, none⟩ = some (.slice b.A b.n b.c) ∧ w'.cell? ⟨b2, o2 + 6, none⟩ = some (.float .f64 b.e.num) ∧ w'.cell? ⟨b2, o2 + 7, none⟩ = some (.int .i64 b.e.node) := fun W hW => by
    rw [hr]
    refine (ordCmp_any a b W).mono ?_
    rintro e w' ⟨rfl, hb⟩
    have hb2 := hW.trans (hb.mono hW.size)
    have old : ∀ {q : Addr} {v : Value}, w.cell? q = some v → w'.cell? q = some v := fun {q v} hq => by rw [hb2.cell (World.block_lt_of_cell? _ _ hq)]; exact hq
    obtain ⟨⟨m1, m2⟩, ⟨e0, e1, e2, e3, e4, e5, e6, e7⟩, d0, d1, d2, d3, d4, d5, d6, d7⟩ := HF.out
    exact ⟨rfl, Lib.hid hb2, ⟨old m1, old m2⟩, ⟨old e0, old e1, old e2, old e3, old e4, old e5, old e6, old e7⟩, old d0, old d1, old d2, old d3, old d4, old d5, old d6, old d7⟩
  have hll : lessB a b = decide (r < 0) := by rw [hr]; rfl
  rw [hll]
  clear hll
  have HR := Lib.hid hr
  clear hr
  obtain ⟨e0, e1, e2, e3, e4, e5, e6, e7⟩ := f1
  obtain ⟨d0, d1, d2, d3, d4, d5, d6, d7⟩ := f2
  have zi : (i : Int) < (n : Int) := by omega
  have zj : (j : Int) < (n : Int) := by omega
  have zi0 : (0 : Int) ≤ (i : Int) := by omega
  have zj0 : (0 : Int) ≤ (j : Int) := by omega
  have y1 : (0 : Int) < (n1 : Int) := by omega
  have y2 : (0 : Int) < (n2 : Int) := by omega
  go_enter Try.func89, Try.ntmps89
  go_wp2_with fail
  go_region_held3 (fun w' => (w'.cell? ⟨g, i, none⟩ = some (.slice (some ⟨b1, o1, none⟩) n1 c1) ∧ w'.cell? ⟨g, j, none⟩ = some (.slice (some ⟨b2, o2, none⟩) n2 c2)) ∧ (w'.cell? ⟨b1, o1, none⟩ = some (.int .i64 a.e.writer) ∧ w'.cell? ⟨b1, o1 + 1, none⟩ = some (.int .u64 (a.e.seq : Int)) ∧ w'.cell? ⟨b1, o1 + 2, none⟩ = some (.int .u64 (a.e.time : Int)) ∧ w'.cell? ⟨b1, o1 + 3, none⟩ = some (.int .u8 (a.e.kind : Int)) ∧ w'.cell? ⟨b1, o1 + 4, none⟩ = some (.string a.e.key) ∧ w'.cell? ⟨b1, o1 + 5, none⟩ = some (.slice a.A a.n a.c) ∧ w'.cell? ⟨b1, o1 + 6, none⟩ = some (.float .f64 a.e.num) ∧ w'.cell? ⟨b1, o1 + 7, none⟩ = some (.int .i64 a.e.node)) ∧ w'.cell? ⟨b2, o2, none⟩ = some (.int .i64 b.e.writer) ∧ w'.cell? ⟨b2, o2 + 1, none⟩ = some (.int .u64 (b.e.seq : Int)) ∧ w'.cell? ⟨b2, o2 + 2, none⟩ = some (.int .u64 (b.e.time : Int)) ∧ w'.cell? ⟨b2, o2 + 3, none⟩ = some (.int .u8 (b.e.kind : Int)) ∧ w'.cell? ⟨b2, o2 + 4, none⟩ = some (.string b.e.key) ∧ w'.cell? ⟨b2, o2 + 5, none⟩ = some (.slice b.A b.n b.c) ∧ w'.cell? ⟨b2, o2 + 6, none⟩ = some (.float .f64 b.e.num) ∧ w'.cell? ⟨b2, o2 + 7, none⟩ = some (.int .i64 b.e.node)) (go_keep)
    (first
      | (go_at_call 34
         refine (HC _ ?h1).mono ?_
         case h1 => first | exact Below.refl _ _ | exact (Below.refl _ _).drew | exact Hid.out (by assumption)
         rintro e w' ⟨rfl, hb, k1, k2, k3⟩))
  all_goals go_wp2
  all_goals go_ret
  all_goals exact ⟨rfl, Hid.out (by assumption)⟩
end Go.Proofs.Ytlacihgoammjgaa.Ord
