/- Order: the methods of the heap of lists: how they are found; compare, Len, Less. -/
import Derived.Test.YtlacihgoammjgaaOrdMath
import Derived.Test.YtlacihgoammjgaaEvPlace
import Derived.Deep.RegionWith
import Derived.Deep.QuietTactic
import Derived.Deep.RegionHeld3
namespace Go.Proofs.Ytlacihgoammjgaa.Ord
open Go Go.RowKit Go.Proofs.Ytlacihgoammjgaa.Words Go.Proofs.Ytlacihgoammjgaa.Enc Go.Proofs.Ytlacihgoammjgaa.Evt Go.Proofs.Ytlacihgoammjgaa.Seg
set_option linter.unusedVariables false
set_option linter.unusedSimpArgs false

/-- A list lies below block B. -/
def Lies (B : Nat) (w : World) (h : HV) : Prop := (h.S.length ≤ h.c ∧ h.c ≤ 9223372036854775807) ∧ (0 < h.S.length → ∃ b o, b < B ∧ h.A = some ⟨b, o, none⟩ ∧ ∀ j v, (rowsL h.S)[j]? = some v → w.cell? ⟨b, o + j, none⟩ = some v)
theorem Lies.below {B : Nat} {w w' : World} {h : HV} (hl : Lies B w h) (hb : Below B w w') : Lies B w' h := ⟨hl.1, fun hn => by
  obtain ⟨b, o, h1, h2, h3⟩ := hl.2 hn
  exact ⟨b, o, h1, h2, fun j v hv => by rw [hb.cell h1]; exact h3 j v hv⟩⟩
theorem Lies.raw {B : Nat} {w : World} {h : HV} (hl : Lies B w h) : RawEv w h.A h.S := fun hn => by
  obtain ⟨b, o, h1, h2, h3⟩ := hl.2 hn
  exact ⟨b, o, h2, h3⟩
/-- The blocks that a heap's calls turn: the variable's, the row's. -/
def mine (p : Nat) (A : Option Addr) : List Nat := p :: (A.map fun a => a.block).toList
theorem mine_low {B p : Nat} {A : Option Addr} (hp : B ≤ p) (hA : ∀ a, A = some a → B ≤ a.block) : ∀ x ∈ mine p A, B ≤ x := by
  intro x hx
  rcases List.mem_cons.1 hx with rfl | hx
  · exact hp
  · cases A with
    | none => simp at hx
    | some a => simp at hx; subst hx; exact hA a rfl
/-- The variable at block p has the heads hs, in a row of its own above B. -/
structure HeadsAt (B p : Nat) (T : TypeId) (A : Option Addr) (c : Nat) (hs : List HV) (w : World) : Prop where
  box : w.heap[p]? = some (.cells #[.slice A hs.length c] T (0, 0))
  own : w.ownsRow B 26 1 (.slice A hs.length c) hs.length (hs.map HV.val)
  apart : ∀ a, A = some a → a.block ≠ p
  low : B ≤ p
  lie : ∀ h ∈ hs, Lies B w h
theorem HeadsAt.cell {B p : Nat} {T : TypeId} {A : Option Addr} {c : Nat} {hs : List HV} {w : World} (h : HeadsAt B p T A c hs w) : w.cell? ⟨p, 0, none⟩ = some (.slice A hs.length c) := by
  rw [cell_of_row w p _ _ _ _ h.box]; rfl
theorem HeadsAt.below {B p : Nat} {T : TypeId} {A : Option Addr} {c : Nat} {hs : List HV} {w w' : World} (h : HeadsAt B p T A c hs w) (hb : Below w.heap.size w w') : HeadsAt B p T A c hs w' :=
  ⟨(hb.block p (Array.getElem?_eq_some_iff.1 h.box).1).trans h.box, own_below8 h.own hb (Nat.le_refl _), h.apart, h.low, fun x hx => (h.lie x hx).below (hb.mono (by have := h.low; have := (Array.getElem?_eq_some_iff.1 h.box).1; omega))⟩

abbrev IH (p : Nat) : Value := .iface 72 (.pointer (some ⟨p, 0, none⟩))
theorem m_find (K p : Nat) (w : World) (name : String) (f : FuncId) (v : Value)
    (h2 : (((Try.prog.info? 72).getD default).methods.find? (·.name == name)).map (fun m => (m.path, m.func)) = some (#[], some (f, false)))
    (h : w.cell? ⟨p, 0, none⟩ = some v) : (method (K + 1) 72 (.pointer (some ⟨p, 0, none⟩)) name).run Try.prog w = .ok (f, v) w := by
  have z1 : ∀ w, (typeInfo 72).run Try.prog w = .ok ((Try.prog.info? 72).getD default) w := fun w => by kernel_rfl
  generalize (Try.prog.info? 72).getD default = I at z1 h2
  have z3 : ∀ s, (receiverAt 72 (.val (.pointer (some ⟨p, 0, none⟩))) false (some s)).run Try.prog w = (load ⟨p, 0, none⟩).run Try.prog w := fun s => by kernel_rfl
  cases hm : I.methods.find? (·.name == name) with
  | none => rw [hm] at h2; cases h2
  | some m =>
    rw [hm] at h2
    simp only [Option.map_some, Option.some.injEq, Prod.mk.injEq] at h2
    simp only [method, Sem.run_bind, z1, Result.andThen_ok, hm, h2.1, h2.2, follow, Sem.run_pure]
    simp only [Array.isEmpty_empty, if_true, Sem.run_bind, Result.andThen_ok, Sem.run_pure, z3]
    simp [h, go_sem]
theorem m_len (p : Nat) (v : Value) (w : World) (h : w.cell? ⟨p, 0, none⟩ = some v) : (method 234 72 (.pointer (some ⟨p, 0, none⟩)) "Len").run Try.prog w = .ok (88, v) w := m_find 233 p w _ _ v (by kernel_rfl) h
theorem m_less (p : Nat) (v : Value) (w : World) (h : w.cell? ⟨p, 0, none⟩ = some v) : (method 234 72 (.pointer (some ⟨p, 0, none⟩)) "Less").run Try.prog w = .ok (89, v) w := m_find 233 p w _ _ v (by kernel_rfl) h
theorem m_swap (p : Nat) (v : Value) (w : World) (h : w.cell? ⟨p, 0, none⟩ = some v) : (method 234 72 (.pointer (some ⟨p, 0, none⟩)) "Swap").run Try.prog w = .ok (90, v) w := m_find 233 p w _ _ v (by kernel_rfl) h
theorem m_push (p : Nat) (w : World) : (method 234 72 (.pointer (some ⟨p, 0, none⟩)) "Push").run Try.prog w = .ok (92, .pointer (some ⟨p, 0, none⟩)) w := by kernel_rfl
theorem m_pop (p : Nat) (w : World) : (method 234 72 (.pointer (some ⟨p, 0, none⟩)) "Pop").run Try.prog w = .ok (91, .pointer (some ⟨p, 0, none⟩)) w := by kernel_rfl
/-- An event by itself. -/
theorem EvS.val_cells (r : EvS) : r.e.val r.A r.n r.c = .agg r.cells.toArray := rfl

/-- Does a stand ahead of b? -/
def lessB (a b : EvS) : Bool := decide (cmpS a.e.time a.e.writer b.e.time b.e.writer < 0)
theorem lessB_yes {a b : EvS} (h : lessB a b = true) : evLe a b := by
  have h := of_decide_eq_true h
  unfold cmpS cmpI at h
  unfold evLe
  repeat' split at h
  all_goals omega
theorem lessB_no {a b : EvS} (h : lessB a b = false) : evLe b a := by
  have h := of_decide_eq_false h
  unfold cmpS cmpI at h
  unfold evLe
  repeat' split at h
  all_goals omega

theorem cells8 {w : World} {B : Nat} {r : EvS} {T : TypeId} (h : w.heap[B]? = some (.cells r.cells.toArray T (0, 0))) : w.cell? ⟨B, 0, none⟩ = some (.int .i64 r.e.writer) ∧ w.cell? ⟨B, 1, none⟩ = some (.int .u64 (r.e.seq : Int)) ∧ w.cell? ⟨B, 2, none⟩ = some (.int .u64 (r.e.time : Int)) ∧ w.cell? ⟨B, 3, none⟩ = some (.int .u8 (r.e.kind : Int)) ∧ w.cell? ⟨B, 4, none⟩ = some (.string r.e.key) ∧ w.cell? ⟨B, 5, none⟩ = some (.slice r.A r.n r.c) ∧ w.cell? ⟨B, 6, none⟩ = some (.float .f64 r.e.num) ∧ w.cell? ⟨B, 7, none⟩ = some (.int .i64 r.e.node) := by
  refine ⟨?_, ?_, ?_, ?_, ?_, ?_, ?_, ?_⟩ <;> (rw [cell_of_row w B _ _ _ _ h]; rfl)
set_option maxRecDepth 100000 in
theorem ordCmp_any (a b : EvS) (w : World) :
    Calls Try.prog 34 #[a.e.val a.A a.n a.c, b.e.val b.A b.n b.c] w fun e w' => e = .returned (.int .i64 (cmpS a.e.time a.e.writer b.e.time b.e.writer)) ∧ Below w.heap.size w w' := by
  obtain ⟨r, hr⟩ : ∃ r, r = cmpS a.e.time a.e.writer b.e.time b.e.writer := ⟨_, rfl⟩
  obtain ⟨u, hu⟩ : ∃ u, u = (w.alloc (.cells a.cells.toArray 34)).alloc (.cells b.cells.toArray 34) := ⟨_, rfl⟩
  have hb1 : Below w.heap.size w u := by rw [hu]; exact ((Below.refl _ _).alloc (Nat.le_refl _) _).alloc (by simp) _
  have g1 : u.heap[w.heap.size]? = some (.cells a.cells.toArray 34 (0, 0)) := by rw [hu]; exact (Below.heap_alloc _ _ _ (by simp)).trans (heap_alloc_new w _)
  have g2 : u.heap[w.heap.size + 1]? = some (.cells b.cells.toArray 34 (0, 0)) := by
    have := heap_alloc_new (w.alloc (.cells a.cells.toArray 34)) (.cells b.cells.toArray 34)
    rw [hu]
    rwa [World.size_alloc] at this
  have hz : u.heap.size = w.heap.size + 2 := by rw [hu]; simp
  have HAT : ∀ (x : EvS) (W : World), Below u.heap.size u W → Calls Try.prog 52 #[.agg #[.int .i64 x.e.writer, .int .u64 (x.e.seq : Int), .int .u64 (x.e.time : Int), .int .u8 (x.e.kind : Int), .string x.e.key, .slice x.A x.n x.c, .float .f64 x.e.num, .int .i64 x.e.node]] W fun e w' => e = .returned (spotV x.e.time x.e.writer) ∧ Hid (Below u.heap.size u w') ∧ (w'.cell? ⟨w.heap.size, 0, none⟩ = some (.int .i64 a.e.writer) ∧ w'.cell? ⟨w.heap.size, 1, none⟩ = some (.int .u64 (a.e.seq : Int)) ∧ w'.cell? ⟨w.heap.size, 2, none⟩ = some (.int .u64 (a.e.time : Int)) ∧ w'.cell? ⟨w.heap.size, 3, none⟩ = some (.int .u8 (a.e.kind : Int)) ∧ w'.cell? ⟨w.heap.size, 4, none⟩ = some (.string a.e.key) ∧ w'.cell? ⟨w.heap.size, 5, none⟩ = some (.slice a.A a.n a.c) ∧ w'.cell? ⟨w.heap.size, 6, none⟩ = some (.float .f64 a.e.num) ∧ w'.cell? ⟨w.heap.size, 7, none⟩ = some (.int .i64 a.e.node)) ∧ (w'.cell? ⟨w.heap.size + 1, 0, none⟩ = some (.int .i64 b.e.writer) ∧ w'.cell? ⟨w.heap.size + 1, 1, none⟩ = some (.int .u64 (b.e.seq : Int)) ∧ w'.cell? ⟨w.heap.size + 1, 2, none⟩ = some (.int .u64 (b.e.time : Int)) ∧ w'.cell? ⟨w.heap.size + 1, 3, none⟩ = some (.int .u8 (b.e.kind : Int)) ∧ w'.cell? ⟨w.heap.size + 1, 4, none⟩ = some (.string b.e.key) ∧ w'.cell? ⟨w.heap.size + 1, 5, none⟩ = some (.slice b.A b.n b.c) ∧ w'.cell? ⟨w.heap.size + 1, 6, none⟩ = some (.float .f64 b.e.num) ∧ w'.cell? ⟨w.heap.size + 1, 7, none⟩ = some (.int .i64 b.e.node)) := fun x W hW => by
    refine (at_any x.e x.A x.n x.c W).mono ?_
    rintro e w' ⟨rfl, hb⟩
    have hb2 := hW.trans (hb.mono hW.size)
    exact ⟨rfl, Lib.hid hb2, cells8 ((hb2.block _ (by omega)).trans g1), cells8 ((hb2.block _ (by omega)).trans g2)⟩
  have HC : ∀ (W : World), Below u.heap.size u W → Calls Try.prog 51 #[spotV a.e.time a.e.writer, spotV b.e.time b.e.writer] W fun e w' => e = .returned (.int .i64 r) ∧ Hid (Below u.heap.size u w') ∧ (w'.cell? ⟨w.heap.size, 0, none⟩ = some (.int .i64 a.e.writer) ∧ w'.cell? ⟨w.heap.size, 1, none⟩ = some (.int .u64 (a.e.seq : Int)) ∧ w'.cell? ⟨w.heap.size, 2, none⟩ = some (.int .u64 (a.e.time : Int)) ∧ w'.cell? ⟨w.heap.size, 3, none⟩ = some (.int .u8 (a.e.kind : Int)) ∧ w'.cell? ⟨w.heap.size, 4, none⟩ = some (.string a.e.key) ∧ w'.cell? ⟨w.heap.size, 5, none⟩ = some (.slice a.A a.n a.c) ∧ w'.cell? ⟨w.heap.size, 6, none⟩ = some (.float .f64 a.e.num) ∧ w'.cell? ⟨w.heap.size, 7, none⟩ = some (.int .i64 a.e.node)) ∧ (w'.cell? ⟨w.heap.size + 1, 0, none⟩ = some (.int .i64 b.e.writer) ∧ w'.cell? ⟨w.heap.size + 1, 1, none⟩ = some (.int .u64 (b.e.seq : Int)) ∧ w'.cell? ⟨w.heap.size + 1, 2, none⟩ = some (.int .u64 (b.e.time : Int)) ∧ w'.cell? ⟨w.heap.size + 1, 3, none⟩ = some (.int .u8 (b.e.kind : Int)) ∧ w'.cell? ⟨w.heap.size + 1, 4, none⟩ = some (.string b.e.key) ∧ w'.cell? ⟨w.heap.size + 1, 5, none⟩ = some (.slice b.A b.n b.c) ∧ w'.cell? ⟨w.heap.size + 1, 6, none⟩ = some (.float .f64 b.e.num) ∧ w'.cell? ⟨w.heap.size + 1, 7, none⟩ = some (.int .i64 b.e.node)) := fun W hW => by
    rw [hr]
    refine (compare_any _ _ _ _ W).mono ?_
    rintro e w' ⟨rfl, hb⟩
    have hb2 := hW.trans (hb.mono hW.size)
    exact ⟨rfl, Lib.hid hb2, cells8 ((hb2.block _ (by omega)).trans g1), cells8 ((hb2.block _ (by omega)).trans g2)⟩
  have HB1 := Lib.hid hb1
  obtain ⟨⟨c0, c1, c2, c3, c4, c5, c6, c7⟩, d0, d1, d2, d3, d4, d5, d6, d7⟩ := And.intro (cells8 g1) (cells8 g2)
  have HZ := Lib.hid hz
  rw [← hr]
  clear hr hb1 hz g1 g2
  unfold EvS.cells at hu
  have HU := Lib.hid hu
  clear hu
  unfold Ev.val
  go_enter Try.func34, Try.ntmps34
  go_wp2_with fail
  rw [← HU.out]
  go_region_held3 (fun w' => (w'.cell? ⟨w.heap.size, 0, none⟩ = some (.int .i64 a.e.writer) ∧ w'.cell? ⟨w.heap.size, 1, none⟩ = some (.int .u64 (a.e.seq : Int)) ∧ w'.cell? ⟨w.heap.size, 2, none⟩ = some (.int .u64 (a.e.time : Int)) ∧ w'.cell? ⟨w.heap.size, 3, none⟩ = some (.int .u8 (a.e.kind : Int)) ∧ w'.cell? ⟨w.heap.size, 4, none⟩ = some (.string a.e.key) ∧ w'.cell? ⟨w.heap.size, 5, none⟩ = some (.slice a.A a.n a.c) ∧ w'.cell? ⟨w.heap.size, 6, none⟩ = some (.float .f64 a.e.num) ∧ w'.cell? ⟨w.heap.size, 7, none⟩ = some (.int .i64 a.e.node)) ∧ (w'.cell? ⟨w.heap.size + 1, 0, none⟩ = some (.int .i64 b.e.writer) ∧ w'.cell? ⟨w.heap.size + 1, 1, none⟩ = some (.int .u64 (b.e.seq : Int)) ∧ w'.cell? ⟨w.heap.size + 1, 2, none⟩ = some (.int .u64 (b.e.time : Int)) ∧ w'.cell? ⟨w.heap.size + 1, 3, none⟩ = some (.int .u8 (b.e.kind : Int)) ∧ w'.cell? ⟨w.heap.size + 1, 4, none⟩ = some (.string b.e.key) ∧ w'.cell? ⟨w.heap.size + 1, 5, none⟩ = some (.slice b.A b.n b.c) ∧ w'.cell? ⟨w.heap.size + 1, 6, none⟩ = some (.float .f64 b.e.num) ∧ w'.cell? ⟨w.heap.size + 1, 7, none⟩ = some (.int .i64 b.e.node))) (go_keep)
    (first
      | (go_at_call 52
         first
           | (refine (HAT a _ ?h1).mono ?_
              case h1 => first | exact Below.refl _ _ | exact (Below.refl _ _).drew | exact Hid.out (by assumption)
              rintro e w' ⟨rfl, hb, k1, k2⟩)
           | (refine (HAT b _ ?h1).mono ?_
              case h1 => first | exact Below.refl _ _ | exact (Below.refl _ _).drew | exact Hid.out (by assumption)
              rintro e w' ⟨rfl, hb, k1, k2⟩))
      | (go_at_call 51
         refine (HC _ ?h1).mono ?_
         case h1 => exact Hid.out (by assumption)
         rintro e w' ⟨rfl, hb, k1, k2⟩))
  all_goals go_wp2
  all_goals go_ret
  all_goals exact ⟨rfl, HB1.out.trans ((Hid.out (by assumption) : Below u.heap.size u _).mono (by have := HZ.out; omega))⟩
end Go.Proofs.Ytlacihgoammjgaa.Ord
