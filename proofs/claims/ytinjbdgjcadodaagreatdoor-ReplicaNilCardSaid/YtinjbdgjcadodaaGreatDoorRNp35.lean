/- Texts of the law ReplicaNil, put together. -/
import Derived.Laws.StructEq
import Derived.Deep.Cut
import Derived.Deep.RegionWith
import Derived.Deep.QuietTactic
import Derived.Deep.RegionHeld3
import Derived.BigRegion
import Derived.Test.YtinjbdgjcadodaaGreatDoorRNp06
import Derived.Test.YtinjbdgjcadodaaGreatDoorRNp14
set_option linter.unusedVariables false
set_option linter.unusedSimpArgs false
set_option maxRecDepth 100000
namespace Go.Proofs.YtinjbdgjcadodaaGreatDoor.Ord
open Go Go.RowKit Words Enc Evt Seg
section
variable {α : Type} {le : α → α → Prop}
def Heaped (le : α → α → Prop) (f : Nat → α) (n : Nat) : Prop := ∀ k, 0 < k → k < n → le (f ((k - 1) / 2)) (f k)
def swp (f : Nat → α) (i j : Nat) : Nat → α := fun k => if k = i then f j else if k = j then f i else f k
def UpInv (le : α → α → Prop) (f : Nat → α) (n j : Nat) : Prop :=
 (∀ k, 0 < k → k < n → k ≠ j → le (f ((k - 1) / 2)) (f k)) ∧ (0 < j → ∀ k, 0 < k → k < n → (k - 1) / 2 = j → le (f ((j - 1) / 2)) (f k))
theorem UpInv.stop {f : Nat → α} {n j : Nat} (h : UpInv le f n j) (hs : j = 0 ∨ le (f ((j - 1) / 2)) (f j)) : Heaped le f n := fun k h1 h2 => by
 by_cases e : k = j
 ·subst e
  rcases hs with rfl | h
  ·omega
  ·exact h
 ·exact h.1 k h1 h2 e
theorem UpInv.go (tr : ∀ a b c, le a b → le b c → le a c) {f : Nat → α} {n j : Nat} (h : UpInv le f n j) (hj : 0 < j) (hjn : j < n) (hl : le (f j) (f ((j - 1) / 2))) :
  UpInv le (swp f ((j - 1) / 2) j) n ((j - 1) / 2) := by
 generalize hp : (j - 1) / 2 = p at hl ⊢
 have hpj : p < j := by omega
 refine ⟨fun k h1 h2 h3 => ?_, fun h0 k h1 h2 h3 => ?_⟩
 ·by_cases e : k = j
  ·subst e
   rw [hp]
   simp only [swp, if_pos rfl, if_neg h3]
   simpa using hl
  ·have hk := h.1 k h1 h2 e
   by_cases e1 : (k - 1) / 2 = p
   ·rw [e1] at hk ⊢
    simp only [swp, if_pos rfl, if_neg h3, if_neg e]
    simpa using tr _ _ _ hl hk
   ·by_cases e2 : (k - 1) / 2 = j
    ·have := h.2 hj k h1 h2 e2
     rw [hp] at this
     rw [e2]
     simp only [swp, if_neg (show ¬ j = p by omega), if_pos rfl, if_neg h3, if_neg e]
     simpa using this
    ·simp only [swp, if_neg e1, if_neg e2, if_neg h3, if_neg e]
     exact hk
 ·have hq : ¬ (p - 1) / 2 = p := by omega
  have hq2 : ¬ (p - 1) / 2 = j := by omega
  have hb := h.1 p h0 (by omega) (by omega)
  by_cases e : k = j
  ·subst e
   simp only [swp, if_neg hq, if_neg hq2, if_neg (show ¬ k = p by omega), if_pos rfl]
   simpa using hb
  ·have hk := h.1 k h1 h2 e
   rw [h3] at hk
   simp only [swp, if_neg hq, if_neg hq2, if_neg (show ¬ k = p by omega), if_neg e]
   exact tr _ _ _ hb hk
def DownInv (le : α → α → Prop) (f : Nat → α) (n i : Nat) : Prop :=
 (∀ k, 0 < k → k < n → (k - 1) / 2 ≠ i → le (f ((k - 1) / 2)) (f k)) ∧ (0 < i → ∀ k, 0 < k → k < n → (k - 1) / 2 = i → le (f ((i - 1) / 2)) (f k))
theorem DownInv.stop {f : Nat → α} {n i : Nat} (h : DownInv le f n i) (hs : ∀ k, 0 < k → k < n → (k - 1) / 2 = i → le (f i) (f k)) : Heaped le f n := fun k h1 h2 => by
 by_cases e : (k - 1) / 2 = i
 ·rw [e]; exact hs k h1 h2 e
 ·exact h.1 k h1 h2 e
theorem DownInv.go {f : Nat → α} {n i j : Nat} (h : DownInv le f n i) (hj : 0 < j) (hjn : j < n) (hji : (j - 1) / 2 = i) (hl : le (f j) (f i))
  (hm : ∀ k, 0 < k → k < n → (k - 1) / 2 = i → le (f j) (f k)) : DownInv le (swp f i j) n j := by
 have hij : i < j := by omega
 refine ⟨fun k h1 h2 h3 => ?_, fun _ k h1 h2 h3 => ?_⟩
 ·by_cases e : k = j
  ·subst e
   rw [hji]
   simp only [swp, if_pos rfl, if_neg (show ¬ k = i by omega)]
   simpa using hl
  ·by_cases e1 : (k - 1) / 2 = i
   ·have := hm k h1 h2 e1
    rw [e1]
    simp only [swp, if_pos rfl, if_neg (show ¬ k = i by omega), if_neg e]
    simpa using this
   ·by_cases e2 : k = i
    ·subst e2
     have := h.2 h1 j hj hjn hji
     simp only [swp, if_neg (show ¬ (k - 1) / 2 = k by omega), if_neg (show ¬ (k - 1) / 2 = j by omega), if_pos rfl]
     simpa using this
    ·simp only [swp, if_neg e1, if_neg h3, if_neg e2, if_neg e]
     exact h.1 k h1 h2 e1
 ·have := h.1 k h1 h2 (by omega)
  rw [h3] at this
  rw [hji]
  simp only [swp, if_pos rfl, if_neg (show ¬ k = i by omega), if_neg (show ¬ k = j by omega)]
  simpa using this
theorem Heaped.root (rf : ∀ a, le a a) (tr : ∀ a b c, le a b → le b c → le a c) {f : Nat → α} {n : Nat} (h : Heaped le f n) : ∀ k, k < n → le (f 0) (f k) := by
 intro k
 induction k using Nat.strongRecOn with
 | _ k ih =>
   intro hk
   by_cases e : k = 0
   ·subst e; exact rf _
   ·exact tr _ _ _ (ih ((k - 1) / 2) (by omega) (by omega)) (h k (by omega) hk)
theorem Heaped.down0 {f g : Nat → α} {n : Nat} (h : Heaped le f n) (hg : ∀ k, 0 < k → k < n → g k = f k) {m : Nat} (hm : m ≤ n) : DownInv le g m 0 :=
 ⟨fun k h1 h2 h3 => by rw [hg k h1 (by omega), hg ((k - 1) / 2) (by omega) (by omega)]; exact h k h1 (by omega), fun h => absurd h (by omega)⟩
theorem Heaped.upLast {f g : Nat → α} {n : Nat} (h : Heaped le f n) (hg : ∀ k, k < n → g k = f k) : UpInv le g (n + 1) n :=
 ⟨fun k h1 h2 h3 => by rw [hg k (by omega), hg ((k - 1) / 2) (by omega)]; exact h k h1 (by omega), fun h0 k h1 h2 h3 => by omega⟩
def swL (l : List α) (d : α) (i j : Nat) : List α := (l.set i (l.getD j d)).set j (l.getD i d)
theorem swL_len (l : List α) (d : α) (i j : Nat) : (swL l d i j).length = l.length := by simp [swL]
theorem swL_at (l : List α) (d : α) (i j : Nat) (hi : i < l.length) (hj : j < l.length) (k : Nat) : (swL l d i j).getD k d = swp (fun k => l.getD k d) i j k := by
 unfold swL swp
 by_cases e : k = j
 ·subst e
  simp only [List.getD_eq_getElem?_getD, List.getElem?_set, List.length_set]
  rw [if_pos trivial, if_pos hj]
  by_cases e2 : k = i
  ·subst e2; simp
  ·rw [if_neg e2]; simp
 ·by_cases e2 : k = i
  ·subst e2
   simp only [List.getD_eq_getElem?_getD, List.getElem?_set, List.length_set]
   rw [if_neg (fun h => e h.symm), if_pos trivial, if_pos hi]
   simp
  ·simp only [List.getD_eq_getElem?_getD, List.getElem?_set, List.length_set]
   rw [if_neg (fun h => e h.symm), if_neg (fun h => e2 h.symm), if_neg e2, if_neg e]
theorem swL_perm (l : List α) (d : α) (i j : Nat) (hi : i < l.length) (hj : j < l.length) : (swL l d i j).Perm l := by
 have h := Array.swap_perm (xs := l.toArray) (i := i) (j := j) (by simpa using hi) (by simpa using hj)
 rw [Array.perm_iff_toList_perm, Array.toList_swap] at h
 unfold swL
 simpa [List.getD_eq_getElem?_getD, List.getElem?_eq_getElem hi, List.getElem?_eq_getElem hj] using h
end
def evLe (a b : EvS) : Prop := a.e.time < b.e.time ∨ (a.e.time = b.e.time ∧ a.e.writer ≤ b.e.writer)
theorem evLe_refl (a : EvS) : evLe a a := .inr ⟨rfl, Int.le_refl _⟩
theorem evLe_trans (a b c : EvS) (h1 : evLe a b) (h2 : evLe b c) : evLe a c := by unfold evLe at *; omega
structure HV where
 A : Option Addr
 c : Nat
 S : List EvS
instance : Inhabited HV := ⟨⟨none, 0, []⟩⟩
def HV.val (h : HV) : Value := .slice h.A h.S.length h.c
def noEv : EvS := ⟨⟨0, 0, 0, 0, ⟨#[]⟩, [], 0, 0⟩, none, 0, 0⟩
def HV.one (h : HV) : EvS := h.S.headD noEv
def hvLe (a b : HV) : Prop := evLe a.one b.one
theorem hvLe_refl (a : HV) : hvLe a a := evLe_refl _
theorem hvLe_trans (a b c : HV) (h1 : hvLe a b) (h2 : hvLe b c) : hvLe a c := evLe_trans _ _ _ h1 h2
def noHV : HV := ⟨none, 0, []⟩
def HV.at_ (hs : List HV) : Nat → HV := fun k => hs.getD k noHV
structure Heap (hs : List HV) : Prop where
 ord : Heaped hvLe (HV.at_ hs) hs.length
 ne : ∀ h ∈ hs, h.S ≠ []
def flat (hs : List HV) : List EvS := hs.flatMap HV.S
theorem flat_perm {a b : List HV} (h : a.Perm b) : (flat a).Perm (flat b) := List.Perm.flatMap_right _ h
def Rises (l : List EvS) : Prop := l.Pairwise evLe
theorem one_mem {h : HV} (hn : h.S ≠ []) : h.one ∈ h.S := by
 unfold HV.one
 cases hS : h.S with
 | nil => exact absurd hS hn
 | cons a l => exact List.mem_cons_self
theorem Heap.least {hs : List HV} (h : Heap hs) (hr : ∀ x ∈ hs, Rises x.S) : ∀ e ∈ flat hs, evLe (HV.at_ hs 0).one e := by
 intro e he
 obtain ⟨x, hx, hex⟩ := List.mem_flatMap.1 he
 obtain ⟨k, hk, rfl⟩ := List.getElem_of_mem hx
 have h0 := h.ord.root hvLe_refl hvLe_trans k hk
 have hk2 : HV.at_ hs k = hs[k] := by simp [HV.at_, List.getD_eq_getElem?_getD, List.getElem?_eq_getElem hk]
 rw [hk2] at h0
 refine evLe_trans _ _ _ h0 ?_
 have hp := hr _ hx
 unfold Rises at hp
 unfold HV.one
 cases hS : hs[k].S with
 | nil => rw [hS] at hex; cases hex
 | cons a l =>
   rw [hS] at hex hp
   rcases List.mem_cons.1 hex with rfl | hm
   ·exact evLe_refl _
   ·exact (List.pairwise_cons.1 hp).1 _ hm
def Lies (B : Nat) (w : World) (h : HV) : Prop := (h.S.length ≤ h.c ∧ h.c ≤ 9223372036854775807) ∧ (0 < h.S.length → ∃ b o, b < B ∧ h.A = some ⟨b, o, none⟩ ∧ ∀ j v, (rowsL h.S)[j]? = some v → w.cell? ⟨b, o + j, none⟩ = some v)
theorem Lies.below {B : Nat} {w w' : World} {h : HV} (hl : Lies B w h) (hb : Below B w w') : Lies B w' h := ⟨hl.1, fun hn => by
 obtain ⟨b, o, h1, h2, h3⟩ := hl.2 hn
 exact ⟨b, o, h1, h2, fun j v hv => by rw [hb.cell h1]; exact h3 j v hv⟩⟩
def mine (p : Nat) (A : Option Addr) : List Nat := p :: (A.map fun a => a.block).toList
theorem mine_low {B p : Nat} {A : Option Addr} (hp : B ≤ p) (hA : ∀ a, A = some a → B ≤ a.block) : ∀ x ∈ mine p A, B ≤ x := by
 intro x hx
 rcases List.mem_cons.1 hx with rfl | hx
 ·exact hp
 ·cases A with
  | none => simp at hx
  | some a => simp at hx; subst hx; exact hA a rfl
structure HeadsAt (B p : Nat) (T : TypeId) (A : Option Addr) (c : Nat) (hs : List HV) (w : World) : Prop where
 box : w.heap[p]? = some (.cells #[.slice A hs.length c] T (0, 0))
 own : w.ownsRow B 26 1 (.slice A hs.length c) hs.length (hs.map HV.val)
 apart : ∀ a, A = some a → a.block ≠ p
 low : B ≤ p
 lie : ∀ h ∈ hs, Lies B w h
theorem HeadsAt.cell {B p : Nat} {T : TypeId} {A : Option Addr} {c : Nat} {hs : List HV} {w : World} (h : HeadsAt B p T A c hs w) : w.cell? ⟨p, 0, none⟩ = some (.slice A hs.length c) := by
 rw [cell_of_row w p _ _ _ _ h.box]; rfl
theorem HeadsAt.below {B p : Nat} {T : TypeId} {A : Option Addr} {c : Nat} {hs : List HV} {w w' : World} (h : HeadsAt B p T A c hs w) (hb : Below w.heap.size w w') : HeadsAt B p T A c hs w' :=
 ⟨(hb.block p (Array.getElem?_eq_some_iff.1 h.box).1).trans h.box, own_below8 h.own hb (Nat.le_refl _), h.apart, h.low, fun x hx => (h.lie x hx).below (hb.mono (by have := h.low; have := (Array.getElem?_eq_some_iff.1 h.box).1; omega))⟩
abbrev IH (p : Nat) : Value := .iface 341 (.pointer (some ⟨p, 0, none⟩))
theorem m_find (K p : Nat) (w : World) (name : String) (f : FuncId) (v : Value)
  (h2 : (((Tryz.prog.info? 341).getD default).methods.find? (·.name == name)).map (fun m => (m.path, m.func)) = some (#[], some (f, false)))
  (h : w.cell? ⟨p, 0, none⟩ = some v) : (method (K + 1) 341 (.pointer (some ⟨p, 0, none⟩)) name).run Tryz.prog w = .ok (f, v) w := by
 have z1 : ∀ w, (typeInfo 341).run Tryz.prog w = .ok ((Tryz.prog.info? 341).getD default) w := fun w => by kernel_rfl
 generalize (Tryz.prog.info? 341).getD default = I at z1 h2
 have z3 : ∀ s, (receiverAt 341 (.val (.pointer (some ⟨p, 0, none⟩))) false (some s)).run Tryz.prog w = (load ⟨p, 0, none⟩).run Tryz.prog w := fun s => by kernel_rfl
 cases hm : I.methods.find? (·.name == name) with
 | none => rw [hm] at h2; cases h2
 | some m =>
   rw [hm] at h2
   simp only [Option.map_some, Option.some.injEq, Prod.mk.injEq] at h2
   simp only [method, Sem.run_bind, z1, Result.andThen_ok, hm, h2.1, h2.2, follow, Sem.run_pure]
   simp only [Array.isEmpty_empty, if_true, Sem.run_bind, Result.andThen_ok, Sem.run_pure, z3]
   simp [h, go_sem]
theorem m_len (p : Nat) (v : Value) (w : World) (h : w.cell? ⟨p, 0, none⟩ = some v) : (method 562 341 (.pointer (some ⟨p, 0, none⟩)) "Len").run Tryz.prog w = .ok (400, v) w := m_find 561 p w _ _ v (by kernel_rfl) h
theorem m_less (p : Nat) (v : Value) (w : World) (h : w.cell? ⟨p, 0, none⟩ = some v) : (method 562 341 (.pointer (some ⟨p, 0, none⟩)) "Less").run Tryz.prog w = .ok (401, v) w := m_find 561 p w _ _ v (by kernel_rfl) h
theorem m_swap (p : Nat) (v : Value) (w : World) (h : w.cell? ⟨p, 0, none⟩ = some v) : (method 562 341 (.pointer (some ⟨p, 0, none⟩)) "Swap").run Tryz.prog w = .ok (402, v) w := m_find 561 p w _ _ v (by kernel_rfl) h
theorem m_push (p : Nat) (w : World) : (method 562 341 (.pointer (some ⟨p, 0, none⟩)) "Push").run Tryz.prog w = .ok (405, .pointer (some ⟨p, 0, none⟩)) w := by kernel_rfl
theorem m_pop (p : Nat) (w : World) : (method 562 341 (.pointer (some ⟨p, 0, none⟩)) "Pop").run Tryz.prog w = .ok (404, .pointer (some ⟨p, 0, none⟩)) w := by kernel_rfl
def lessB (a b : EvS) : Bool := decide (cmpS a.e.time a.e.writer b.e.time b.e.writer < 0)
theorem lessB_yes {a b : EvS} (h : lessB a b = true) : evLe a b := by
 have h := of_decide_eq_true h
 unfold cmpS cmpI at h
 unfold evLe
 repeat' split at h
 all_goals omega
theorem lessB_no {a b : EvS} (h : lessB a b = false) : evLe b a := by
 have h := of_decide_eq_false h
 unfold cmpS cmpI at h
 unfold evLe
 repeat' split at h
 all_goals omega
theorem cells8 {w : World} {B : Nat} {r : EvS} {T : TypeId} (h : w.heap[B]? = some (.cells r.cells.toArray T (0, 0))) : w.cell? ⟨B, 0, none⟩ = some (.int .i64 r.e.writer) ∧ w.cell? ⟨B, 1, none⟩ = some (.int .u64 (r.e.seq : Int)) ∧ w.cell? ⟨B, 2, none⟩ = some (.int .u64 (r.e.time : Int)) ∧ w.cell? ⟨B, 3, none⟩ = some (.int .u8 (r.e.kind : Int)) ∧ w.cell? ⟨B, 4, none⟩ = some (.string r.e.key) ∧ w.cell? ⟨B, 5, none⟩ = some (.slice r.A r.n r.c) ∧ w.cell? ⟨B, 6, none⟩ = some (.float .f64 r.e.num) ∧ w.cell? ⟨B, 7, none⟩ = some (.int .i64 r.e.node) := by
 refine ⟨?_, ?_, ?_, ?_, ?_, ?_, ?_, ?_⟩ <;> (rw [cell_of_row w B _ _ _ _ h]; rfl)
theorem ordCmp_any (a b : EvS) (w : World) :
  Calls Tryz.prog 268 #[a.e.val a.A a.n a.c, b.e.val b.A b.n b.c] w fun e w' => e = .returned (.int .i64 (cmpS a.e.time a.e.writer b.e.time b.e.writer)) ∧ Below w.heap.size w w' := by
 obtain ⟨r, hr⟩ : ∃ r, r = cmpS a.e.time a.e.writer b.e.time b.e.writer := ⟨_, rfl⟩
 obtain ⟨u, hu⟩ : ∃ u, u = (w.alloc (.cells a.cells.toArray 38)).alloc (.cells b.cells.toArray 38) := ⟨_, rfl⟩
 have hb1 : Below w.heap.size w u := by rw [hu]; exact ((Below.refl _ _).alloc (Nat.le_refl _) _).alloc (by simp) _
 have g1 : u.heap[w.heap.size]? = some (.cells a.cells.toArray 38 (0, 0)) := by rw [hu]; exact (Below.heap_alloc _ _ _ (by simp)).trans (heap_alloc_new w _)
 have g2 : u.heap[w.heap.size + 1]? = some (.cells b.cells.toArray 38 (0, 0)) := by
  have := heap_alloc_new (w.alloc (.cells a.cells.toArray 38)) (.cells b.cells.toArray 38)
  rw [hu]
  rwa [World.size_alloc] at this
 have hz : u.heap.size = w.heap.size + 2 := by rw [hu]; simp
 have HAT : ∀ (x : EvS) (W : World), Below u.heap.size u W → Calls Tryz.prog 165 #[.agg #[.int .i64 x.e.writer, .int .u64 (x.e.seq : Int), .int .u64 (x.e.time : Int), .int .u8 (x.e.kind : Int), .string x.e.key, .slice x.A x.n x.c, .float .f64 x.e.num, .int .i64 x.e.node]] W fun e w' => e = .returned (spotV x.e.time x.e.writer) ∧ Hid (Below u.heap.size u w') ∧ (w'.cell? ⟨w.heap.size, 0, none⟩ = some (.int .i64 a.e.writer) ∧ w'.cell? ⟨w.heap.size, 1, none⟩ = some (.int .u64 (a.e.seq : Int)) ∧ w'.cell? ⟨w.heap.size, 2, none⟩ = some (.int .u64 (a.e.time : Int)) ∧ w'.cell? ⟨w.heap.size, 3, none⟩ = some (.int .u8 (a.e.kind : Int)) ∧ w'.cell? ⟨w.heap.size, 4, none⟩ = some (.string a.e.key) ∧ w'.cell? ⟨w.heap.size, 5, none⟩ = some (.slice a.A a.n a.c) ∧ w'.cell? ⟨w.heap.size, 6, none⟩ = some (.float .f64 a.e.num) ∧ w'.cell? ⟨w.heap.size, 7, none⟩ = some (.int .i64 a.e.node)) ∧ (w'.cell? ⟨w.heap.size + 1, 0, none⟩ = some (.int .i64 b.e.writer) ∧ w'.cell? ⟨w.heap.size + 1, 1, none⟩ = some (.int .u64 (b.e.seq : Int)) ∧ w'.cell? ⟨w.heap.size + 1, 2, none⟩ = some (.int .u64 (b.e.time : Int)) ∧ w'.cell? ⟨w.heap.size + 1, 3, none⟩ = some (.int .u8 (b.e.kind : Int)) ∧ w'.cell? ⟨w.heap.size + 1, 4, none⟩ = some (.string b.e.key) ∧ w'.cell? ⟨w.heap.size + 1, 5, none⟩ = some (.slice b.A b.n b.c) ∧ w'.cell? ⟨w.heap.size + 1, 6, none⟩ = some (.float .f64 b.e.num) ∧ w'.cell? ⟨w.heap.size + 1, 7, none⟩ = some (.int .i64 b.e.node)) := fun x W hW => by
  refine (at_any x.e x.A x.n x.c W).mono ?_
  rintro e w' ⟨rfl, hb⟩
  have hb2 := hW.trans (hb.mono hW.size)
  exact ⟨rfl, Lib.hid hb2, cells8 ((hb2.block _ (by omega)).trans g1), cells8 ((hb2.block _ (by omega)).trans g2)⟩
 have HC : ∀ (W : World), Below u.heap.size u W → Calls Tryz.prog 164 #[spotV a.e.time a.e.writer, spotV b.e.time b.e.writer] W fun e w' => e = .returned (.int .i64 r) ∧ Hid (Below u.heap.size u w') ∧ (w'.cell? ⟨w.heap.size, 0, none⟩ = some (.int .i64 a.e.writer) ∧ w'.cell? ⟨w.heap.size, 1, none⟩ = some (.int .u64 (a.e.seq : Int)) ∧ w'.cell? ⟨w.heap.size, 2, none⟩ = some (.int .u64 (a.e.time : Int)) ∧ w'.cell? ⟨w.heap.size, 3, none⟩ = some (.int .u8 (a.e.kind : Int)) ∧ w'.cell? ⟨w.heap.size, 4, none⟩ = some (.string a.e.key) ∧ w'.cell? ⟨w.heap.size, 5, none⟩ = some (.slice a.A a.n a.c) ∧ w'.cell? ⟨w.heap.size, 6, none⟩ = some (.float .f64 a.e.num) ∧ w'.cell? ⟨w.heap.size, 7, none⟩ = some (.int .i64 a.e.node)) ∧ (w'.cell? ⟨w.heap.size + 1, 0, none⟩ = some (.int .i64 b.e.writer) ∧ w'.cell? ⟨w.heap.size + 1, 1, none⟩ = some (.int .u64 (b.e.seq : Int)) ∧ w'.cell? ⟨w.heap.size + 1, 2, none⟩ = some (.int .u64 (b.e.time : Int)) ∧ w'.cell? ⟨w.heap.size + 1, 3, none⟩ = some (.int .u8 (b.e.kind : Int)) ∧ w'.cell? ⟨w.heap.size + 1, 4, none⟩ = some (.string b.e.key) ∧ w'.cell? ⟨w.heap.size + 1, 5, none⟩ = some (.slice b.A b.n b.c) ∧ w'.cell? ⟨w.heap.size + 1, 6, none⟩ = some (.float .f64 b.e.num) ∧ w'.cell? ⟨w.heap.size + 1, 7, none⟩ = some (.int .i64 b.e.node)) := fun W hW => by
  rw [hr]
  refine (compare_any _ _ _ _ W).mono ?_
  rintro e w' ⟨rfl, hb⟩
  have hb2 := hW.trans (hb.mono hW.size)
  exact ⟨rfl, Lib.hid hb2, cells8 ((hb2.block _ (by omega)).trans g1), cells8 ((hb2.block _ (by omega)).trans g2)⟩
 have HB1 := Lib.hid hb1
 obtain ⟨⟨c0, c1, c2, c3, c4, c5, c6, c7⟩, d0, d1, d2, d3, d4, d5, d6, d7⟩ := And.intro (cells8 g1) (cells8 g2)
 have HZ := Lib.hid hz
 rw [← hr]
 clear hr hb1 hz g1 g2
 unfold EvS.cells at hu
 have HU := Lib.hid hu
 clear hu
 unfold Ev.val
 go_enter Tryz.func268, Tryz.ntmps268
 go_wp2_with fail
 rw [← HU.out]
 go_region_held3 (fun w' => (w'.cell? ⟨w.heap.size, 0, none⟩ = some (.int .i64 a.e.writer) ∧ w'.cell? ⟨w.heap.size, 1, none⟩ = some (.int .u64 (a.e.seq : Int)) ∧ w'.cell? ⟨w.heap.size, 2, none⟩ = some (.int .u64 (a.e.time : Int)) ∧ w'.cell? ⟨w.heap.size, 3, none⟩ = some (.int .u8 (a.e.kind : Int)) ∧ w'.cell? ⟨w.heap.size, 4, none⟩ = some (.string a.e.key) ∧ w'.cell? ⟨w.heap.size, 5, none⟩ = some (.slice a.A a.n a.c) ∧ w'.cell? ⟨w.heap.size, 6, none⟩ = some (.float .f64 a.e.num) ∧ w'.cell? ⟨w.heap.size, 7, none⟩ = some (.int .i64 a.e.node)) ∧ (w'.cell? ⟨w.heap.size + 1, 0, none⟩ = some (.int .i64 b.e.writer) ∧ w'.cell? ⟨w.heap.size + 1, 1, none⟩ = some (.int .u64 (b.e.seq : Int)) ∧ w'.cell? ⟨w.heap.size + 1, 2, none⟩ = some (.int .u64 (b.e.time : Int)) ∧ w'.cell? ⟨w.heap.size + 1, 3, none⟩ = some (.int .u8 (b.e.kind : Int)) ∧ w'.cell? ⟨w.heap.size + 1, 4, none⟩ = some (.string b.e.key) ∧ w'.cell? ⟨w.heap.size + 1, 5, none⟩ = some (.slice b.A b.n b.c) ∧ w'.cell? ⟨w.heap.size + 1, 6, none⟩ = some (.float .f64 b.e.num) ∧ w'.cell? ⟨w.heap.size + 1, 7, none⟩ = some (.int .i64 b.e.node))) (go_keep)
  (first
   | (go_at_call 165
      first
       | (refine (HAT a _ ?h1).mono ?_
          case h1 => first | exact Below.refl _ _ | exact (Below.refl _ _).drew | exact Hid.out (by assumption)
          rintro e w' ⟨rfl, hb, k1, k2⟩)
       | (refine (HAT b _ ?h1).mono ?_
          case h1 => first | exact Below.refl _ _ | exact (Below.refl _ _).drew | exact Hid.out (by assumption)
          rintro e w' ⟨rfl, hb, k1, k2⟩))
   | (go_at_call 164
      refine (HC _ ?h1).mono ?_
      case h1 => exact Hid.out (by assumption)
      rintro e w' ⟨rfl, hb, k1, k2⟩))
 all_goals go_wp2
 all_goals go_ret
 all_goals exact ⟨rfl, HB1.out.trans ((Hid.out (by assumption) : Below u.heap.size u _).mono (by have := HZ.out; omega))⟩
theorem at_mem {hs : List HV} {k : Nat} (hk : k < hs.length) : HV.at_ hs k ∈ hs := by
 unfold HV.at_
 rw [List.getD_eq_getElem?_getD, List.getElem?_eq_getElem hk]
 exact List.getElem_mem hk
theorem HeadsAt.get {B p : Nat} {T : TypeId} {A : Option Addr} {c : Nat} {hs : List HV} {w : World} (h : HeadsAt B p T A c hs w) (hn : 0 < hs.length) :
  ∃ g, A = some ⟨g, 0, none⟩ ∧ B ≤ g ∧ g ≠ p ∧ ∀ k, k < hs.length → w.cell? ⟨g, k, none⟩ = some (HV.at_ hs k).val := by
 obtain ⟨g, rfl, hg⟩ := own_at8 h.own hn
 refine ⟨g, rfl, hg, h.apart _ rfl, fun k hk => ?_⟩
 have := h.own.cells (g := g) rfl k (HV.at_ hs k).val (by
  unfold HV.at_
  rw [List.getD_eq_getElem?_getD, List.getElem?_map, List.getElem?_eq_getElem hk]; rfl)
 rw [add_plain] at this
 simpa using this
theorem Lies.first {B : Nat} {w : World} {h : HV} (hl : Lies B w h) (hn : h.S ≠ []) : ∃ b o, b < B ∧ h.A = some ⟨b, o, none⟩ ∧ w.cell? ⟨b, o, none⟩ = some (.int .i64 h.one.e.writer) ∧ w.cell? ⟨b, o + 1, none⟩ = some (.int .u64 (h.one.e.seq : Int)) ∧ w.cell? ⟨b, o + 2, none⟩ = some (.int .u64 (h.one.e.time : Int)) ∧ w.cell? ⟨b, o + 3, none⟩ = some (.int .u8 (h.one.e.kind : Int)) ∧ w.cell? ⟨b, o + 4, none⟩ = some (.string h.one.e.key) ∧ w.cell? ⟨b, o + 5, none⟩ = some (.slice h.one.A h.one.n h.one.c) ∧ w.cell? ⟨b, o + 6, none⟩ = some (.float .f64 h.one.e.num) ∧ w.cell? ⟨b, o + 7, none⟩ = some (.int .i64 h.one.e.node) := by
 have hn' : 0 < h.S.length := by
  cases hS : h.S with
  | nil => exact absurd hS hn
  | cons a l => simp
 obtain ⟨b, o, h1, h2, h3⟩ := hl.2 hn'
 refine ⟨b, o, h1, h2, ?_⟩
 have h0 : h.S[0]? = some h.one := by
  unfold HV.one
  cases hS : h.S with
  | nil => exact absurd hS hn
  | cons a l => simp
 obtain ⟨b', o', e, k⟩ := RawEv.at_ (S := h.S) (A := some ⟨b, o, none⟩) (w := w) (fun _ => ⟨b, o, rfl, h3⟩) h0
 cases e
 simpa using k
theorem len_any (A : Option Addr) (n c : Nat) (w : World) :
  Calls Tryz.prog 400 #[.slice A n c] w fun e w' => e = .returned (.int .i64 (n : Int)) ∧ w' = w := by
 go_enter Tryz.func400, Tryz.ntmps400
 go_wp2
 go_ret
 exact ⟨rfl, rfl⟩
set_option maxHeartbeats 2000000 in
theorem less_any {B p : Nat} {T : TypeId} {A : Option Addr} {c : Nat} {hs : List HV} {w : World} (h : HeadsAt B p T A c hs w) (i j : Nat) (hi : i < hs.length) (hj : j < hs.length) (ni : (HV.at_ hs i).S ≠ []) (nj : (HV.at_ hs j).S ≠ []) :
  Calls Tryz.prog 401 #[.slice A hs.length c, .int .i64 (i : Int), .int .i64 (j : Int)] w fun e w' => e = .returned (.bool (lessB (HV.at_ hs i).one (HV.at_ hs j).one)) ∧ Below w.heap.size w w' := by
 obtain ⟨g, rfl, hg, hgp, hc⟩ := h.get (by omega)
 have ki := hc i hi
 have kj := hc j hj
 obtain ⟨b1, o1, hb1, hA1, f1⟩ := (h.lie _ (at_mem hi)).first ni
 obtain ⟨b2, o2, hb2, hA2, f2⟩ := (h.lie _ (at_mem hj)).first nj
 have z1 : 0 < (HV.at_ hs i).S.length := List.length_pos_iff.2 ni
 have z2 : 0 < (HV.at_ hs j).S.length := List.length_pos_iff.2 nj
 unfold HV.val at ki kj
 rw [hA1] at ki
 rw [hA2] at kj
 generalize (HV.at_ hs i).one = a at *
 generalize (HV.at_ hs j).one = b at *
 generalize (HV.at_ hs i).S.length = n1 at *
 generalize (HV.at_ hs j).S.length = n2 at *
 generalize (HV.at_ hs i).c = c1 at *
 generalize (HV.at_ hs j).c = c2 at *
 generalize hs.length = n at *
 clear hc ni nj hA1 hA2 h
 obtain ⟨r, hr⟩ : ∃ r, r = cmpS a.e.time a.e.writer b.e.time b.e.writer := ⟨_, rfl⟩
 have HF := Lib.hid (And.intro (And.intro ki kj) (And.intro f1 f2))
 have HC : ∀ (W : World), Below w.heap.size w W → Calls Tryz.prog 268 #[.agg #[.int .i64 a.e.writer, .int .u64 (a.e.seq : Int), .int .u64 (a.e.time : Int), .int .u8 (a.e.kind : Int), .string a.e.key, .slice a.A a.n a.c, .float .f64 a.e.num, .int .i64 a.e.node], .agg #[.int .i64 b.e.writer, .int .u64 (b.e.seq : Int), .int .u64 (b.e.time : Int), .int .u8 (b.e.kind : Int), .string b.e.key, .slice b.A b.n b.c, .float .f64 b.e.num, .int .i64 b.e.node]] W fun e w' => e = .returned (.int .i64 r) ∧ Hid (Below w.heap.size w w') ∧ (w'.cell? ⟨g, i, none⟩ = some (.slice (some ⟨b1, o1, none⟩) n1 c1) ∧ w'.cell? ⟨g, j, none⟩ = some (.slice (some ⟨b2, o2, none⟩) n2 c2)) ∧ (w'.cell? ⟨b1, o1, none⟩ = some (.int .i64 a.e.writer) ∧ w'.cell? ⟨b1, o1 + 1, none⟩ = some (.int .u64 (a.e.seq : Int)) ∧ w'.cell? ⟨b1, o1 + 2, none⟩ = some (.int .u64 (a.e.time : Int)) ∧ w'.cell? ⟨b1, o1 + 3, none⟩ = some (.int .u8 (a.e.kind : Int)) ∧ w'.cell? ⟨b1, o1 + 4, none⟩ = some (.string a.e.key) ∧ w'.cell? ⟨b1, o1 + 5, none⟩ = some (.slice a.A a.n a.c) ∧ w'.cell? ⟨b1, o1 + 6, none⟩ = some (.float .f64 a.e.num) ∧ w'.cell? ⟨b1, o1 + 7, none⟩ = some (.int .i64 a.e.node)) ∧ w'.cell? ⟨b2, o2, none⟩ = some (.int .i64 b.e.writer) ∧ w'.cell? ⟨b2, o2 + 1, none⟩ = some (.int .u64 (b.e.seq : Int)) ∧ w'.cell? ⟨b2, o2 + 2, none⟩ = some (.int .u64 (b.e.time : Int)) ∧ w'.cell? ⟨b2, o2 + 3, none⟩ = some (.int .u8 (b.e.kind : Int)) ∧ w'.cell? ⟨b2, o2 + 4, none⟩ = some (.string b.e.key) ∧ w'.cell? ⟨b2, o2 + 5, none⟩ = some (.slice b.A b.n b.c) ∧ w'.cell? ⟨b2, o2 + 6, none⟩ = some (.float .f64 b.e.num) ∧ w'.cell? ⟨b2, o2 + 7, none⟩ = some (.int .i64 b.e.node) := fun W hW => by
  rw [hr]
  refine (ordCmp_any a b W).mono ?_
  rintro e w' ⟨rfl, hb⟩
  have hb2 := hW.trans (hb.mono hW.size)
  have old : ∀ {q : Addr} {v : Value}, w.cell? q = some v → w'.cell? q = some v := fun {q v} hq => by rw [hb2.cell (World.block_lt_of_cell? _ _ hq)]; exact hq
  obtain ⟨⟨m1, m2⟩, ⟨e0, e1, e2, e3, e4, e5, e6, e7⟩, d0, d1, d2, d3, d4, d5, d6, d7⟩ := HF.out
  exact ⟨rfl, Lib.hid hb2, ⟨old m1, old m2⟩, ⟨old e0, old e1, old e2, old e3, old e4, old e5, old e6, old e7⟩, old d0, old d1, old d2, old d3, old d4, old d5, old d6, old d7⟩
 have hll : lessB a b = decide (r < 0) := by rw [hr]; rfl
 rw [hll]
 clear hll
 have HR := Lib.hid hr
 clear hr
 obtain ⟨e0, e1, e2, e3, e4, e5, e6, e7⟩ := f1
 obtain ⟨d0, d1, d2, d3, d4, d5, d6, d7⟩ := f2
 have zi : (i : Int) < (n : Int) := by omega
 have zj : (j : Int) < (n : Int) := by omega
 have zi0 : (0 : Int) ≤ (i : Int) := by omega
 have zj0 : (0 : Int) ≤ (j : Int) := by omega
 have y1 : (0 : Int) < (n1 : Int) := by omega
 have y2 : (0 : Int) < (n2 : Int) := by omega
 go_enter Tryz.func401, Tryz.ntmps401
 go_wp2_with fail
 go_region_held3 (fun w' => (w'.cell? ⟨g, i, none⟩ = some (.slice (some ⟨b1, o1, none⟩) n1 c1) ∧ w'.cell? ⟨g, j, none⟩ = some (.slice (some ⟨b2, o2, none⟩) n2 c2)) ∧ (w'.cell? ⟨b1, o1, none⟩ = some (.int .i64 a.e.writer) ∧ w'.cell? ⟨b1, o1 + 1, none⟩ = some (.int .u64 (a.e.seq : Int)) ∧ w'.cell? ⟨b1, o1 + 2, none⟩ = some (.int .u64 (a.e.time : Int)) ∧ w'.cell? ⟨b1, o1 + 3, none⟩ = some (.int .u8 (a.e.kind : Int)) ∧ w'.cell? ⟨b1, o1 + 4, none⟩ = some (.string a.e.key) ∧ w'.cell? ⟨b1, o1 + 5, none⟩ = some (.slice a.A a.n a.c) ∧ w'.cell? ⟨b1, o1 + 6, none⟩ = some (.float .f64 a.e.num) ∧ w'.cell? ⟨b1, o1 + 7, none⟩ = some (.int .i64 a.e.node)) ∧ w'.cell? ⟨b2, o2, none⟩ = some (.int .i64 b.e.writer) ∧ w'.cell? ⟨b2, o2 + 1, none⟩ = some (.int .u64 (b.e.seq : Int)) ∧ w'.cell? ⟨b2, o2 + 2, none⟩ = some (.int .u64 (b.e.time : Int)) ∧ w'.cell? ⟨b2, o2 + 3, none⟩ = some (.int .u8 (b.e.kind : Int)) ∧ w'.cell? ⟨b2, o2 + 4, none⟩ = some (.string b.e.key) ∧ w'.cell? ⟨b2, o2 + 5, none⟩ = some (.slice b.A b.n b.c) ∧ w'.cell? ⟨b2, o2 + 6, none⟩ = some (.float .f64 b.e.num) ∧ w'.cell? ⟨b2, o2 + 7, none⟩ = some (.int .i64 b.e.node)) (go_keep)
  (first
   | (go_at_call 268
      refine (HC _ ?h1).mono ?_
      case h1 => first | exact Below.refl _ _ | exact (Below.refl _ _).drew | exact Hid.out (by assumption)
      rintro e w' ⟨rfl, hb, k1, k2, k3⟩))
 all_goals go_wp2
 all_goals go_ret
 all_goals exact ⟨rfl, Hid.out (by assumption)⟩
theorem HeadsAt.set {B p g : Nat} {T : TypeId} {c : Nat} {hs : List HV} {w : World} (h : HeadsAt B p T (some ⟨g, 0, none⟩) c hs w) (k : Nat) (hk : k < hs.length) (x : HV) (hx : Lies B w x) :
  HeadsAt B p T (some ⟨g, 0, none⟩) c (hs.set k x) (w.setCell ⟨g, k, none⟩ x.val) ∧ Below B w (w.setCell ⟨g, k, none⟩ x.val) ∧ (w.setCell ⟨g, k, none⟩ x.val).heap.size = w.heap.size := by
 obtain ⟨hb, ho, ha, hlo, hl⟩ := h
 have hgp : g ≠ p := ha _ rfl
 rcases ho.2 with ⟨hv, h0⟩ | ⟨g', cap, cur, hv, hbg, hh, h1, h2, h3, h4⟩
 ·cases hv
 ·have hbg' : B ≤ g := by injection hv with e1 _ _; injection e1 with e1; injection e1 with e1; omega
  obtain ⟨rfl, rfl⟩ : g' = g ∧ cap = c := by injection hv with e1 _ e3; injection e1 with e1; injection e1 with e1; exact ⟨e1.symm, e3.symm⟩
  have hB : Below B w (w.setCell ⟨g', k, none⟩ x.val) := (Below.refl B w).setCell hbg' _
  have hs : (w.setCell ⟨g', k, none⟩ x.val).heap.size = w.heap.size := by simp
  refine ⟨⟨?_, ⟨by simp, .inr ⟨g', cap, cur.setIfInBounds k x.val, by simp, hbg, heapSame hh, by simpa using h1, h2, by simpa using h3, ?_⟩⟩, ha, hlo, fun y hy => ?_⟩, hB, hs⟩
  ·rw [heapOther hgp.symm]
   simpa using hb
  ·rw [Array.toList_setIfInBounds, List.length_set, List.take_set, h4, List.map_set]
  ·rcases List.mem_or_eq_of_mem_set hy with hy | rfl
   ·exact (hl y hy).below hB
   ·exact hx.below hB
theorem HeadsAt.swap {B p g : Nat} {T : TypeId} {c : Nat} {hs : List HV} {w : World} (h : HeadsAt B p T (some ⟨g, 0, none⟩) c hs w) (i j : Nat) (hi : i < hs.length) (hj : j < hs.length) :
  HeadsAt B p T (some ⟨g, 0, none⟩) c (swL hs noHV i j) ((w.setCell ⟨g, i, none⟩ (HV.at_ hs j).val).setCell ⟨g, j, none⟩ (HV.at_ hs i).val) ∧ Below B w ((w.setCell ⟨g, i, none⟩ (HV.at_ hs j).val).setCell ⟨g, j, none⟩ (HV.at_ hs i).val) ∧ ((w.setCell ⟨g, i, none⟩ (HV.at_ hs j).val).setCell ⟨g, j, none⟩ (HV.at_ hs i).val).heap.size = w.heap.size := by
 obtain ⟨h1, h2, h3⟩ := h.set i hi _ (h.lie _ (at_mem hj))
 obtain ⟨k1, k2, k3⟩ := h1.set j (by simpa using hj) (HV.at_ hs i) ((h.lie _ (at_mem hi)).below h2)
 exact ⟨k1, h2.trans k2, k3.trans h3⟩
theorem HeadsAt.drew {B p : Nat} {T : TypeId} {A : Option Addr} {c : Nat} {hs : List HV} {w : World} (h : HeadsAt B p T A c hs w) : HeadsAt B p T A c hs w.drew := h.below (Below.refl _ _).drew
theorem HeadsAt.frz {B p g : Nat} {T : TypeId} {c : Nat} {hs : List HV} {w : World} (h : HeadsAt B p T (some ⟨g, 0, none⟩) c hs w) (k : Nat) : w.frozen? ⟨g, k, none⟩ = false := by
 rcases h.own.2 with ⟨hv, h0⟩ | ⟨g', cap, cur, hv, hbg, hh, _⟩
 ·cases hv
 ·have : g' = g := by injection hv with e1 _ _; injection e1 with e1; injection e1 with e1; exact e1.symm
  subst this
  exact frozen_row0 hh
set_option maxHeartbeats 4000000 in
theorem swap_any {B p : Nat} {T : TypeId} {A : Option Addr} {c : Nat} {hs : List HV} {w : World} (h : HeadsAt B p T A c hs w) (i j : Nat) (hi : i < hs.length) (hj : j < hs.length) :
  Calls Tryz.prog 402 #[.slice A hs.length c, .int .i64 (i : Int), .int .i64 (j : Int)] w fun e w' => e = .returned (.tuple #[]) ∧ HeadsAt B p T A c (swL hs noHV i j) w' ∧ Below B w w' ∧ Beside (mine p A) w w' := by
 obtain ⟨g, rfl, hg, hgp, hc⟩ := h.get (by omega)
 obtain ⟨s1, s2, s3⟩ := h.swap i j hi hj
 have s1 := s1.drew
 have s2 := s2.drew
 have s3 : Beside (mine p (some ⟨g, 0, none⟩)) w ((w.setCell ⟨g, i, none⟩ (HV.at_ hs j).val).setCell ⟨g, j, none⟩ (HV.at_ hs i).val).drew := (((Beside.refl _ w).setCell (by simp [mine]) _).setCell (by simp [mine]) _).drew
 obtain ⟨V, hV⟩ : ∃ V, (w.setCell ⟨g, i, none⟩ (HV.at_ hs j).val).cell? ⟨g, j, none⟩ = some V := by
  obtain ⟨q1, _, _⟩ := h.set i hi _ (h.lie _ (at_mem hj))
  obtain ⟨g', e, _, _, q⟩ := q1.get (by simp; omega)
  cases e
  exact ⟨_, q j (by simpa using hj)⟩
 obtain ⟨V2, hV2⟩ : ∃ V, (w.setCell ⟨g, j, none⟩ (HV.at_ hs i).val).cell? ⟨g, i, none⟩ = some V := by
  obtain ⟨q1, _, _⟩ := h.set j hj _ (h.lie _ (at_mem hi))
  obtain ⟨g', e, _, _, q⟩ := q1.get (by simp; omega)
  cases e
  exact ⟨_, q i (by simpa using hi)⟩
 have ki := hc i hi
 have kj := hc j hj
 have fi := h.frz i
 have fj := h.frz j
 have HS := Lib.hid (And.intro s1 (And.intro s2 s3))
 clear s1 s2 s3 hc h
 obtain ⟨xa, xn, xc, hx⟩ : ∃ xa xn xc, (HV.at_ hs i).val = .slice xa xn xc := ⟨_, _, _, rfl⟩
 obtain ⟨ya, yn, yc, hy⟩ : ∃ ya yn yc, (HV.at_ hs j).val = .slice ya yn yc := ⟨_, _, _, rfl⟩
 rw [hx] at ki HS hV2
 rw [hy] at kj HS hV
 clear hx hy
 generalize swL hs noHV i j = hs' at *
 generalize hs.length = n at *
 have zi : (i : Int) < (n : Int) := by omega
 have zj : (j : Int) < (n : Int) := by omega
 have zi0 : (0 : Int) ≤ (i : Int) := by omega
 have zj0 : (0 : Int) ≤ (j : Int) := by omega
 go_enter Tryz.func402, Tryz.ntmps402
 go_wp2_with fail
 go_region
 all_goals go_wp2
 all_goals go_end0
 all_goals exact ⟨rfl, HS.out.1, HS.out.2.1, HS.out.2.2⟩
end Go.Proofs.YtinjbdgjcadodaaGreatDoor.Ord
