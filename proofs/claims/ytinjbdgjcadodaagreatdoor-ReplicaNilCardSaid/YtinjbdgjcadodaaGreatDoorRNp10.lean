/- Texts of the law ReplicaNil, put together. -/
import Derived.Test.YtinjbdgjcadodaaGreatDoorRows
import Derived.Maps.OwnSet
import Derived.Maps.RangeWalk
import Derived.Handy
import Derived.Lib.Hide
import Derived.Deep.QuietTactic
import Derived.BigQuiet
import Derived.Outline
import Derived.StillTailTactics
import Derived.BigRegion
import Derived.Test.YtinjbdgjcadodaaGreatDoorRNp01
set_option linter.unusedVariables false
set_option maxRecDepth 100000
namespace Go.Proofs.YtinjbdgjcadodaaGreatDoor.Dsk
open Go Go.RowKit Words
def ptrElem : Value → Option (DataW (Option Addr) × List MemPlace)
 | .pointer a => some (.held a, [])
 | _ => none
theorem ptrElem_mk (a : Option Addr) : ptrElem (.pointer a) = some (.held a, []) := rfl
theorem ptrElem_inv {v : Value} {z : DataW (Option Addr) × List MemPlace} (h : ptrElem v = some z) : ∃ a, v = .pointer a ∧ z = (.held a, []) := by
 cases v <;> simp [ptrElem] at h
 exact ⟨_, rfl, h.symm⟩
structure Fil where
 name : List UInt8
 g : Nat
 A : Option Addr
 c : Nat
 p : List UInt8
 safe : Nat
def Fil.own (f : Fil) : List Nat := f.g :: (f.A.map (·.block)).toList
def total : List Fil → Nat
 | [] => 0
 | f :: r => f.p.length + total r
theorem total_append (l m : List Fil) : total (l ++ m) = total l + total m := by
 induction l with
 | nil => simp [total]
 | cons f r ih => simp only [List.cons_append, total, ih]; omega
def look (s : List UInt8) (fs : List Fil) : Option Fil := fs.find? fun f => decide (f.name = s)
def at_ (o : Option Fil) : Option Addr := o.map fun f => ⟨f.g, 0, none⟩
theorem look_none {s : List UInt8} {fs : List Fil} : look s fs = none ↔ ∀ f ∈ fs, f.name ≠ s := by simp [look]
theorem look_mem {s : List UInt8} {fs : List Fil} {f : Fil} (h : look s fs = some f) : f ∈ fs ∧ f.name = s := by
 have h1 := List.find?_some h
 exact ⟨List.mem_of_find?_eq_some h, by simpa using h1⟩
theorem look_append (s : List UInt8) (l m : List Fil) : look s (l ++ m) = (look s l).or (look s m) := by simp [look, List.find?_append]
theorem look_split {s : List UInt8} {fs : List Fil} {f : Fil} (h : look s fs = some f) (hn : (fs.map (·.name)).Nodup) :
  ∃ l m, fs = l ++ f :: m ∧ f.name = s ∧ (∀ x ∈ l ++ m, x.name ≠ s) := by
 obtain ⟨hm, hs⟩ := look_mem h
 obtain ⟨l, m, rfl⟩ := List.append_of_mem hm
 refine ⟨l, m, rfl, hs, fun x hx e => ?_⟩
 rw [List.map_append, List.map_cons, (List.perm_middle).nodup_iff, List.nodup_cons, ← List.map_append] at hn
 exact hn.1 (by rw [hs, ← e]; exact List.mem_map.2 ⟨x, hx, rfl⟩)
def Shows (D : DataW (Option Addr)) (fs : List Fil) : Prop :=
 (∀ s, D.atKey (.string s) (.held none) = .held (at_ (look s fs))) ∧ (∀ s, Maps.has D (.string s) = (look s fs).isSome) ∧ Maps.size D = fs.length
def MapAt (w : World) (mb : Nat) (fs : List Fil) : Prop := ∃ D, w.ownsMap Tryz.prog 9 ptrElem mb fs.length D ∧ Shows D fs
structure Hd where
 room : Int
 acts : Nat
 left : Int
 torn : Int
 off : Bool
def HeadAt (w : World) (d mb u : Nat) (h : Hd) : Prop :=
 w.heap[d]? = some (.cells #[.map (some mb), .int .i64 h.room, .int .i64 (u : Int), .int .i64 (h.acts : Int), .int .i64 h.left, .int .i64 h.torn, .bool h.off] 124 (0, 0))
def FilAt (w : World) (f : Fil) : Prop :=
 w.heap[f.g]? = some (.cells #[.slice f.A f.p.length f.c, .int .i64 (f.safe : Int)] 190 (0, 0)) ∧ ByteRow 5 w f.A f.p.length f.c f.p
def own (d mb : Nat) (fs : List Fil) : List Nat := d :: mb :: fs.flatMap Fil.own
structure DiskAt (w : World) (d mb : Nat) (fs : List Fil) (h : Hd) : Prop where
 head : HeadAt w d mb (total fs) h
 map : MapAt w mb fs
 files : ∀ f ∈ fs, FilAt w f
 apart : (own d mb fs).Nodup
 names : (fs.map (·.name)).Nodup
 safe : ∀ f ∈ fs, f.safe ≤ f.p.length
theorem HeadAt.cells {w : World} {d mb u : Nat} {h : Hd} (hh : HeadAt w d mb u h) :
  w.cell? ⟨d, 0, none⟩ = some (.map (some mb)) ∧ w.cell? ⟨d, 1, none⟩ = some (.int .i64 h.room) ∧ w.cell? ⟨d, 2, none⟩ = some (.int .i64 (u : Int)) ∧ w.cell? ⟨d, 3, none⟩ = some (.int .i64 (h.acts : Int)) ∧
  w.cell? ⟨d, 4, none⟩ = some (.int .i64 h.left) ∧ w.cell? ⟨d, 5, none⟩ = some (.int .i64 h.torn) ∧ w.cell? ⟨d, 6, none⟩ = some (.bool h.off) := by
 unfold HeadAt at hh
 refine ⟨?_, ?_, ?_, ?_, ?_, ?_, ?_⟩ <;> (rw [cell_of_row w d _ _ _ _ hh]; rfl)
theorem HeadAt.frozen {w : World} {d mb u : Nat} {h : Hd} (hh : HeadAt w d mb u h) (i : Nat) : w.frozen? ⟨d, i, none⟩ = false := frozen_row0 hh
theorem HeadAt.lt {w : World} {d mb u : Nat} {h : Hd} (hh : HeadAt w d mb u h) : d < w.heap.size := (Array.getElem?_eq_some_iff.1 hh).1
theorem FilAt.cells {w : World} {f : Fil} (hf : FilAt w f) : w.cell? ⟨f.g, 0, none⟩ = some (.slice f.A f.p.length f.c) ∧ w.cell? ⟨f.g, 1, none⟩ = some (.int .i64 (f.safe : Int)) := by
 refine ⟨?_, ?_⟩ <;> (rw [cell_of_row w f.g _ _ _ _ hf.1]; rfl)
theorem FilAt.frozen {w : World} {f : Fil} (hf : FilAt w f) (i : Nat) : w.frozen? ⟨f.g, i, none⟩ = false := frozen_row0 hf.1
theorem FilAt.lt {w : World} {f : Fil} (hf : FilAt w f) : ∀ k ∈ f.own, k < w.heap.size := by
 intro k hk
 rcases List.mem_cons.1 hk with rfl | hk
 ·exact (Array.getElem?_eq_some_iff.1 hf.1).1
 ·simp only [Option.mem_toList, Option.map_eq_some_iff] at hk
  obtain ⟨a, ha, rfl⟩ := hk
  exact hf.2.lt a ha
theorem FilAt.kept {w w' : World} {f : Fil} (hf : FilAt w f) (hk : ∀ k ∈ f.own, w'.heap[k]? = w.heap[k]?) : FilAt w' f :=
 ⟨(hk _ (by simp [Fil.own])).trans hf.1, hf.2.kept fun a ha => hk _ (by simp [Fil.own, ha])⟩
theorem MapAt.lt {w : World} {mb : Nat} {fs : List Fil} (h : MapAt w mb fs) : mb < w.heap.size := by obtain ⟨D, h, _⟩ := h; exact h.lt
theorem MapAt.kept {w w' : World} {mb : Nat} {fs : List Fil} (h : MapAt w mb fs) (hk : w'.heap[mb]? = w.heap[mb]?) : MapAt w' mb fs := by
 obtain ⟨D, ⟨es, clock, hb, r⟩, hs⟩ := h
 exact ⟨D, ⟨es, clock, hk.trans hb, r⟩, hs⟩
theorem DiskAt.lt {w : World} {d mb : Nat} {fs : List Fil} {h : Hd} (hd : DiskAt w d mb fs h) : ∀ k ∈ own d mb fs, k < w.heap.size := by
 intro k hk
 unfold own at hk
 rcases List.mem_cons.1 hk with rfl | hk
 ·exact hd.head.lt
 ·rcases List.mem_cons.1 hk with rfl | hk
  ·exact hd.map.lt
  ·obtain ⟨f, hf, hkf⟩ := List.mem_flatMap.1 hk
   exact (hd.files f hf).lt k hkf
theorem DiskAt.kept {w w' : World} {d mb : Nat} {fs : List Fil} {h : Hd} (hd : DiskAt w d mb fs h) (hk : ∀ k ∈ own d mb fs, w'.heap[k]? = w.heap[k]?) : DiskAt w' d mb fs h :=
 ⟨(hk _ (by simp [own])).trans hd.head, hd.map.kept (hk _ (by simp [own])), fun f hf => (hd.files f hf).kept fun k hkf => hk k (by unfold own; exact List.mem_cons_of_mem _ (List.mem_cons_of_mem _ (List.mem_flatMap.2 ⟨f, hf, hkf⟩))), hd.apart, hd.names, hd.safe⟩
theorem DiskAt.beside {w w' : World} {d mb : Nat} {fs : List Fil} {h : Hd} {S : List Nat} (hd : DiskAt w d mb fs h) (hb : Beside S w w') (hS : ∀ x ∈ S, x ∉ own d mb fs) : DiskAt w' d mb fs h :=
 hd.kept fun k hk => hb.block k (hd.lt k hk) fun hm => hS k hm hk
theorem DiskAt.below {w w' : World} {d mb : Nat} {fs : List Fil} {h : Hd} (hd : DiskAt w d mb fs h) (hb : Below w.heap.size w w') : DiskAt w' d mb fs h := hd.kept fun k hk => hb.block k (hd.lt k hk)
theorem own_split (d mb : Nat) (l : List Fil) (f : Fil) (m : List Fil) : (own d mb (l ++ f :: m)).Perm (f.own ++ own d mb (l ++ m)) := by
 unfold own
 rw [List.flatMap_append, List.flatMap_cons, List.flatMap_append]
 have h1 : (List.flatMap Fil.own l ++ (f.own ++ List.flatMap Fil.own m)).Perm (f.own ++ (List.flatMap Fil.own l ++ List.flatMap Fil.own m)) := by
  rw [← List.append_assoc, ← List.append_assoc]
  exact List.Perm.append_right _ List.perm_append_comm
 refine ((h1.cons mb).cons d).trans ?_
 have h2 : ((d :: mb :: []) ++ (f.own ++ (List.flatMap Fil.own l ++ List.flatMap Fil.own m))).Perm (f.own ++ ((d :: mb :: []) ++ (List.flatMap Fil.own l ++ List.flatMap Fil.own m))) := by
  refine (List.perm_append_comm_assoc _ _ _).trans ?_
  exact List.Perm.refl _
 simpa using h2
theorem mem_own_split {d mb : Nat} {l : List Fil} {f : Fil} {m : List Fil} {k : Nat} : k ∈ own d mb (l ++ f :: m) ↔ k ∈ f.own ∨ k ∈ own d mb (l ++ m) := by
 rw [(own_split d mb l f m).mem_iff, List.mem_append]
theorem own_self {d mb : Nat} {l : List Fil} {f : Fil} {m : List Fil} (h : (own d mb (l ++ f :: m)).Nodup) : f.own.Nodup ∧ (own d mb (l ++ m)).Nodup ∧ ∀ k ∈ f.own, k ∉ own d mb (l ++ m) := by
 rw [(own_split d mb l f m).nodup_iff, List.nodup_append] at h
 exact ⟨h.1, h.2.1, fun k hk hm => h.2.2 k hk k hm rfl⟩
theorem own_sub {d mb : Nat} {fs : List Fil} {f : Fil} (hf : f ∈ fs) : ∀ k ∈ f.own, k ∈ own d mb fs := fun k hk => by
 unfold own
 exact List.mem_cons_of_mem _ (List.mem_cons_of_mem _ (List.mem_flatMap.2 ⟨f, hf, hk⟩))
theorem at_swap {l m : List Fil} {f f' : Fil} (hn : f'.name = f.name) (hg : f'.g = f.g) (s : List UInt8) : at_ (look s (l ++ f' :: m)) = at_ (look s (l ++ f :: m)) ∧ (look s (l ++ f' :: m)).isSome = (look s (l ++ f :: m)).isSome := by
 rw [look_append, look_append]
 cases hl : look s l with
 | some x => simp [at_]
 | none =>
   by_cases hs : f.name = s
   ·have h1 : look s (f' :: m) = some f' := by simp [look, hn, hs]
    have h2 : look s (f :: m) = some f := by simp [look, hs]
    rw [h1, h2]
    simp [at_, hg]
   ·have h1 : look s (f' :: m) = look s m := by simp [look, hn, hs]
    have h2 : look s (f :: m) = look s m := by simp [look, hs]
    rw [h1, h2]
    simp
theorem MapAt.swap {w : World} {mb : Nat} {l m : List Fil} {f f' : Fil} (h : MapAt w mb (l ++ f :: m)) (hn : f'.name = f.name) (hg : f'.g = f.g) : MapAt w mb (l ++ f' :: m) := by
 obtain ⟨D, ho, h1, h2, h3⟩ := h
 refine ⟨D, by simpa using ho, fun s => ?_, fun s => ?_, by simpa using h3⟩
 ·rw [h1, (at_swap (l := l) (m := m) hn hg s).1]
 ·rw [h2, (at_swap (l := l) (m := m) hn hg s).2]
theorem DiskAt.turnHead {w w' : World} {d mb : Nat} {fs : List Fil} {h h' : Hd} (hd : DiskAt w d mb fs h) (hb : Beside [d] w w') (hh : HeadAt w' d mb (total fs) h') : DiskAt w' d mb fs h' := by
 have ha := hd.apart
 unfold own at ha
 rw [List.nodup_cons] at ha
 have hk : ∀ k ∈ own d mb fs, k ≠ d → w'.heap[k]? = w.heap[k]? := fun k hk hne => hb.block k (hd.lt k hk) (by simpa using hne)
 have hmb : mb ≠ d := fun e => ha.1 (by simp [e])
 exact ⟨hh, hd.map.kept (hk _ (by simp [own]) hmb), fun f hf => (hd.files f hf).kept fun k hkf => hk k (own_sub hf k hkf) (fun e => ha.1 (e ▸ List.mem_cons_of_mem _ (List.mem_flatMap.2 ⟨f, hf, hkf⟩))), hd.apart, hd.names, hd.safe⟩
theorem DiskAt.turnFile {w w' : World} {d mb : Nat} {l m : List Fil} {f f' : Fil} {h h' : Hd} (hd : DiskAt w d mb (l ++ f :: m) h) (hb : Beside (d :: f.own) w w') (hh : HeadAt w' d mb (total (l ++ f' :: m)) h')
  (hf : FilAt w' f') (hn : f'.name = f.name) (hg : f'.g = f.g) (ho : ∀ k ∈ f'.own, k ∈ f.own ∨ w.heap.size ≤ k) (hnd : f'.own.Nodup) (hs : f'.safe ≤ f'.p.length) : DiskAt w' d mb (l ++ f' :: m) h' := by
 obtain ⟨a1, a2, a3⟩ := own_self hd.apart
 have a4 : d ∉ mb :: (l ++ m).flatMap Fil.own := by
  unfold own at a2
  exact (List.nodup_cons.1 a2).1
 have hk : ∀ k ∈ mb :: (l ++ m).flatMap Fil.own, w'.heap[k]? = w.heap[k]? := fun k hk => by
  have hm : k ∈ own d mb (l ++ m) := by unfold own; exact List.mem_cons_of_mem _ hk
  refine hb.block k (hd.lt k (mem_own_split.2 (.inr hm))) fun hx => ?_
  rcases List.mem_cons.1 hx with rfl | hx
  ·exact a4 hk
  ·exact a3 k hx hm
 refine ⟨hh, (hd.map.kept (hk _ (by simp))).swap hn hg, fun x hx => ?_, ?_, ?_, fun x hx => ?_⟩
 ·have hx' : x = f' ∨ x ∈ l ++ m := by simp at hx ⊢; rcases hx with h1 | h1 | h1 <;> simp [h1]
  rcases hx' with rfl | hx'
  ·exact hf
  ·refine (hd.files x (by simp at hx' ⊢; rcases hx' with h1 | h1 <;> simp [h1])).kept fun k hkx => hk k (List.mem_cons_of_mem _ (List.mem_flatMap.2 ⟨x, hx', hkx⟩))
 ·rw [(own_split d mb l f' m).nodup_iff, List.nodup_append]
  refine ⟨hnd, a2, fun k hk1 j hj e => ?_⟩
  subst e
  rcases ho k hk1 with h1 | h1
  ·exact a3 k h1 hj
  ·have := hd.lt k (mem_own_split.2 (.inr hj))
   omega
 ·have := hd.names
  simpa [hn] using this
 ·have hx' : x = f' ∨ x ∈ l ++ m := by simp at hx ⊢; rcases hx with h1 | h1 | h1 <;> simp [h1]
  rcases hx' with rfl | hx'
  ·exact hs
  ·exact hd.safe x (by simp at hx' ⊢; rcases hx' with h1 | h1 <;> simp [h1])
theorem DiskAt.more {w w' : World} {d mb : Nat} {fs : List Fil} {f : Fil} {h h' : Hd} (hd : DiskAt w d mb fs h) (hb : Beside [d, mb] w w') (hh : HeadAt w' d mb (total (fs ++ [f])) h') (hm : MapAt w' mb (fs ++ [f]))
  (hf : FilAt w' f) (hl : look f.name fs = none) (ho : ∀ k ∈ f.own, w.heap.size ≤ k) (hnd : f.own.Nodup) (hs : f.safe ≤ f.p.length) : DiskAt w' d mb (fs ++ [f]) h' := by
 have ha := hd.apart
 unfold own at ha
 rw [List.nodup_cons, List.nodup_cons] at ha
 refine ⟨hh, hm, fun x hx => ?_, ?_, ?_, fun x hx => ?_⟩
 ·rcases List.mem_append.1 hx with hx | hx
  ·refine (hd.files x hx).kept fun k hkx => hb.block k ((hd.files x hx).lt k hkx) fun hc => ?_
   have hk : k ∈ fs.flatMap Fil.own := List.mem_flatMap.2 ⟨x, hx, hkx⟩
   simp at hc
   rcases hc with rfl | rfl
   ·exact ha.1 (List.mem_cons_of_mem _ hk)
   ·exact ha.2.1 hk
  ·obtain rfl : x = f := by simpa using hx
   exact hf
 ·have := own_split d mb fs f []
  rw [this.nodup_iff, List.nodup_append, List.append_nil]
  refine ⟨hnd, hd.apart, fun k hk1 j hj e => ?_⟩
  subst e
  have h1 := ho k hk1
  have h2 := hd.lt k hj
  omega
 ·rw [List.map_append, List.nodup_append]
  refine ⟨hd.names, by simp, fun a ha' b hb' e => ?_⟩
  obtain ⟨x, hx, rfl⟩ := List.mem_map.1 ha'
  simp at hb'
  subst hb'
  exact look_none.1 hl x hx e
 ·rcases List.mem_append.1 hx with hx | hx
  ·exact hd.safe x hx
  ·obtain rfl : x = f := by simpa using hx
   exact hs
theorem keyStr : Maps.Keyed Tryz.prog 9 := Maps.string_keyed Tryz.underlying9
theorem key_mk {s : List UInt8} (hs : s.length ≤ 100000) : keyOf Tryz.prog 9 (.string ⟨s.toArray⟩) = some (.string s) := by
 have h := WideMaps.keyOf_string_mk (P := Tryz.prog) (k := 9) Tryz.underlying9 (s := ⟨s.toArray⟩) (by unfold maxLen; show s.toArray.size ≤ _; simp; omega)
 simpa using h
theorem zeroPtr (w : World) : (zeroValue 186).run Tryz.prog w = .ok (.pointer none) w := by kernel_rfl
theorem MapAt.run_look {w : World} {mb : Nat} {fs : List Fil} (h : MapAt w mb fs) {s : List UInt8} (hs : s.length ≤ 100000) :
  (Instr.lookup 122 (.map (some mb)) (.string ⟨s.toArray⟩) false).run Tryz.prog w = .ok (.pointer (at_ (look s fs))) w := by
 obtain ⟨D, ho, h1, _⟩ := h
 obtain ⟨v, ps, hr, hv⟩ := ho.lookup keyStr Tryz.underlying122 (zeroPtr w) (ptrElem_mk none) (key_mk hs)
 obtain ⟨a, rfl, he⟩ := ptrElem_inv hv
 rw [h1] at he
 simp only [Prod.mk.injEq, DataW.held.injEq] at he
 rw [hr, he.1]
theorem MapAt.run_store {w : World} {mb : Nat} {fs : List Fil} (h : MapAt w mb fs) {f : Fil} (hl : look f.name fs = none) (hs : f.name.length ≤ 100000) (hn : fs.length < 1000000000000) :
  ∃ w', (Instr.mapUpdate 122 (.map (some mb)) (.string ⟨f.name.toArray⟩) (.pointer (some ⟨f.g, 0, none⟩))).run Tryz.prog w = .ok () w' ∧ MapAt w' mb (fs ++ [f]) ∧ w.mapTurned w' mb := by
 obtain ⟨D, ho, h1, h2, h3⟩ := h
 obtain ⟨w', hr, ho', ht⟩ := ho.store keyStr Tryz.underlying122 (by unfold maxLen; omega) (key_mk hs) (ptrElem_mk (some ⟨f.g, 0, none⟩))
 refine ⟨w', hr, ⟨_, by simpa using ho', fun s => ?_, fun s => ?_, ?_⟩, ht⟩
 ·rw [look_append]
  by_cases e : s = f.name
  ·subst e
   rw [Maps.atKey_put_same ho.isMap (keyStr.key (key_mk hs)), hl]
   simp [look, at_]
  ·rw [Maps.atKey_put_other (by intro h; injection h with h; exact e h), h1]
   have : look s [f] = none := by simp [look, Ne.symm e]
   rw [this]
   simp
 ·rw [look_append]
  by_cases e : s = f.name
  ·subst e
   rw [Maps.has_put_same ho.isMap (keyStr.key (key_mk hs)), hl]
   simp [look]
  ·rw [Maps.has_put_other (by intro h; injection h with h; exact e h), h2]
   have : look s [f] = none := by simp [look, Ne.symm e]
   rw [this]
   simp
 ·rw [Maps.size_put (ho.tidy keyStr), h2, hl, h3]
  simp
theorem mapAt_made (w : World) : MapAt (w.alloc (.map #[] 0)) w.heap.size [] :=
 ⟨_, World.ownsMap_made w Tryz.prog 9 ptrElem, fun s => rfl, fun s => rfl, rfl⟩
def Does (d mb : Nat) (fs : List Fil) (w : World) (fs' : List Fil) (h' : Hd) (w' : World) : Prop :=
 DiskAt w' d mb fs' h' ∧ Beside (own d mb fs) w w' ∧ ∀ k ∈ own d mb fs', k ∈ own d mb fs ∨ w.heap.size ≤ k
theorem Does.next {d mb : Nat} {fs fs1 fs2 : List Fil} {h1 h2 : Hd} {w w1 w2 : World} (a : Does d mb fs w fs1 h1 w1) (b : Does d mb fs1 w1 fs2 h2 w2) : Does d mb fs w fs2 h2 w2 :=
 ⟨b.1, a.2.1.trans b.2.1 a.2.2, fun k hk => by
  rcases b.2.2 k hk with h | h
  ·exact a.2.2 k h
  ·have := a.2.1.size; exact .inr (by omega)⟩
theorem Does.below {d mb : Nat} {fs fs1 : List Fil} {h1 : Hd} {w w0 w1 : World} (h : Below w0.heap.size w0 w) (a : Does d mb fs w fs1 h1 w1) : Does d mb fs w0 fs1 h1 w1 :=
 ⟨a.1, (Beside.of_below h (own d mb fs)).trans a.2.1 fun x hx => .inl hx, fun k hk => by
  rcases a.2.2 k hk with h1 | h1
  ·exact .inl h1
  ·have := h.size; exact .inr (by omega)⟩
theorem Does.head {d mb : Nat} {fs : List Fil} {h h' : Hd} {w w' : World} (hd : DiskAt w d mb fs h) (hb : Beside [d] w w') (hh : HeadAt w' d mb (total fs) h') : Does d mb fs w fs h' w' :=
 ⟨hd.turnHead hb hh, hb.wider fun x hx => by simp at hx; subst hx; exact .inl (by simp [own]), fun k hk => .inl hk⟩
theorem Does.same {d mb : Nat} {fs : List Fil} {h : Hd} {w : World} (hd : DiskAt w d mb fs h) : Does d mb fs w fs h w := ⟨hd, Beside.refl _ _, fun k hk => .inl hk⟩
def Hd.fits (h : Hd) : Prop := (-9223372036854775808 ≤ h.room ∧ h.room ≤ 9223372036854775807) ∧ h.acts ≤ 1000000000000 ∧ (-9223372036854775808 ≤ h.left ∧ h.left ≤ 9223372036854775807) ∧ (-9223372036854775808 ≤ h.torn ∧ h.torn ≤ 9223372036854775807)
theorem new_any (room : Int) (w : World) :
  Calls Tryz.prog 23 #[.int .i64 room] w fun e w' => e = .returned (.pointer (some ⟨w.heap.size + 1, 0, none⟩)) ∧ DiskAt w' (w.heap.size + 1) w.heap.size [] ⟨room, 0, -1, 0, false⟩ ∧ Below w.heap.size w w' := by
 have hmk := run_makeMap (P := Tryz.prog) 122 w
 go_enter Tryz.func23, Tryz.ntmps23
 go_wp2
 go_ret
 refine ⟨by simp, ⟨?_, ?_, fun f hf => (by cases hf), ?_, by simp, fun f hf => (by cases hf)⟩, ((Below.refl _ _).alloc (Nat.le_refl _) _).alloc (by simp) _⟩
 ·unfold HeadAt total
  have := heap_alloc_new (w.alloc (.map #[] 0)) (.cells #[.map (some w.heap.size), .int .i64 room, .int .i64 0, .int .i64 0, .int .i64 (-1), .int .i64 0, .bool false] 124)
  simpa using this
 ·exact (mapAt_made w).kept (Below.heap_alloc _ _ _ (by simp))
 ·simp [own]
theorem on_any (d mb : Nat) (fs : List Fil) (h : Hd) (w : World) (hd : DiskAt w d mb fs h) :
  Calls Tryz.prog 182 #[.pointer (some ⟨d, 0, none⟩)] w fun e w' => e = .returned (.bool !h.off) ∧ w = w' := by
 obtain ⟨_, _, _, _, _, _, c6⟩ := hd.head.cells
 go_enter Tryz.func182, Tryz.ntmps182
 go_wp2
 go_ret
 exact ⟨rfl, rfl⟩
def Hd.act (h : Hd) : Hd := if h.off then h else { h with acts := h.acts + 1, left := if 0 < h.left then h.left - 1 else h.left, off := decide (h.left = 0) }
def Hd.may (h : Hd) : Bool := !h.off && !decide (h.left = 0)
theorem act_any (d mb : Nat) (fs : List Fil) (h : Hd) (w : World) (hd : DiskAt w d mb fs h) (hf : h.fits) :
  Calls Tryz.prog 192 #[.pointer (some ⟨d, 0, none⟩)] w fun e w' => e = .returned (.bool h.may) ∧ Does d mb fs w fs h.act w' := by
 obtain ⟨_, _, _, c3, c4, _, c6⟩ := hd.head.cells
 have f3 := hd.head.frozen 3
 have f4 := hd.head.frozen 4
 have f6 := hd.head.frozen 6
 obtain ⟨_, hacts, hleft, _⟩ := hf
 have hhead := hd.head
 unfold HeadAt at hhead
 cases hoff : h.off with
 | true =>
   rw [hoff] at c6
   go_enter Tryz.func192, Tryz.ntmps192
   go_wp2_with fail
   refine (on_any d mb fs h w hd).mono ?_
   rintro e w1 ⟨rfl, rfl⟩
   rw [hoff]
   go_wp2
   go_ret
   refine ⟨by simp [Hd.may, hoff], ?_⟩
   have : h.act = h := by simp [Hd.act, hoff]
   rw [this]
   exact Does.same hd
 | false =>
   rw [hoff] at c6
   have HH := Lib.hid hhead
   clear hhead
   have hw : IntKind.i64.wrap ((h.acts : Int) + 1) = (h.acts : Int) + 1 := IntWalk.i64_in _ (by omega)
   rcases Int.lt_trichotomy h.left 0 with hl | hl | hl
   ·have t1 : (h.left == 0) = false := by rw [beq_eq_false_iff_ne]; omega
    have t2 : decide (0 < h.left) = false := by simp; omega
    have n1 : ¬ h.left = 0 := by omega
    have n2 : ¬ 0 < h.left := by omega
    have N := Lib.hid (And.intro n1 n2)
    clear n1 n2
    go_enter Tryz.func192, Tryz.ntmps192
    go_wp2_with fail
    refine (on_any d mb fs h w hd).mono ?_
    rintro e w1 ⟨rfl, rfl⟩
    rw [hoff]
    go_wp2
    go_ret
    obtain ⟨n1, n2⟩ := N.out
    refine ⟨by simp [Hd.may, hoff, n1], Does.head hd (((Beside.refl _ _).setCell (by simp) _).setCell (by simp) _) ?_⟩
    unfold HeadAt
    rw [heapSame (heapSame HH.out)]
    simp [Hd.act, hoff, n1]
    intro hx
    omega
   ·have N := Lib.hid hl
    rw [hl] at c4
    clear hl
    go_enter Tryz.func192, Tryz.ntmps192
    go_wp2_with fail
    refine (on_any d mb fs h w hd).mono ?_
    rintro e w1 ⟨rfl, rfl⟩
    rw [hoff]
    go_wp2
    go_ret
    have n1 := N.out
    refine ⟨by simp [Hd.may, hoff, n1], Does.head hd (((Beside.refl _ _).setCell (by simp) _).setCell (by simp) _) ?_⟩
    unfold HeadAt
    rw [heapSame (heapSame HH.out)]
    simp [Hd.act, hoff, n1]
   ·have t1 : (h.left == 0) = false := by rw [beq_eq_false_iff_ne]; omega
    have n1 : ¬ h.left = 0 := by omega
    have N := Lib.hid n1
    have hw2 : IntKind.i64.wrap (h.left - 1) = h.left - 1 := IntWalk.i64_in _ (by omega)
    clear n1
    go_enter Tryz.func192, Tryz.ntmps192
    go_wp2_with fail
    refine (on_any d mb fs h w hd).mono ?_
    rintro e w1 ⟨rfl, rfl⟩
    rw [hoff]
    go_wp2
    go_ret
    have n1 := N.out
    refine ⟨by simp [Hd.may, hoff, n1], Does.head hd ((((Beside.refl _ _).setCell (by simp) _).setCell (by simp) _).setCell (by simp) _) ?_⟩
    unfold HeadAt
    rw [heapSame (heapSame (heapSame HH.out))]
    simp [Hd.act, hoff, n1, hl]
def openP (may : Bool) (o : Option Fil) : Option Addr := if may then at_ o else none
def openE (may : Bool) (o : Option Fil) : Int := if may then (if o.isSome then 0 else 2) else 7
theorem open_any (d mb : Nat) (fs : List Fil) (h : Hd) (s : List UInt8) (w : World) (hd : DiskAt w d mb fs h) (hf : h.fits) (hs : s.length ≤ 100000) :
  Calls Tryz.prog 127 #[.pointer (some ⟨d, 0, none⟩), .string ⟨s.toArray⟩] w fun e w' =>
   e = .returned (.tuple #[.pointer (openP h.may (look s fs)), .int .i64 (openE h.may (look s fs))]) ∧ Does d mb fs w fs h.act w' := by
 cases hm : h.may with
 | false =>
   go_enter Tryz.func127, Tryz.ntmps127
   go_wp2_with fail
   refine (act_any d mb fs h w hd hf).mono ?_
   rintro e w1 ⟨rfl, hdo⟩
   rw [hm]
   go_wp2
   go_ret2
   exact ⟨rfl, hdo⟩
 | true =>
   go_enter Tryz.func127, Tryz.ntmps127
   go_wp2_with fail
   refine (act_any d mb fs h w hd hf).mono ?_
   rintro e w1 ⟨rfl, hdo⟩
   rw [hm]
   obtain ⟨c0, _⟩ := hdo.1.head.cells
   have hlk := hdo.1.map.run_look hs
   cases hl : look s fs with
   | none =>
     rw [hl, show at_ none = none from rfl] at hlk
     go_wp2
     go_ret2
     exact ⟨by rw [hl]; rfl, hdo⟩
   | some f =>
     rw [hl, show at_ (some f) = some ⟨f.g, 0, none⟩ from rfl] at hlk
     go_wp2
     go_ret2
     exact ⟨by rw [hl]; rfl, hdo⟩
theorem fits_any (d mb : Nat) (fs : List Fil) (h : Hd) (A : Option Addr) (n c : Nat) (w : World) (hd : DiskAt w d mb fs h) (hf : h.fits) (ht : total fs ≤ 1000000000000) (hn : n ≤ 1000000000000) :
  Calls Tryz.prog 323 #[.pointer (some ⟨d, 0, none⟩), .slice A n c] w fun e w' => e = .returned (.bool (decide ((total fs : Int) + n ≤ h.room))) ∧ ∃ k, w' = w.drewN k := by
 obtain ⟨_, c1, c2, _⟩ := hd.head.cells
 have hw : IntKind.i64.wrap ((total fs : Int) + (n : Int)) = (total fs : Int) + (n : Int) := IntWalk.i64_in _ (by omega)
 clear hf ht hn
 go_enter Tryz.func323, Tryz.ntmps323
 go_wp2
 go_quiet (fail)
 go_wp2
 go_ret
 exact ⟨rfl, _, rfl⟩
theorem own_ne {d mb : Nat} {l m : List Fil} {f : Fil} (h : (own d mb (l ++ f :: m)).Nodup) : f.g ≠ d ∧ f.g ≠ mb ∧ d ≠ mb ∧ ∀ a, f.A = some a → a.block ≠ d ∧ a.block ≠ mb ∧ a.block ≠ f.g := by
 obtain ⟨a1, a2, a3⟩ := own_self h
 have hd : d ∈ own d mb (l ++ m) := by simp [own]
 have hm : mb ∈ own d mb (l ++ m) := by simp [own]
 refine ⟨fun e => a3 f.g (by simp [Fil.own]) (e ▸ hd), fun e => a3 f.g (by simp [Fil.own]) (e ▸ hm), fun e => ?_, fun a ha => ⟨fun e => a3 a.block (by simp [Fil.own, ha]) (e ▸ hd), fun e => a3 a.block (by simp [Fil.own, ha]) (e ▸ hm), fun e => ?_⟩⟩
 ·unfold own at a2
  rw [List.nodup_cons] at a2
  exact a2.1 (by simp [e])
 ·simp [Fil.own, ha] at a1
  exact a1 e.symm
structure File where
 name : List UInt8
 p : List UInt8
 safe : Nat
def Fil.abs (f : Fil) : File := ⟨f.name, f.p, f.safe⟩
def abs (fs : List Fil) : List File := fs.map Fil.abs
def put (s q : List UInt8) : List File → List File
 | [] => [⟨s, q, 0⟩]
 | f :: r => if f.name = s then { f with p := f.p ++ q } :: r else f :: put s q r
theorem put_there {s q : List UInt8} (f : Fil) (f' : Fil) (hs : f.name = s) (h1 : f'.name = s) (h2 : f'.p = f.p ++ q) (h3 : f'.safe = f.safe) (m : List Fil) : ∀ l : List Fil, (∀ x ∈ l, x.name ≠ s) → abs (l ++ f' :: m) = put s q (abs (l ++ f :: m))
 | [], _ => by
   simp only [abs, List.nil_append, List.map_cons, put, Fil.abs, hs, h1, h2, h3]
   simp
 | x :: l, h => by
   have hx : x.name ≠ s := h x (by simp)
   have ih := put_there f f' hs h1 h2 h3 m l fun y hy => h y (by simp [hy])
   simp only [abs, List.cons_append, List.map_cons] at ih ⊢
   have e : put s q (Fil.abs x :: (l ++ f :: m).map Fil.abs) = Fil.abs x :: put s q ((l ++ f :: m).map Fil.abs) := by
    conv => lhs; unfold put
    rw [if_neg (by simpa [Fil.abs] using hx)]
   rw [e, ih]
theorem put_new {s q : List UInt8} (f : Fil) (h1 : f.name = s) (h2 : f.p = q) (h3 : f.safe = 0) : ∀ l : List Fil, (∀ x ∈ l, x.name ≠ s) → abs (l ++ [f]) = put s q (abs l)
 | [], _ => by simp [abs, put, Fil.abs, h1, h2, h3]
 | x :: l, h => by
   have hx : x.name ≠ s := h x (by simp)
   have ih := put_new f h1 h2 h3 l fun y hy => h y (by simp [hy])
   simp only [abs, List.cons_append, List.map_cons] at ih ⊢
   have e : put s q (Fil.abs x :: l.map Fil.abs) = Fil.abs x :: put s q (l.map Fil.abs) := by
    conv => lhs; unfold put
    rw [if_neg (by simpa [Fil.abs] using hx)]
   rw [e, ih]
def Fil.grow (f : Fil) (A : Option Addr) (c : Nat) (q : List UInt8) : Fil := { f with A := A, c := c, p := f.p ++ q }
def Makes (d mb : Nat) (fs : List Fil) (w : World) (files : List File) (h' : Hd) (w' : World) : Prop := ∃ fs', Does d mb fs w fs' h' w' ∧ abs fs' = files
theorem infoU8 : (Tryz.prog.info? 5).map (fun i => (i.zero, i.size, i.bytes)) = some (some (.int .u8 0), 1, 1) := by kernel_rfl
theorem write_old (d mb : Nat) (l : List Fil) (f : Fil) (m : List Fil) (h : Hd) (s : List UInt8) (S : Option Addr) (n c : Nat) (q : List UInt8) (w : World) (hd : DiskAt w d mb (l ++ f :: m) h) (hs : f.name = s) (hl : ∀ x ∈ l ++ m, x.name ≠ s) (hs2 : s.length ≤ 100000)
  (ht : total (l ++ f :: m) ≤ 1000000000000) (hn : n ≤ 1000000000000) (hq : Sees w S n q) :
  Calls Tryz.prog 324 #[.pointer (some ⟨d, 0, none⟩), .string ⟨s.toArray⟩, .slice S n c] w fun e w' => e = .returned (.tuple #[]) ∧ Makes d mb (l ++ f :: m) w (put s q (abs (l ++ f :: m))) h w' := by
 obtain ⟨i, hi, hz, hsz, hby⟩ := info_parts infoU8
 have hfl := hd.files f (by simp)
 obtain ⟨n1, n2, n3, n4⟩ := own_ne hd.apart
 obtain ⟨c0, _, c2, _⟩ := hd.head.cells
 obtain ⟨g0, g1⟩ := hfl.cells
 have f2 := hd.head.frozen 2
 have q0 := hfl.frozen 0
 have hlk := hd.map.run_look hs2
 have hle : f.p.length ≤ total (l ++ f :: m) := by
  rw [total_append]
  simp only [total]
  omega
 have hlook : look s (l ++ f :: m) = some f := by
  have h1 : look s l = none := look_none.2 fun x hx => hl x (by simp [hx])
  rw [look_append, h1]
  simp [look, hs]
 rw [hlook, show at_ (some f) = some ⟨f.g, 0, none⟩ from rfl] at hlk
 have HD := Lib.hid hd
 have HL := Lib.hid hl
 have HS := Lib.hid hs
 have NE2 := Lib.hid n4
 have HF := Lib.hid hfl
 obtain ⟨tot, htt⟩ : ∃ tot, tot = total (l ++ f :: m) := ⟨_, rfl⟩
 rw [← htt] at c2 hle ht
 have HTT := Lib.hid htt
 have hw2 : IntKind.i64.wrap ((tot : Int) + (n : Int)) = (tot : Int) + (n : Int) := IntWalk.i64_in _ (by omega)
 clear hd hl hs n4 htt hfl hlook
 go_enter Tryz.func324, Tryz.ntmps324
 go_wp2_with (first | (at_builtin; refine wpList_data rfl _ _ 28 rfl 5 i (.int .u8 0) Tryz.underlying28 hi hz hsz hby rfl f.A f.p.length f.c f.p rfl HF.out.2 S n c q rfl hq ?c1 ?_))
 case c1 => omega
 intro A' c' w1 hD hB hwh
 have hdis : ∀ x, x ≠ d → True := fun _ _ => trivial
 have hdn : d ∉ (f.A.map (·.block)).toList := by
  intro hm
  simp only [Option.mem_toList, Option.map_eq_some_iff] at hm
  obtain ⟨a, ha, e⟩ := hm
  exact (NE2.out a ha).1 e
 have hgn : f.g ∉ (f.A.map (·.block)).toList := by
  intro hm
  simp only [Option.mem_toList, Option.map_eq_some_iff] at hm
  obtain ⟨a, ha, e⟩ := hm
  exact (NE2.out a ha).2.2 e
 have hh1 : HeadAt w1 d mb (total (l ++ f :: m)) h := (hB.block d HD.out.head.lt hdn).trans HD.out.head
 have hg1 : w1.heap[f.g]? = _ := (hB.block f.g (HF.out.lt _ (by simp [Fil.own])) hgn).trans HF.out.1
 obtain ⟨_, _, e2, _⟩ := hh1.cells
 rw [← HTT.out] at e2
 have x2 := hh1.frozen 2
 have x0 : w1.frozen? ⟨f.g, 0, none⟩ = false := frozen_row0 hg1
 have y0 : w1.cell? ⟨f.g, 0, none⟩ = some (.slice f.A f.p.length f.c) := by rw [cell_of_row w1 f.g _ _ _ _ hg1]; rfl
 have HH := Lib.hid hh1
 have HG := Lib.hid hg1
 have HDN := Lib.hid hD
 have HB := Lib.hid hB
 have HW := Lib.hid hwh
 clear hh1 hg1 hD hB hwh hdn hgn hdis
 go_wp2
 go_end0
 have hd := HD.out
 have hn4 := NE2.out
 have hB := HB.out
 have hwh := HW.out
 have hrow := HDN.out
 have hdg : f.g < w.heap.size := HF.out.lt _ (by simp [Fil.own])
 have hlenq : q.length = n := hq.1
 have hlen : (f.p ++ q).length = f.p.length + n := by rw [List.length_append, hlenq]
 have htot : total (l ++ f.grow A' c' q :: m) = tot + n := by
  rw [HTT.out, total_append, total_append]
  simp only [total, Fil.grow, hlen]
  omega
 have hA' : ∀ a', A' = some a' → a'.block ≠ d ∧ a'.block ≠ f.g := by
  intro a' ha'
  rcases hwh a' ha' with ⟨a, ha, e⟩ | h1
  ·have := hn4 a ha
   rw [e]
   exact ⟨this.1, this.2.2⟩
  ·have := hd.head.lt
   exact ⟨by omega, by omega⟩
 have hbes : Beside (d :: f.own) w ((w1.setCell ⟨f.g, 0, none⟩ (.slice A' (f.p.length + n) c')).setCell ⟨d, 2, none⟩ (.int .i64 ((tot : Int) + (n : Int)))) :=
  ((hB.wider (S1 := d :: f.own) (fun x hx => .inl (by simp only [Fil.own]; exact List.mem_cons_of_mem _ (List.mem_cons_of_mem _ hx)))).setCell (by simp [Fil.own]) _).setCell (by simp) _
 refine ⟨rfl, _, ⟨hd.turnFile (f' := f.grow A' c' q) hbes ?_ ⟨?_, ?_⟩ rfl rfl ?_ ?_ ?_, hbes.wider ?_, ?_⟩, put_there f (f.grow A' c' q) HS.out HS.out rfl rfl m l fun x hx => HL.out x (by simp [hx])⟩
 ·rw [htot]
  unfold HeadAt
  have hh := HH.out
  unfold HeadAt at hh
  rw [heapSame ((heapOther (Ne.symm n1)).trans hh)]
  simp
 ·refine (heapOther n1).trans ((heapSame HG.out).trans ?_)
  simp [Fil.grow, hlen]
 ·show ByteRow _ _ A' (f.p ++ q).length c' (f.p ++ q)
  rw [hlen]
  refine hrow.kept fun a' ha' => ?_
  rw [heapOther (hA' a' ha').1, heapOther (hA' a' ha').2]
 ·intro k hk
  simp only [Fil.own, Fil.grow, List.mem_cons, Option.mem_toList, Option.map_eq_some_iff] at hk
  rcases hk with rfl | ⟨a', ha', rfl⟩
  ·exact .inl (by simp [Fil.own])
  ·rcases hwh a' ha' with ⟨a, ha, e⟩ | h1
   ·exact .inl (by simp [Fil.own, ha, e])
   ·exact .inr h1
 ·cases hA2 : A' with
  | none => simp [Fil.own, Fil.grow]
  | some a' => simp [Fil.own, Fil.grow]; exact Ne.symm (hA' a' hA2).2
 ·have := hd.safe f (by simp)
  simp only [Fil.grow, hlen]
  omega
 ·intro x hx
  rcases List.mem_cons.1 hx with rfl | hx
  ·exact .inl (by simp [own])
  ·exact .inl (mem_own_split.2 (.inl hx))
 ·intro k hk
  rcases mem_own_split.1 hk with hk | hk
  ·simp only [Fil.own, Fil.grow, List.mem_cons, Option.mem_toList, Option.map_eq_some_iff] at hk
   rcases hk with rfl | ⟨a', ha', rfl⟩
   ·exact .inl (mem_own_split.2 (.inl (by simp [Fil.own])))
   ·rcases hwh a' ha' with ⟨a, ha, e⟩ | h1
    ·exact .inl (mem_own_split.2 (.inl (by simp [Fil.own, ha, e])))
    ·exact .inr h1
  ·exact .inl (mem_own_split.2 (.inr hk))
theorem write_new (d mb : Nat) (fs : List Fil) (h : Hd) (s : List UInt8) (S : Option Addr) (n c : Nat) (q : List UInt8) (w : World) (hd : DiskAt w d mb fs h) (hl : look s fs = none) (hs2 : s.length ≤ 100000)
  (ht : total fs ≤ 1000000000000) (hfs : fs.length < 1000000000000) (hn : n ≤ 1000000000000) (hq : Sees w S n q) :
  Calls Tryz.prog 324 #[.pointer (some ⟨d, 0, none⟩), .string ⟨s.toArray⟩, .slice S n c] w fun e w' => e = .returned (.tuple #[]) ∧ Makes d mb fs w (put s q (abs fs)) h w' := by
 obtain ⟨i, hi, hz, hsz, hby⟩ := info_parts infoU8
 obtain ⟨c0, _, c2, _⟩ := hd.head.cells
 have f2 := hd.head.frozen 2
 have hlk := hd.map.run_look hs2
 rw [hl, show at_ none = none from rfl] at hlk
 have hap := hd.apart
 unfold own at hap
 rw [List.nodup_cons] at hap
 have hdm : d ≠ mb := fun e => hap.1 (by simp [e])
 have hdlt := hd.head.lt
 have hmlt := hd.map.lt
 obtain ⟨w2, hst, hmap2, hturn⟩ := (hd.map.kept (w' := w.alloc (.cells #[.slice none 0 0, .int .i64 0] 190)) (Below.heap_alloc _ _ _ hmlt)).run_store (f := ⟨s, w.heap.size, none, 0, [], 0⟩) hl hs2 hfs
 have hg2 := hturn.grown
 have hh2 : HeadAt w2 d mb (total fs) h := (hg2.block d (by simp; omega) (by simpa using hdm)).trans ((Below.heap_alloc _ _ _ hdlt).trans hd.head)
 have hf2 : w2.heap[w.heap.size]? = some (.cells #[.slice none 0 0, .int .i64 0] 190 (0, 0)) := (hg2.block _ (by simp) (by simp; omega)).trans (heap_alloc_new w _)
 have hb2 : Beside [mb] w w2 := ((Beside.refl [mb] w).alloc _).grown hg2 (fun k hk => by cases hk; exact .inl (by simp))
 have hq2 : Sees w2 S n q := by
  refine ⟨hq.1, fun hn0 => ?_⟩
  obtain ⟨b, o, hA, hc⟩ := hq.2 hn0
  refine ⟨b, o, hA, fun j u hu => ?_⟩
  have hcj := hc j u hu
  have hne : b ≠ mb := by
   intro e
   obtain ⟨D, ⟨es, clock, hb, _⟩, _⟩ := hd.map
   rw [e] at hcj
   simp [World.cell?, hb] at hcj
  exact hb2.cell hcj (by simpa using hne)
 obtain ⟨a0, _, a2, _⟩ := hh2.cells
 have x2 := hh2.frozen 2
 have z0 : w2.cell? ⟨w.heap.size, 0, none⟩ = some (.slice none 0 0) := by rw [cell_of_row w2 _ _ _ _ _ hf2]; rfl
 have u0 : w2.frozen? ⟨w.heap.size, 0, none⟩ = false := frozen_row0 hf2
 have HD := Lib.hid hd
 have HL := Lib.hid hl
 have HM := Lib.hid hmap2
 have HH := Lib.hid hh2
 have HF := Lib.hid hf2
 have HB := Lib.hid hb2
 obtain ⟨tot, htt⟩ : ∃ tot, tot = total fs := ⟨_, rfl⟩
 rw [← htt] at c2 a2 ht
 have HTT := Lib.hid htt
 have hw2 : IntKind.i64.wrap ((tot : Int) + (n : Int)) = (tot : Int) + (n : Int) := IntWalk.i64_in _ (by omega)
 clear hd hl htt hturn hg2 hh2 hf2 hb2 hmap2 hq hap
 go_enter Tryz.func324, Tryz.ntmps324
 go_wp2_with (first | (at_builtin; refine wpList_data rfl _ _ 28 rfl 5 i (.int .u8 0) Tryz.underlying28 hi hz hsz hby rfl none 0 0 [] rfl (ByteRow.nil _ _) S n c q rfl hq2 ?c1 ?_))
 case c1 => omega
 intro A' c' w3 hD hB hwh
 have hsz2 := HB.out.size
 have hsz3 := hB.size
 have hlt2 : w.heap.size < w2.heap.size := (Array.getElem?_eq_some_iff.1 HF.out).1
 have hh3 : HeadAt w3 d mb (total fs) h := (hB.block d (by omega) (by simp)).trans HH.out
 have hf3 := (hB.block w.heap.size hlt2 (by simp)).trans HF.out
 obtain ⟨_, _, e2, _⟩ := hh3.cells
 rw [← HTT.out] at e2
 have y2 := hh3.frozen 2
 have y0 : w3.frozen? ⟨w.heap.size, 0, none⟩ = false := frozen_row0 hf3
 have y1 : w3.cell? ⟨w.heap.size, 0, none⟩ = some (.slice none 0 0) := by rw [cell_of_row w3 _ _ _ _ _ hf3]; rfl
 have H3 := Lib.hid hh3
 have F3 := Lib.hid hf3
 have R3 := Lib.hid hD
 have B3 := Lib.hid hB
 have W3 := Lib.hid hwh
 have hnd : w.heap.size ≠ d := by omega
 have hq2' := hq2
 clear hh3 hf3 hD hB hwh hq2
 go_wp2
 go_end0
 have hd := HD.out
 have hB := B3.out
 have hwh := W3.out
 have hrow := R3.out
 have hlenq : q.length = n := hq2'.1
 have hA' : ∀ a', A' = some a' → w2.heap.size ≤ a'.block := by
  intro a' ha'
  have h1 := hwh a' ha'
  simpa using h1
 have htot : total (fs ++ [⟨s, w.heap.size, A', c', q, 0⟩]) = tot + n := by
  rw [HTT.out, total_append]
  simp only [total, hlenq]
  omega
 have hbes : Beside [d, mb] w ((w3.setCell ⟨w.heap.size, 0, none⟩ (.slice A' n c')).setCell ⟨d, 2, none⟩ (.int .i64 ((tot : Int) + (n : Int)))) :=
  (((HB.out.wider (S1 := [d, mb]) (fun x hx => .inl (by simp at hx; simp [hx]))).trans hB (fun x hx => by cases hx)).setNew (by simp) _).setCell (by simp) _
 have hmb3 : ((w3.setCell ⟨w.heap.size, 0, none⟩ (.slice A' n c')).setCell ⟨d, 2, none⟩ (.int .i64 ((tot : Int) + (n : Int)))).heap[mb]? = w2.heap[mb]? := by
  rw [heapOther (Ne.symm hdm), heapOther (by omega)]
  exact hB.block mb HM.out.lt (by simp)
 refine ⟨rfl, _, ⟨hd.more (f := ⟨s, w.heap.size, A', c', q, 0⟩) hbes ?_ ((HM.out.kept hmb3).swap (l := fs) (m := []) rfl rfl) ⟨?_, ?_⟩ HL.out ?_ ?_ (Nat.zero_le _), hbes.wider ?_, ?_⟩, put_new ⟨s, w.heap.size, A', c', q, 0⟩ rfl rfl rfl fs (look_none.1 HL.out)⟩
 ·rw [htot]
  unfold HeadAt
  have hh := H3.out
  unfold HeadAt at hh
  rw [heapSame ((heapOther (Ne.symm hnd)).trans hh)]
  simp
 ·refine (heapOther hnd).trans ((heapSame F3.out).trans ?_)
  simp [hlenq]
 ·show ByteRow _ _ A' q.length c' q
  rw [hlenq]
  have hrow' : ByteRow 5 w3 A' n c' q := by simpa using hrow
  refine hrow'.kept fun a' ha' => ?_
  have := hA' a' ha'
  rw [heapOther (by omega), heapOther (by omega)]
 ·intro k hk
  simp only [Fil.own, List.mem_cons, Option.mem_toList, Option.map_eq_some_iff] at hk
  rcases hk with rfl | ⟨a', ha', rfl⟩
  ·exact Nat.le_refl _
  ·have := hA' a' ha'
   omega
 ·cases hA2 : A' with
  | none => simp [Fil.own]
  | some a' => simp [Fil.own]; have := hA' a' hA2; omega
 ·intro x hx
  simp at hx
  rcases hx with rfl | rfl <;> exact .inl (by simp [own])
 ·intro k hk
  rcases mem_own_split.1 hk with hk | hk
  ·simp only [Fil.own, List.mem_cons, Option.mem_toList, Option.map_eq_some_iff] at hk
   rcases hk with rfl | ⟨a', ha', rfl⟩
   ·exact .inr (Nat.le_refl _)
   ·have := hA' a' ha'
    exact .inr (by omega)
  ·exact .inl (by simpa using hk)
theorem write_any (d mb : Nat) (fs : List Fil) (h : Hd) (s : List UInt8) (S : Option Addr) (n c : Nat) (q : List UInt8) (w : World) (hd : DiskAt w d mb fs h) (hs2 : s.length ≤ 100000)
  (ht : total fs ≤ 1000000000000) (hfs : fs.length < 1000000000000) (hn : n ≤ 1000000000000) (hq : Sees w S n q) :
  Calls Tryz.prog 324 #[.pointer (some ⟨d, 0, none⟩), .string ⟨s.toArray⟩, .slice S n c] w fun e w' => e = .returned (.tuple #[]) ∧ Makes d mb fs w (put s q (abs fs)) h w' := by
 cases hl : look s fs with
 | none => exact write_new d mb fs h s S n c q w hd hl hs2 ht hfs hn hq
 | some f =>
   obtain ⟨l, m, rfl, h1, h2⟩ := look_split hl hd.names
   exact write_old d mb l f m h s S n c q w hd h1 h2 hs2 ht hn hq
end Go.Proofs.YtinjbdgjcadodaaGreatDoor.Dsk
