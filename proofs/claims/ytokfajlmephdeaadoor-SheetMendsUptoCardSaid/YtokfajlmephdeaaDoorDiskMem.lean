/- A disk in memory: its struct, the map of its files by their names, each file's struct and bytes. No condition: words and lemmas. -/
import Derived.Test.YtokfajlmephdeaaDoorRows
import Derived.Test.YtokfajlmephdeaaDoorWords
import Derived.Test.YtokfajlmephdeaaDoorBeside
import Derived.Maps.OwnSet
import Derived.Maps.RangeWalk
import Derived.Handy
import Derived.Lib.Hide
namespace Go.Proofs.YtokfajlmephdeaaDoor.Dsk
open Go Go.RowKit Go.Proofs.YtokfajlmephdeaaDoor.Words
set_option linter.unusedVariables false

/-- How a pointer in a map reads: as itself. -/
def ptrElem : Value → Option (DataW (Option Addr) × List MemPlace)
  | .pointer a => some (.held a, [])
  | _ => none
theorem ptrElem_mk (a : Option Addr) : ptrElem (.pointer a) = some (.held a, []) := rfl
theorem ptrElem_inv {v : Value} {z : DataW (Option Addr) × List MemPlace} (h : ptrElem v = some z) : ∃ a, v = .pointer a ∧ z = (.held a, []) := by
  cases v <;> simp [ptrElem] at h
  exact ⟨_, rfl, h.symm⟩

/-- A file: its name, its block, where its bytes lie, how many are safe. -/
structure Fil where
  name : List UInt8
  g : Nat
  A : Option Addr
  c : Nat
  p : List UInt8
  safe : Nat
def Fil.own (f : Fil) : List Nat := f.g :: (f.A.map (·.block)).toList
def total : List Fil → Nat
  | [] => 0
  | f :: r => f.p.length + total r
theorem total_append (l m : List Fil) : total (l ++ m) = total l + total m := by
  induction l with
  | nil => simp [total]
  | cons f r ih => simp only [List.cons_append, total, ih]; omega
def look (s : List UInt8) (fs : List Fil) : Option Fil := fs.find? fun f => decide (f.name = s)
def at_ (o : Option Fil) : Option Addr := o.map fun f => ⟨f.g, 0, none⟩
theorem look_none {s : List UInt8} {fs : List Fil} : look s fs = none ↔ ∀ f ∈ fs, f.name ≠ s := by simp [look]
theorem look_mem {s : List UInt8} {fs : List Fil} {f : Fil} (h : look s fs = some f) : f ∈ fs ∧ f.name = s := by
  have h1 := List.find?_some h
  exact ⟨List.mem_of_find?_eq_some h, by simpa using h1⟩
theorem look_append (s : List UInt8) (l m : List Fil) : look s (l ++ m) = (look s l).or (look s m) := by simp [look, List.find?_append]
/-- The file of a name: what stands ahead of it and behind it bears other names. -/
theorem look_split {s : List UInt8} {fs : List Fil} {f : Fil} (h : look s fs = some f) (hn : (fs.map (·.name)).Nodup) :
    ∃ l m, fs = l ++ f :: m ∧ f.name = s ∧ (∀ x ∈ l ++ m, x.name ≠ s) := by
  obtain ⟨hm, hs⟩ := look_mem h
  obtain ⟨l, m, rfl⟩ := List.append_of_mem hm
  refine ⟨l, m, rfl, hs, fun x hx e => ?_⟩
  rw [List.map_append, List.map_cons, (List.perm_middle).nodup_iff, List.nodup_cons, ← List.map_append] at hn
  exact hn.1 (by rw [hs, ← e]; exact List.mem_map.2 ⟨x, hx, rfl⟩)

/-- The map shows the files. -/
def Shows (D : DataW (Option Addr)) (fs : List Fil) : Prop :=
  (∀ s, D.atKey (.string s) (.held none) = .held (at_ (look s fs))) ∧ (∀ s, Maps.has D (.string s) = (look s fs).isSome) ∧ Maps.size D = fs.length
def MapAt (w : World) (mb : Nat) (fs : List Fil) : Prop := ∃ D, w.ownsMap Tryd.prog 9 ptrElem mb fs.length D ∧ Shows D fs
/-- A disk's struct. -/
structure Hd where
  room : Int
  acts : Nat
  left : Int
  torn : Int
  off : Bool
def HeadAt (w : World) (d mb u : Nat) (h : Hd) : Prop :=
  w.heap[d]? = some (.cells #[.map (some mb), .int .i64 h.room, .int .i64 (u : Int), .int .i64 (h.acts : Int), .int .i64 h.left, .int .i64 h.torn, .bool h.off] 57 (0, 0))
def FilAt (w : World) (f : Fil) : Prop :=
  w.heap[f.g]? = some (.cells #[.slice f.A f.p.length f.c, .int .i64 (f.safe : Int)] 63 (0, 0)) ∧ ByteRow 5 w f.A f.p.length f.c f.p
def own (d mb : Nat) (fs : List Fil) : List Nat := d :: mb :: fs.flatMap Fil.own

/-- A disk at block d, its map at block mb, with these files. -/
structure DiskAt (w : World) (d mb : Nat) (fs : List Fil) (h : Hd) : Prop where
  head : HeadAt w d mb (total fs) h
  map : MapAt w mb fs
  files : ∀ f ∈ fs, FilAt w f
  apart : (own d mb fs).Nodup
  names : (fs.map (·.name)).Nodup
  safe : ∀ f ∈ fs, f.safe ≤ f.p.length

theorem HeadAt.cells {w : World} {d mb u : Nat} {h : Hd} (hh : HeadAt w d mb u h) :
    w.cell? ⟨d, 0, none⟩ = some (.map (some mb)) ∧ w.cell? ⟨d, 1, none⟩ = some (.int .i64 h.room) ∧ w.cell? ⟨d, 2, none⟩ = some (.int .i64 (u : Int)) ∧ w.cell? ⟨d, 3, none⟩ = some (.int .i64 (h.acts : Int)) ∧
    w.cell? ⟨d, 4, none⟩ = some (.int .i64 h.left) ∧ w.cell? ⟨d, 5, none⟩ = some (.int .i64 h.torn) ∧ w.cell? ⟨d, 6, none⟩ = some (.bool h.off) := by
  unfold HeadAt at hh
  refine ⟨?_, ?_, ?_, ?_, ?_, ?_, ?_⟩ <;> (rw [cell_of_row w d _ _ _ _ hh]; rfl)
theorem HeadAt.frozen {w : World} {d mb u : Nat} {h : Hd} (hh : HeadAt w d mb u h) (i : Nat) : w.frozen? ⟨d, i, none⟩ = false := frozen_row0 hh
theorem HeadAt.lt {w : World} {d mb u : Nat} {h : Hd} (hh : HeadAt w d mb u h) : d < w.heap.size := (Array.getElem?_eq_some_iff.1 hh).1
theorem FilAt.cells {w : World} {f : Fil} (hf : FilAt w f) : w.cell? ⟨f.g, 0, none⟩ = some (.slice f.A f.p.length f.c) ∧ w.cell? ⟨f.g, 1, none⟩ = some (.int .i64 (f.safe : Int)) := by
  refine ⟨?_, ?_⟩ <;> (rw [cell_of_row w f.g _ _ _ _ hf.1]; rfl)
theorem FilAt.frozen {w : World} {f : Fil} (hf : FilAt w f) (i : Nat) : w.frozen? ⟨f.g, i, none⟩ = false := frozen_row0 hf.1
theorem FilAt.lt {w : World} {f : Fil} (hf : FilAt w f) : ∀ k ∈ f.own, k < w.heap.size := by
  intro k hk
  rcases List.mem_cons.1 hk with rfl | hk
  · exact (Array.getElem?_eq_some_iff.1 hf.1).1
  · simp only [Option.mem_toList, Option.map_eq_some_iff] at hk
    obtain ⟨a, ha, rfl⟩ := hk
    exact hf.2.lt a ha
theorem FilAt.kept {w w' : World} {f : Fil} (hf : FilAt w f) (hk : ∀ k ∈ f.own, w'.heap[k]? = w.heap[k]?) : FilAt w' f :=
  ⟨(hk _ (by simp [Fil.own])).trans hf.1, hf.2.kept fun a ha => hk _ (by simp [Fil.own, ha])⟩
theorem MapAt.lt {w : World} {mb : Nat} {fs : List Fil} (h : MapAt w mb fs) : mb < w.heap.size := by obtain ⟨D, h, _⟩ := h; exact h.lt
theorem MapAt.kept {w w' : World} {mb : Nat} {fs : List Fil} (h : MapAt w mb fs) (hk : w'.heap[mb]? = w.heap[mb]?) : MapAt w' mb fs := by
  obtain ⟨D, ⟨es, clock, hb, r⟩, hs⟩ := h
  exact ⟨D, ⟨es, clock, hk.trans hb, r⟩, hs⟩

theorem DiskAt.lt {w : World} {d mb : Nat} {fs : List Fil} {h : Hd} (hd : DiskAt w d mb fs h) : ∀ k ∈ own d mb fs, k < w.heap.size := by
  intro k hk
  unfold own at hk
  rcases List.mem_cons.1 hk with rfl | hk
  · exact hd.head.lt
  · rcases List.mem_cons.1 hk with rfl | hk
    · exact hd.map.lt
    · obtain ⟨f, hf, hkf⟩ := List.mem_flatMap.1 hk
      exact (hd.files f hf).lt k hkf
/-- While nothing of it turns. -/
theorem DiskAt.kept {w w' : World} {d mb : Nat} {fs : List Fil} {h : Hd} (hd : DiskAt w d mb fs h) (hk : ∀ k ∈ own d mb fs, w'.heap[k]? = w.heap[k]?) : DiskAt w' d mb fs h :=
  ⟨(hk _ (by simp [own])).trans hd.head, hd.map.kept (hk _ (by simp [own])), fun f hf => (hd.files f hf).kept fun k hkf => hk k (by unfold own; exact List.mem_cons_of_mem _ (List.mem_cons_of_mem _ (List.mem_flatMap.2 ⟨f, hf, hkf⟩))), hd.apart, hd.names, hd.safe⟩
theorem DiskAt.beside {w w' : World} {d mb : Nat} {fs : List Fil} {h : Hd} {S : List Nat} (hd : DiskAt w d mb fs h) (hb : Beside S w w') (hS : ∀ x ∈ S, x ∉ own d mb fs) : DiskAt w' d mb fs h :=
  hd.kept fun k hk => hb.block k (hd.lt k hk) fun hm => hS k hm hk
theorem DiskAt.below {w w' : World} {d mb : Nat} {fs : List Fil} {h : Hd} (hd : DiskAt w d mb fs h) (hb : Below w.heap.size w w') : DiskAt w' d mb fs h := hd.kept fun k hk => hb.block k (hd.lt k hk)

theorem own_split (d mb : Nat) (l : List Fil) (f : Fil) (m : List Fil) : (own d mb (l ++ f :: m)).Perm (f.own ++ own d mb (l ++ m)) := by
  unfold own
  rw [List.flatMap_append, List.flatMap_cons, List.flatMap_append]
  have h1 : (List.flatMap Fil.own l ++ (f.own ++ List.flatMap Fil.own m)).Perm (f.own ++ (List.flatMap Fil.own l ++ List.flatMap Fil.own m)) := by
    rw [← List.append_assoc, ← List.append_assoc]
    exact List.Perm.append_right _ List.perm_append_comm
  refine ((h1.cons mb).cons d).trans ?_
  have h2 : ((d :: mb :: []) ++ (f.own ++ (List.flatMap Fil.own l ++ List.flatMap Fil.own m))).Perm (f.own ++ ((d :: mb :: []) ++ (List.flatMap Fil.own l ++ List.flatMap Fil.own m))) := by
    refine (List.perm_append_comm_assoc _ _ _).trans ?_
    exact List.Perm.refl _
  simpa using h2
theorem mem_own_split {d mb : Nat} {l : List Fil} {f : Fil} {m : List Fil} {k : Nat} : k ∈ own d mb (l ++ f :: m) ↔ k ∈ f.own ∨ k ∈ own d mb (l ++ m) := by
  rw [(own_split d mb l f m).mem_iff, List.mem_append]
theorem own_self {d mb : Nat} {l : List Fil} {f : Fil} {m : List Fil} (h : (own d mb (l ++ f :: m)).Nodup) : f.own.Nodup ∧ (own d mb (l ++ m)).Nodup ∧ ∀ k ∈ f.own, k ∉ own d mb (l ++ m) := by
  rw [(own_split d mb l f m).nodup_iff, List.nodup_append] at h
  exact ⟨h.1, h.2.1, fun k hk hm => h.2.2 k hk k hm rfl⟩
theorem own_sub {d mb : Nat} {fs : List Fil} {f : Fil} (hf : f ∈ fs) : ∀ k ∈ f.own, k ∈ own d mb fs := fun k hk => by
  unfold own
  exact List.mem_cons_of_mem _ (List.mem_cons_of_mem _ (List.mem_flatMap.2 ⟨f, hf, hk⟩))

/-- The map shows the files as well where one of them has other bytes. -/
theorem at_swap {l m : List Fil} {f f' : Fil} (hn : f'.name = f.name) (hg : f'.g = f.g) (s : List UInt8) : at_ (look s (l ++ f' :: m)) = at_ (look s (l ++ f :: m)) ∧ (look s (l ++ f' :: m)).isSome = (look s (l ++ f :: m)).isSome := by
  rw [look_append, look_append]
  cases hl : look s l with
  | some x => simp [at_]
  | none =>
    by_cases hs : f.name = s
    · have h1 : look s (f' :: m) = some f' := by simp [look, hn, hs]
      have h2 : look s (f :: m) = some f := by simp [look, hs]
      rw [h1, h2]
      simp [at_, hg]
    · have h1 : look s (f' :: m) = look s m := by simp [look, hn, hs]
      have h2 : look s (f :: m) = look s m := by simp [look, hs]
      rw [h1, h2]
      simp
theorem MapAt.swap {w : World} {mb : Nat} {l m : List Fil} {f f' : Fil} (h : MapAt w mb (l ++ f :: m)) (hn : f'.name = f.name) (hg : f'.g = f.g) : MapAt w mb (l ++ f' :: m) := by
  obtain ⟨D, ho, h1, h2, h3⟩ := h
  refine ⟨D, by simpa using ho, fun s => ?_, fun s => ?_, by simpa using h3⟩
  · rw [h1, (at_swap (l := l) (m := m) hn hg s).1]
  · rw [h2, (at_swap (l := l) (m := m) hn hg s).2]

/-- ONLY THE STRUCT HAS TURNED. -/
theorem DiskAt.turnHead {w w' : World} {d mb : Nat} {fs : List Fil} {h h' : Hd} (hd : DiskAt w d mb fs h) (hb : Beside [d] w w') (hh : HeadAt w' d mb (total fs) h') : DiskAt w' d mb fs h' := by
  have ha := hd.apart
  unfold own at ha
  rw [List.nodup_cons] at ha
  have hk : ∀ k ∈ own d mb fs, k ≠ d → w'.heap[k]? = w.heap[k]? := fun k hk hne => hb.block k (hd.lt k hk) (by simpa using hne)
  have hmb : mb ≠ d := fun e => ha.1 (by simp [e])
  exact ⟨hh, hd.map.kept (hk _ (by simp [own]) hmb), fun f hf => (hd.files f hf).kept fun k hkf => hk k (own_sub hf k hkf) (fun e => ha.1 (e ▸ List.mem_cons_of_mem _ (List.mem_flatMap.2 ⟨f, hf, hkf⟩))), hd.apart, hd.names, hd.safe⟩
/-- ONE FILE HAS TURNED, and the struct. -/
theorem DiskAt.turnFile {w w' : World} {d mb : Nat} {l m : List Fil} {f f' : Fil} {h h' : Hd} (hd : DiskAt w d mb (l ++ f :: m) h) (hb : Beside (d :: f.own) w w') (hh : HeadAt w' d mb (total (l ++ f' :: m)) h')
    (hf : FilAt w' f') (hn : f'.name = f.name) (hg : f'.g = f.g) (ho : ∀ k ∈ f'.own, k ∈ f.own ∨ w.heap.size ≤ k) (hnd : f'.own.Nodup) (hs : f'.safe ≤ f'.p.length) : DiskAt w' d mb (l ++ f' :: m) h' := by
  obtain ⟨a1, a2, a3⟩ := own_self hd.apart
  have a4 : d ∉ mb :: (l ++ m).flatMap Fil.own := by
    unfold own at a2
    exact (List.nodup_cons.1 a2).1
  have hk : ∀ k ∈ mb :: (l ++ m).flatMap Fil.own, w'.heap[k]? = w.heap[k]? := fun k hk => by
    have hm : k ∈ own d mb (l ++ m) := by unfold own; exact List.mem_cons_of_mem _ hk
    refine hb.block k (hd.lt k (mem_own_split.2 (.inr hm))) fun hx => ?_
    rcases List.mem_cons.1 hx with rfl | hx
    · exact a4 hk
    · exact a3 k hx hm
  refine ⟨hh, (hd.map.kept (hk _ (by simp))).swap hn hg, fun x hx => ?_, ?_, ?_, fun x hx => ?_⟩
  · have hx' : x = f' ∨ x ∈ l ++ m := by simp at hx ⊢; rcases hx with h1 | h1 | h1 <;> simp [h1]
    rcases hx' with rfl | hx'
    · exact hf
    · refine (hd.files x (by simp at hx' ⊢; rcases hx' with h1 | h1 <;> simp [h1])).kept fun k hkx => hk k (List.mem_cons_of_mem _ (List.mem_flatMap.2 ⟨x, hx', hkx⟩))
  · rw [(own_split d mb l f' m).nodup_iff, List.nodup_append]
    refine ⟨hnd, a2, fun k hk1 j hj e => ?_⟩
    subst e
    rcases ho k hk1 with h1 | h1
    · exact a3 k h1 hj
    · have := hd.lt k (mem_own_split.2 (.inr hj))
      omega
  · have := hd.names
    simpa [hn] using this
  · have hx' : x = f' ∨ x ∈ l ++ m := by simp at hx ⊢; rcases hx with h1 | h1 | h1 <;> simp [h1]
    rcases hx' with rfl | hx'
    · exact hs
    · exact hd.safe x (by simp at hx' ⊢; rcases hx' with h1 | h1 <;> simp [h1])
/-- ONE FILE MORE, all new. -/
theorem DiskAt.more {w w' : World} {d mb : Nat} {fs : List Fil} {f : Fil} {h h' : Hd} (hd : DiskAt w d mb fs h) (hb : Beside [d, mb] w w') (hh : HeadAt w' d mb (total (fs ++ [f])) h') (hm : MapAt w' mb (fs ++ [f]))
    (hf : FilAt w' f) (hl : look f.name fs = none) (ho : ∀ k ∈ f.own, w.heap.size ≤ k) (hnd : f.own.Nodup) (hs : f.safe ≤ f.p.length) : DiskAt w' d mb (fs ++ [f]) h' := by
  have ha := hd.apart
  unfold own at ha
  rw [List.nodup_cons, List.nodup_cons] at ha
  refine ⟨hh, hm, fun x hx => ?_, ?_, ?_, fun x hx => ?_⟩
  · rcases List.mem_append.1 hx with hx | hx
    · refine (hd.files x hx).kept fun k hkx => hb.block k ((hd.files x hx).lt k hkx) fun hc => ?_
      have hk : k ∈ fs.flatMap Fil.own := List.mem_flatMap.2 ⟨x, hx, hkx⟩
      simp at hc
      rcases hc with rfl | rfl
      · exact ha.1 (List.mem_cons_of_mem _ hk)
      · exact ha.2.1 hk
    · obtain rfl : x = f := by simpa using hx
      exact hf
  · have := own_split d mb fs f []
    rw [this.nodup_iff, List.nodup_append, List.append_nil]
    refine ⟨hnd, hd.apart, fun k hk1 j hj e => ?_⟩
    subst e
    have h1 := ho k hk1
    have h2 := hd.lt k hj
    omega
  · rw [List.map_append, List.nodup_append]
    refine ⟨hd.names, by simp, fun a ha' b hb' e => ?_⟩
    obtain ⟨x, hx, rfl⟩ := List.mem_map.1 ha'
    simp at hb'
    subst hb'
    exact look_none.1 hl x hx e
  · rcases List.mem_append.1 hx with hx | hx
    · exact hd.safe x hx
    · obtain rfl : x = f := by simpa using hx
      exact hs

/-! ### the map's operations -/
theorem keyStr : Maps.Keyed Tryd.prog 9 := Maps.string_keyed Tryd.underlying9
theorem key_mk {s : List UInt8} (hs : s.length ≤ 100000) : keyOf Tryd.prog 9 (.string ⟨s.toArray⟩) = some (.string s) := by
  have h := WideMaps.keyOf_string_mk (P := Tryd.prog) (k := 9) Tryd.underlying9 (s := ⟨s.toArray⟩) (by unfold maxLen; show s.toArray.size ≤ _; simp; omega)
  simpa using h
theorem zeroPtr (w : World) : (zeroValue 61).run Tryd.prog w = .ok (.pointer none) w := by kernel_rfl
/-- 'm[name]'. -/
theorem MapAt.run_look {w : World} {mb : Nat} {fs : List Fil} (h : MapAt w mb fs) {s : List UInt8} (hs : s.length ≤ 100000) :
    (Instr.lookup 55 (.map (some mb)) (.string ⟨s.toArray⟩) false).run Tryd.prog w = .ok (.pointer (at_ (look s fs))) w := by
  obtain ⟨D, ho, h1, _⟩ := h
  obtain ⟨v, ps, hr, hv⟩ := ho.lookup keyStr Tryd.underlying55 (zeroPtr w) (ptrElem_mk none) (key_mk hs)
  obtain ⟨a, rfl, he⟩ := ptrElem_inv hv
  rw [h1] at he
  simp only [Prod.mk.injEq, DataW.held.injEq] at he
  rw [hr, he.1]
/-- 'm[name] = f', of a name that isn't there. -/
theorem MapAt.run_store {w : World} {mb : Nat} {fs : List Fil} (h : MapAt w mb fs) {f : Fil} (hl : look f.name fs = none) (hs : f.name.length ≤ 100000) (hn : fs.length < 1000000000000) :
    ∃ w', (Instr.mapUpdate 55 (.map (some mb)) (.string ⟨f.name.toArray⟩) (.pointer (some ⟨f.g, 0, none⟩))).run Tryd.prog w = .ok () w' ∧ MapAt w' mb (fs ++ [f]) ∧ w.mapTurned w' mb := by
  obtain ⟨D, ho, h1, h2, h3⟩ := h
  obtain ⟨w', hr, ho', ht⟩ := ho.store keyStr Tryd.underlying55 (by unfold maxLen; omega) (key_mk hs) (ptrElem_mk (some ⟨f.g, 0, none⟩))
  refine ⟨w', hr, ⟨_, by simpa using ho', fun s => ?_, fun s => ?_, ?_⟩, ht⟩
  · rw [look_append]
    by_cases e : s = f.name
    · subst e
      rw [Maps.atKey_put_same ho.isMap (keyStr.key (key_mk hs)), hl]
      simp [look, at_]
    · rw [Maps.atKey_put_other (by intro h; injection h with h; exact e h), h1]
      have : look s [f] = none := by simp [look, Ne.symm e]
      rw [this]
      simp
  · rw [look_append]
    by_cases e : s = f.name
    · subst e
      rw [Maps.has_put_same ho.isMap (keyStr.key (key_mk hs)), hl]
      simp [look]
    · rw [Maps.has_put_other (by intro h; injection h with h; exact e h), h2]
      have : look s [f] = none := by simp [look, Ne.symm e]
      rw [this]
      simp
  · rw [Maps.size_put (ho.tidy keyStr), h2, hl, h3]
    simp
/-- A map that was just made. -/
theorem mapAt_made (w : World) : MapAt (w.alloc (.map #[] 0)) w.heap.size [] :=
  ⟨_, World.ownsMap_made w Tryd.prog 9 ptrElem, fun s => rfl, fun s => rfl, rfl⟩
end Go.Proofs.YtokfajlmephdeaaDoor.Dsk
