/- feed: a feed in memory; its end, its next number. -/
import Derived.Test.YtkphklmgbdljiaaGreatDoorFdNil
import Derived.Test.YtkphklmgbdljiaaGreatDoorBSegOpen
import Derived.Test.YtkphklmgbdljiaaGreatDoorBPlain
import Derived.StillTailTactics
import Derived.Deep.RegionWith
import Derived.Deep.RegionHeld3
import Derived.BigQuiet
namespace Go.Proofs.YtkphklmgbdljiaaGreatDoor.Fd
open Go Go.RowKit Go.Proofs.YtkphklmgbdljiaaGreatDoor.Words Go.Proofs.YtkphklmgbdljiaaGreatDoor.Enc Go.Proofs.YtkphklmgbdljiaaGreatDoor.Evt Go.Proofs.YtkphklmgbdljiaaGreatDoor.Made Go.Proofs.YtkphklmgbdljiaaGreatDoor.Dsk Go.Proofs.YtkphklmgbdljiaaGreatDoor.Sht Go.Proofs.YtkphklmgbdljiaaGreatDoor.Seg
set_option linter.unusedVariables false
set_option linter.unusedSimpArgs false

/-- A part of a feed: its first number, its events, how many bytes of its file are safe. -/
structure Part where
  u : Nat
  L : List Ev
  N : Nat
def Part.z (x : Nat) (p : Part) : Nat := (headL 115 x p.u).length + (wraps (p.L.map evL)).length
def Part.file (x : Nat) (p : Part) : File := ⟨nameL (x : Int) p.u, headL 115 x p.u ++ wraps (p.L.map evL), p.N⟩
/-- A part as it lies in the row. -/
structure SegS where
  p : Part
  A : Option Addr
def SegS.cells (x : Nat) (r : SegS) : List Value := [.int .i64 (x : Int), .int .u64 (r.p.u : Int), .slice r.A r.p.L.length r.p.L.length, .int .i64 (r.p.z x : Int)]
def SegS.val (x : Nat) (r : SegS) : Value := segV (x : Int) r.p.u r.A r.p.L.length r.p.L.length (r.p.z x)
def rowsS (x : Nat) : List SegS → List Value
  | [] => []
  | r :: S => r.cells x ++ rowsS x S
theorem rowsS_len (x : Nat) : ∀ S : List SegS, (rowsS x S).length = S.length * 4
  | [] => by simp [rowsS]
  | r :: S => by simp [rowsS, SegS.cells, rowsS_len x S]; omega
theorem rowsS_append (x : Nat) : ∀ S T : List SegS, rowsS x (S ++ T) = rowsS x S ++ rowsS x T
  | [], T => rfl
  | r :: S, T => by simp [rowsS, rowsS_append x S T]
theorem rowsS_one (x : Nat) : ∀ S : List SegS, ∀ u ∈ rowsS x S, u.oneCell' = true
  | [], u, h => by cases h
  | r :: S, u, h => by
    rcases List.mem_append.1 h with h | h
    · simp [SegS.cells] at h
      rcases h with rfl | rfl | rfl | rfl <;> rfl
    · exact rowsS_one x S u h
theorem rowsS_get (x : Nat) : ∀ (S : List SegS) (j k : Nat) (r : SegS), S[j]? = some r → k < 4 → (rowsS x S)[j * 4 + k]? = (r.cells x)[k]?
  | [], j, k, r, h, hk => by simp at h
  | s :: S, 0, k, r, h, hk => by
    simp at h
    subst h
    rw [rowsS, Nat.zero_mul, Nat.zero_add, List.getElem?_append_left (by simp [SegS.cells]; omega)]
  | s :: S, j + 1, k, r, h, hk => by
    rw [rowsS, List.getElem?_append_right (by simp [SegS.cells]; omega)]
    rw [show (j + 1) * 4 + k - (s.cells x).length = j * 4 + k by simp [SegS.cells]; omega]
    exact rowsS_get x S j k r (by simpa using h) hk
/-- The block of a row. -/
def blk (A : Option Addr) : List Nat := (A.map (·.block)).toList
/-- Blocks that the events of a feed lie outside of, besides its own. -/
structure XS where
  X : List Nat
def xsX [Inhabited XS] : List Nat := (default : XS).X
def bx [Inhabited XS] (f : Nat) (A : Option Addr) : List Nat := (f :: blk A) ++ xsX
theorem bx_in [Inhabited XS] {S : List Nat} {f : Nat} {A : Option Addr} {k : Nat} (h : k ∈ S ++ f :: blk A) : k ∈ S ++ bx f A := by
  rcases List.mem_append.1 h with h | h
  · exact List.mem_append.2 (.inl h)
  · exact List.mem_append.2 (.inr (List.mem_append.2 (.inl h)))
/-- A feed, its parts where they lie. -/
structure FeedAt [Inhabited XS] (w : World) (d f x : Nat) (sz : Int) (floor time : Nat) (R : List SegS) (safe : Nat) (A : Option Addr) (c : Nat) (S : List Nat) (h : Hd) : Prop where
  disk : Disk w d S (R.map fun r => r.p.file x) h
  box : w.heap[f]? = some (.cells (cells d (x : Int) sz floor time (.slice A R.length c) (safe : Int)) 60 (0, 0))
  row : w.ownsRow 0 65 4 (.slice A R.length c) R.length (rowsS x R)
  evs : ∀ r ∈ R, SeesEv (S ++ bx f A) w r.A r.p.L.length r.p.L
  fS : f ∉ S
  aS : ∀ g ∈ blk A, g ∉ S ∧ g ≠ f
  xl : ∀ k ∈ xsX, k < w.heap.size
/-- A feed with these parts; it owns the blocks O. -/
def Feed [Inhabited XS] (w : World) (d f x : Nat) (sz : Int) (floor time : Nat) (P : List Part) (safe : Nat) (O : List Nat) (h : Hd) : Prop :=
  ∃ R A c S, R.map SegS.p = P ∧ O = S ++ f :: blk A ∧ FeedAt w d f x sz floor time R safe A c S h
theorem own_blk {w : World} {base size : Nat} {e : TypeId} {A : Option Addr} {n c : Nat} {xs : List Value} (h : w.ownsRow base e size (.slice A n c) n xs) : ∀ g ∈ blk A, base ≤ g ∧ g < w.heap.size := by
  intro g hg
  rcases h.2 with ⟨hv, _⟩ | ⟨g', cap, cur, hv, hb, hh, _⟩
  · injection hv with h1
    subst h1
    simp [blk] at hg
  · injection hv with h1
    subst h1
    simp [blk] at hg
    subst hg
    exact ⟨hb, (Array.getElem?_eq_some_iff.1 hh).1⟩
theorem FeedAt.lt [Inhabited XS] {w : World} {d f x : Nat} {sz : Int} {floor time : Nat} {R : List SegS} {safe : Nat} {A : Option Addr} {c : Nat} {S : List Nat} {h : Hd} (F : FeedAt w d f x sz floor time R safe A c S h) : ∀ k ∈ S ++ f :: blk A, k < w.heap.size := by
  intro k hk
  rcases List.mem_append.1 hk with hk | hk
  · exact F.disk.lt k hk
  · rcases List.mem_cons.1 hk with rfl | hk
    · exact (Array.getElem?_eq_some_iff.1 F.box).1
    · exact (own_blk F.row k hk).2
theorem bx_lt [Inhabited XS] {w : World} {d f x : Nat} {sz : Int} {floor time : Nat} {R : List SegS} {safe : Nat} {A : Option Addr} {c : Nat} {S : List Nat} {h : Hd} (F : FeedAt w d f x sz floor time R safe A c S h) : ∀ k ∈ bx f A, k < w.heap.size := by
  intro k hk
  rcases List.mem_append.1 hk with hk | hk
  · exact F.lt k (List.mem_append.2 (.inr hk))
  · exact F.xl k hk
theorem own_kept {w w' : World} {base size : Nat} {e : TypeId} {A : Option Addr} {n c : Nat} {xs : List Value} (h : w.ownsRow base e size (.slice A n c) n xs) (hk : ∀ g ∈ blk A, w'.heap[g]? = w.heap[g]?) : w'.ownsRow base e size (.slice A n c) n xs := by
  refine ⟨h.1, ?_⟩
  rcases h.2 with hn | ⟨g', cap, cur, hv, hb, hh, r⟩
  · exact .inl hn
  · refine .inr ⟨g', cap, cur, hv, hb, ?_, r⟩
    injection hv with h1
    subst h1
    exact (hk g' (by simp [blk])).trans hh
theorem FeedAt.below [Inhabited XS] {w w' : World} {d f x : Nat} {sz : Int} {floor time : Nat} {R : List SegS} {safe : Nat} {A : Option Addr} {c : Nat} {S : List Nat} {h : Hd} (F : FeedAt w d f x sz floor time R safe A c S h) (hb : Below w.heap.size w w') : FeedAt w' d f x sz floor time R safe A c S h :=
  ⟨F.disk.below hb, (hb.block f (Array.getElem?_eq_some_iff.1 F.box).1).trans F.box, own_kept F.row fun g hg => hb.block g (own_blk F.row g hg).2, fun r hr => (F.evs r hr).below hb, F.fS, F.aS, fun k hk => Nat.lt_of_lt_of_le (F.xl k hk) hb.size⟩
theorem Feed.below [Inhabited XS] {w w' : World} {d f x : Nat} {sz : Int} {floor time : Nat} {P : List Part} {safe : Nat} {O : List Nat} {h : Hd} (F : Feed w d f x sz floor time P safe O h) (hb : Below w.heap.size w w') : Feed w' d f x sz floor time P safe O h := by
  obtain ⟨R, A, c, S, h1, h2, F⟩ := F
  exact ⟨R, A, c, S, h1, h2, F.below hb⟩
theorem Feed.lt [Inhabited XS] {w : World} {d f x : Nat} {sz : Int} {floor time : Nat} {P : List Part} {safe : Nat} {O : List Nat} {h : Hd} (F : Feed w d f x sz floor time P safe O h) : ∀ k ∈ O, k < w.heap.size := by
  obtain ⟨R, A, c, S, h1, rfl, F⟩ := F
  exact F.lt
/-- The box's cells. -/
theorem FeedAt.cells [Inhabited XS] {w : World} {d f x : Nat} {sz : Int} {floor time : Nat} {R : List SegS} {safe : Nat} {A : Option Addr} {c : Nat} {S : List Nat} {h : Hd} (F : FeedAt w d f x sz floor time R safe A c S h) :
    w.cell? ⟨f, 0, none⟩ = some (.pointer (some ⟨d, 0, none⟩)) ∧ w.cell? ⟨f, 1, none⟩ = some (.int .i64 (x : Int)) ∧ w.cell? ⟨f, 2, none⟩ = some (.int .i64 sz) ∧ w.cell? ⟨f, 3, none⟩ = some (.int .u64 (floor : Int)) ∧ w.cell? ⟨f, 4, none⟩ = some (.int .u64 (time : Int)) ∧ w.cell? ⟨f, 5, none⟩ = some (.slice A R.length c) ∧ w.cell? ⟨f, 6, none⟩ = some (.int .i64 (safe : Int)) := by
  refine ⟨?_, ?_, ?_, ?_, ?_, ?_, ?_⟩ <;> (rw [cell_of_row w f _ _ _ _ F.box]; rfl)
theorem FeedAt.cap [Inhabited XS] {w : World} {d f x : Nat} {sz : Int} {floor time : Nat} {R : List SegS} {safe : Nat} {A : Option Addr} {c : Nat} {S : List Nat} {h : Hd} (F : FeedAt w d f x sz floor time R safe A c S h) : R.length ≤ c ∧ c ≤ 9223372036854775807 := own_cap8 F.row
/-- A part's cells. -/
theorem FeedAt.at_ [Inhabited XS] {w : World} {d f x : Nat} {sz : Int} {floor time : Nat} {R : List SegS} {safe : Nat} {A : Option Addr} {c : Nat} {S : List Nat} {h : Hd} (F : FeedAt w d f x sz floor time R safe A c S h) {j : Nat} {r : SegS} (hj : R[j]? = some r) :
    ∃ g, A = some ⟨g, 0, none⟩ ∧ w.cell? ⟨g, j * 4, none⟩ = some (.int .i64 (x : Int)) ∧ w.cell? ⟨g, j * 4 + 1, none⟩ = some (.int .u64 (r.p.u : Int)) ∧ w.cell? ⟨g, j * 4 + 2, none⟩ = some (.slice r.A r.p.L.length r.p.L.length) ∧ w.cell? ⟨g, j * 4 + 3, none⟩ = some (.int .i64 (r.p.z x : Int)) := by
  have hlt : j < R.length := (List.getElem?_eq_some_iff.1 hj).1
  rcases F.row.2 with ⟨hv, h0⟩ | ⟨g, cap, cur, hv, _, hh, _, _, hc, ht⟩
  · omega
  · injection hv with h1
    subst h1
    have key : ∀ k, k < 4 → ∀ v, (r.cells x)[k]? = some v → w.cell? ⟨g, j * 4 + k, none⟩ = some v := by
      intro k hk v hv
      rw [cell_of_row w g _ _ _ _ hh]
      have h4 := rowsS_get x R j k r hj hk
      rw [hv, ← ht, List.getElem?_take] at h4
      split at h4
      · simpa using h4
      · cases h4
    exact ⟨g, rfl, key 0 (by omega) _ rfl, key 1 (by omega) _ rfl, key 2 (by omega) _ rfl, key 3 (by omega) _ rfl⟩

set_option maxRecDepth 100000 in
theorem end_any [Inhabited XS] (d f x : Nat) (sz : Int) (floor time : Nat) (R : List SegS) (safe : Nat) (A : Option Addr) (c : Nat) (S : List Nat) (h : Hd) (j : Nat) (r : SegS) (w : World) (F : FeedAt w d f x sz floor time R safe A c S h) (hn : R.length = j + 1) (hj : R[j]? = some r) (hm : j ≤ 1000000) :
    Calls Tryz.prog 38 #[.pointer (some ⟨f, 0, none⟩)] w fun e w' => e = .returned (r.val x) ∧ Below w.heap.size w w' := by
  obtain ⟨g, rfl, k0, k1, k2, k3⟩ := F.at_ hj
  obtain ⟨_, _, _, _, _, c5, _⟩ := F.cells
  have hlt := F.lt
  have hg : g < w.heap.size := hlt g (by simp [blk])
  have hf : f < w.heap.size := hlt f (by simp)
  have hw : IntKind.i64.wrap ((R.length : Int) - 1) = (j : Int) := by rw [IntKind.wrap_i64]; omega
  have hjl : j < R.length := by omega
  have hb0 := (Below.refl w.heap.size w).alloc (Nat.le_refl _) (.cells #[.int .i64 0, .int .u64 0, .slice none 0 0, .int .i64 0] 65)
  have g0 := heap_alloc_new w (.cells #[.int .i64 0, .int .u64 0, .slice none 0 0, .int .i64 0] 65)
  have n5 := (hb0.cell (p := ⟨f, 5, none⟩) hf).trans c5
  have m0 := (hb0.cell (p := ⟨g, j * 4, none⟩) hg).trans k0
  have m1 := (hb0.cell (p := ⟨g, j * 4 + 1, none⟩) hg).trans k1
  have m2 := (hb0.cell (p := ⟨g, j * 4 + 2, none⟩) hg).trans k2
  have m3 := (hb0.cell (p := ⟨g, j * 4 + 3, none⟩) hg).trans k3
  generalize R.length = n at *
  clear k0 k1 k2 k3 c5 F hlt hn hj
  go_enter Tryz.func38, Tryz.ntmps38
  go_wp2_with fail
  generalize w.alloc (.cells #[.int .i64 0, .int .u64 0, .slice none 0 0, .int .i64 0] 65) = w1 at hb0 g0 n5 m0 m1 m2 m3 ⊢
  obtain ⟨b, hb⟩ : ∃ b, b = w.heap.size := ⟨_, rfl⟩
  rw [← hb] at g0 ⊢
  have HBW : w.heap.size ≤ b := by omega
  have HB9 := Lib.hid hb
  clear hb
  have G0 := Lib.hid g0
  have B0 := Lib.hid hb0
  clear g0 hb0
  go_still_tail 12, (by kernel_rfl)
  change wpList _ _ _ _ _ w1.drew
  go_wp2_with (refine wpList_putRow rfl 65 (.tmp 2) (.tmp 14) rfl b 65 #[.int .i64 0, .int .u64 0, .slice none 0 0, .int .i64 0] #[.int .i64 (x : Int), .int .u64 (r.p.u : Int), .slice r.A r.p.L.length r.p.L.length, .int .i64 (r.p.z x : Int)] rfl rfl ?g1 (by kernel_rfl) rfl (by simp [Value.oneCell']) ?_)
  case g1 => exact G0.out
  intro W' hW' hbe
  obtain ⟨q0, q1, q2, q3⟩ := b4cells hW'
  have HB := Lib.hid (Below.beside B0.out.drew hbe B0.out.drew.size (by simp; exact HBW))
  clear hW' hbe
  go_wp2
  refine bodyPost_ret (v := r.val x) ?_ rfl ⟨rfl, HB.out⟩
  simp [results, SegS.val, segV, Tryz.results38, go_sem, q0, q1, q2, q3]
end Go.Proofs.YtkphklmgbdljiaaGreatDoor.Fd
