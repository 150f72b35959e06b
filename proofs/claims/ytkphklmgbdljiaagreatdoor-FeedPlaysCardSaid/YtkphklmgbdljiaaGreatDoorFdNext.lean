/- feed: its next number. -/
import Derived.Test.YtkphklmgbdljiaaGreatDoorFdBase
import Derived.Test.YtkphklmgbdljiaaGreatDoorBSegRuns
import Derived.Test.YtkphklmgbdljiaaGreatDoorFdNilS
namespace Go.Proofs.YtkphklmgbdljiaaGreatDoor.Fd
open Go Go.RowKit Go.Proofs.YtkphklmgbdljiaaGreatDoor.Words Go.Proofs.YtkphklmgbdljiaaGreatDoor.Enc Go.Proofs.YtkphklmgbdljiaaGreatDoor.Evt Go.Proofs.YtkphklmgbdljiaaGreatDoor.Made Go.Proofs.YtkphklmgbdljiaaGreatDoor.Dsk Go.Proofs.YtkphklmgbdljiaaGreatDoor.Sht Go.Proofs.YtkphklmgbdljiaaGreatDoor.Seg
set_option linter.unusedVariables false
set_option linter.unusedSimpArgs false

set_option maxRecDepth 100000 in
theorem next_bare (d f : Nat) (x sz : Int) (floor time : Nat) (A : Option Addr) (c : Nat) (safe : Int) (w : World) (g : w.heap[f]? = some (.cells (cells d x sz floor time (.slice A 0 c) safe) 60 (0, 0))) (hf : floor < 18446744073709551615) :
    Calls Tryz.prog 17 #[.pointer (some ⟨f, 0, none⟩)] w fun e w' => e = .returned (.int .u64 ((floor + 1 : Nat) : Int)) ∧ Below w.heap.size w w' := by
  have c5 : w.cell? ⟨f, 5, none⟩ = some (.slice A 0 c) := by rw [cell_of_row w f _ _ _ _ g]; rfl
  have c3 : w.cell? ⟨f, 3, none⟩ = some (.int .u64 (floor : Int)) := by rw [cell_of_row w f _ _ _ _ g]; rfl
  have hlt : f < w.heap.size := (Array.getElem?_eq_some_iff.1 g).1
  clear g
  go_enter Tryz.func17, Tryz.ntmps17
  go_wp2_with fail
  go_quiet (fail)
  go_wp2
  go_ret
  exact ⟨by simp, below_drewN' w _⟩

set_option maxRecDepth 100000 in
theorem nextF_last [Inhabited XS] (d f x : Nat) (sz : Int) (floor time : Nat) (R : List SegS) (safe : Nat) (A : Option Addr) (c : Nat) (S : List Nat) (h : Hd) (j : Nat) (r : SegS) (w : World) (F : FeedAt w d f x sz floor time R safe A c S h) (hn : R.length = j + 1) (hj : R[j]? = some r) (hm : j ≤ 1000000)
    (hfl : floor < r.p.u + r.p.L.length) (hlt : r.p.u + r.p.L.length < 18446744073709551616) :
    Calls Tryz.prog 17 #[.pointer (some ⟨f, 0, none⟩)] w fun e w' => e = .returned (.int .u64 ((r.p.u + r.p.L.length : Nat) : Int)) ∧ Below w.heap.size w w' := by
  obtain ⟨_, _, _, c3, _, c5, _⟩ := F.cells
  have CELLS := Lib.hid (fun W (hW : Below w.heap.size w W) => (F.below hW).cells)
  have hf : f < w.heap.size := F.lt f (by simp)
  have hlen : 0 < R.length := by omega
  have hlen' : decide ((0 : Int) < (R.length : Int)) = true := by simp; omega
  have END := Lib.hid (fun W (hW : Below w.heap.size w W) => end_any d f x sz floor time R safe A c S h j r W (F.below hW) hn hj hm)
  have NXS := Lib.hid (fun W => next_any (x : Int) r.p.u r.A r.p.L.length r.p.L.length (r.p.z x) W hlt)
  unfold segV at NXS
  unfold SegS.val segV at END
  have E1 : ∀ W, Below w.heap.size w W → Calls Tryz.prog 38 #[.pointer (some ⟨f, 0, none⟩)] W fun e w' => e = .returned (.agg #[.int .i64 (x : Int), .int .u64 (r.p.u : Int), .slice r.A r.p.L.length r.p.L.length, .int .i64 (r.p.z x : Int)]) ∧ Hid (Below w.heap.size w w') ∧ w'.cell? ⟨f, 3, none⟩ = some (.int .u64 (floor : Int)) ∧ w'.cell? ⟨f, 5, none⟩ = some (.slice A R.length c) := fun W hW => by
    refine (END.out W hW).mono ?_
    rintro e w' ⟨rfl, hb⟩
    have hb' := hW.trans (hb.mono hW.size)
    obtain ⟨_, _, _, q3, _, q5, _⟩ := CELLS.out w' hb'
    exact ⟨rfl, Lib.hid hb', q3, q5⟩
  have N1 : ∀ W, Below w.heap.size w W → Calls Tryz.prog 39 #[.agg #[.int .i64 (x : Int), .int .u64 (r.p.u : Int), .slice r.A r.p.L.length r.p.L.length, .int .i64 (r.p.z x : Int)]] W fun e w' => e = .returned (.int .u64 ((r.p.u + r.p.L.length : Nat) : Int)) ∧ Hid (Below w.heap.size w w') ∧ w'.cell? ⟨f, 3, none⟩ = some (.int .u64 (floor : Int)) ∧ w'.cell? ⟨f, 5, none⟩ = some (.slice A R.length c) := fun W hW => by
    refine (NXS.out W).mono ?_
    rintro e w' ⟨rfl, hb⟩
    have hb' := hW.trans (hb.mono hW.size)
    obtain ⟨_, _, _, q3, _, q5, _⟩ := CELLS.out w' hb'
    exact ⟨rfl, Lib.hid hb', q3, q5⟩
  generalize r.p.u + r.p.L.length = nx at *
  have hfl' : decide ((floor : Int) < (nx : Int)) = true := by simp; omega
  generalize R.length = n at *
  clear F CELLS END NXS hn hj hlt
  go_enter Tryz.func17, Tryz.ntmps17
  go_wp2_with fail
  go_region_held3 (fun w' => w'.cell? ⟨f, 3, none⟩ = some (.int .u64 (floor : Int)) ∧ w'.cell? ⟨f, 5, none⟩ = some (.slice A n c)) (go_keep)
    (first
      | (go_at_call 38
         refine (E1 _ ?h0).mono ?_
         case h0 => first | exact Below.refl _ _ | exact (Below.refl _ _).drew
         rintro e w6 ⟨rfl, HE, c3, c5⟩)
      | (go_at_call 39
         refine (N1 _ ?h1).mono ?_
         case h1 => exact HE.out
         rintro e w7 ⟨rfl, HN, c3, c5⟩))
  go_wp2_with fail
  refine (E1 _ HN.out).mono ?_
  rintro e w8 ⟨rfl, HE8, c3', c5'⟩
  go_wp2_with fail
  refine (N1 _ HE8.out).mono ?_
  rintro e w9 ⟨rfl, HN9, c3'', c5''⟩
  go_wp2
  go_ret
  exact ⟨rfl, HN9.out⟩

/-- The events of a feed's parts, the first one at number u. -/
def Chain (x : Nat) : Nat → List Part → Prop
  | _, [] => True
  | u, p :: r => (p.u = u ∧ p.L ≠ [] ∧ Runs (x : Int) u p.L ∧ p.N ≤ p.z x) ∧ Chain x (u + p.L.length) r
def evsP : List Part → List Ev
  | [] => []
  | p :: r => p.L ++ evsP r
theorem evsP_append : ∀ P Q : List Part, evsP (P ++ Q) = evsP P ++ evsP Q
  | [], Q => rfl
  | p :: r, Q => by simp [evsP, evsP_append r Q]
theorem chain_append {x : Nat} : ∀ {P Q : List Part} {u : Nat}, Chain x u (P ++ Q) ↔ Chain x u P ∧ Chain x (u + (evsP P).length) Q
  | [], Q, u => by simp [Chain, evsP]
  | p :: r, Q, u => by
    simp only [List.cons_append, Chain, evsP, List.length_append, chain_append (P := r), Nat.add_assoc, and_assoc]
theorem chain_last {x u : Nat} {P : List Part} {p : Part} (h : Chain x u (P ++ [p])) : p.u + p.L.length = u + (evsP (P ++ [p])).length ∧ p.u = u + (evsP P).length := by
  have h2 := (chain_append.1 h).2
  simp only [Chain] at h2
  simp only [evsP_append, evsP, List.length_append, List.append_nil]
  omega
theorem chain_len {x : Nat} : ∀ {P : List Part} {u : Nat}, Chain x u P → P.length ≤ (evsP P).length
  | [], _, _ => Nat.le_refl _
  | p :: r, u, h => by
    have h1 := chain_len h.2
    have h2 := List.length_pos_iff.2 h.1.2.1
    simp only [evsP, List.length_append, List.length_cons]
    omega
/-- Where the first part's first number stands, which event is the first that isn't folded. -/
structure Good (x floor u0 : Nat) (P : List Part) : Prop where
  chain : Chain x u0 P
  lo : u0 ≤ floor + 1
  hi : floor + 1 ≤ u0 + (evsP P).length
  pos : 1 ≤ u0
  few : u0 + (evsP P).length ≤ 1000
theorem list_last {α : Type} {l : List α} (h : l ≠ []) : ∃ i a, l = i ++ [a] := ⟨l.dropLast, l.getLast h, (List.dropLast_concat_getLast h).symm⟩
/-- A feed's next number. -/
theorem nextF_any [Inhabited XS] (d f x : Nat) (sz : Int) (floor time : Nat) (P : List Part) (safe : Nat) (O : List Nat) (h : Hd) (u0 : Nat) (w : World) (F : Feed w d f x sz floor time P safe O h) (G : Good x floor u0 P) :
    Calls Tryz.prog 17 #[.pointer (some ⟨f, 0, none⟩)] w fun e w' => e = .returned (.int .u64 ((u0 + (evsP P).length : Nat) : Int)) ∧ Below w.heap.size w w' := by
  obtain ⟨R, A, c, S, hR, hO, F⟩ := F
  by_cases hP : R = []
  · subst hP
    have hP : P = [] := by simpa using hR.symm
    subst hP
    have g := F.box
    have he : u0 + (evsP []).length = floor + 1 := by have h1 := G.lo; have h2 := G.hi; simp [evsP] at *; omega
    rw [he]
    exact next_bare d f (x : Int) sz floor time A c (safe : Int) w g (by have h1 := G.few; have h2 := G.hi; omega)
  · obtain ⟨I, r, rfl⟩ := list_last hP
    subst hR
    have hC := G.chain
    rw [List.map_append, List.map_singleton] at hC
    obtain ⟨h1, h2⟩ := chain_last hC
    have hl := chain_len hC
    have hf := G.few
    have hh := G.hi
    rw [List.map_append, List.map_singleton] at hf hh ⊢
    have := nextF_last d f x sz floor time (I ++ [r]) safe A c S h I.length r w F (by simp) (by simp) (by simp at hl; omega) (by omega) (by omega)
    rw [h1] at this
    exact this
end Go.Proofs.YtkphklmgbdljiaaGreatDoor.Fd
