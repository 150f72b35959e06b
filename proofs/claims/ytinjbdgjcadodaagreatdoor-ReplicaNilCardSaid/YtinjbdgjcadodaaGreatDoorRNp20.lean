/- Texts of the law ReplicaNil, put together. -/
import Derived.Deep.RegionHeld3
import Derived.Deep.QuietTactic
import Derived.Deep.Cut
import Derived.StillTail
import Derived.StillTailTactics
import Derived.Test.YtinjbdgjcadodaaGreatDoorRNp19
set_option linter.unusedVariables false
set_option linter.unusedSimpArgs false
set_option maxRecDepth 100000
namespace Go.Proofs.YtinjbdgjcadodaaGreatDoor.Vec
open Go Go.RowKit Words
def GivesN (w : World) (most : Nat) (f : Nat → Nat) (e : Ending) (w' : World) : Prop :=
 ∃ R k rc l, e = .returned (.slice R k rc) ∧ (∀ a, R = some a → w.heap.size ≤ a.block) ∧ SeesU w' R k l ∧ k ≤ rc ∧ rc ≤ 9223372036854775807 ∧ k ≤ most ∧ Trimmed l ∧ (∀ i, at_ l i = f i) ∧ Below w.heap.size w w'
theorem new_of_own {W : World} {base b0 : Nat} {e : TypeId} {s : Nat} {R : Option Addr} {n c m : Nat} {l : List Value} (h : W.ownsRow base e s (.slice R n c) m l) (hb : b0 ≤ base) : ∀ a, R = some a → b0 ≤ a.block := by
 intro a ha
 rcases h.2 with ⟨hv, _⟩ | ⟨g, cap, cur, hv, hg, _⟩
 ·rw [ha] at hv; cases hv
 ·rw [ha] at hv
  injection hv with h1 h2 h3
  injection h1 with h1
  subst h1
  show b0 ≤ g
  omega
set_option maxHeartbeats 1000000 in
theorem combineNew_at (hF : ∀ (x y : Nat) (W : World), Calls Tryz.prog 142 #[.int .u64 (x : Int), .int .u64 (y : Int)] W fun e w' => e = .returned (.int .u64 (Nat.max x y : Int)) ∧ w' = W)
 (h00 : Nat.max 0 0 = 0)
  (A B : Option Addr) (n c m d : Nat) (a b : List Nat) (w : World) (ta : Took2 w A n c a) (tb : Took2 w B m d b) :
  Calls Tryz.prog 141 #[.slice A n c, .slice B m d, .func (.func 142) #[] #[]] w (GivesN w (Nat.max n m) fun i => Nat.max (at_ a i) (at_ b i)) := by
  obtain ⟨N, hN⟩ : ∃ N, N = Nat.max n m := ⟨_, rfl⟩
  rw [← hN]
  have hmax : max (n : Int) (m : Int) = (N : Int) := by rw [hN]; show max (n : Int) (m : Int) = ((max n m : Nat) : Int); omega
  have hN2 : N ≤ 900000 := by rw [hN]; exact Nat.max_le.2 ⟨ta.2.2.2.2, tb.2.2.2.2⟩
  have hnN : n ≤ N := by rw [hN]; exact Nat.le_max_left _ _
  have hmN : m ≤ N := by rw [hN]; exact Nat.le_max_right _ _
  have hmk := fun W => make_u W N (by omega)
  clear hN
  go_enter Tryz.func141, Tryz.ntmps141
  go_wp2_with fail
  have bel0 : Below w.heap.size w (w.alloc (.cells (uRow N) 22)) := (Below.refl _ _).alloc (Nat.le_refl _) _
  have own0 := uRow_own w N (by omega)
  generalize w.alloc (.cells (uRow N) 22) = w0 at bel0 own0 ⊢
  have SEE : Hid (∀ W, Below w.heap.size w W → SeesU W A n a ∧ SeesU W B m b) := Lib.hid fun W hW => ⟨ta.1.below hW, tb.1.below hW⟩
  have LEN := Lib.hid (And.intro ta.1.1 tb.1.1)
  clear ta tb hmax hmk
  go_loopw [17] (fun v wr => ∃ (j : Nat) (l : List Nat), v = .int .i64 (j : Int) ∧ j ≤ N ∧ Hid (l.length = N ∧ ∀ i, i < j → at_ l i = Nat.max (at_ a i) (at_ b i)) ∧
   wr.ownsRow w.heap.size 22 1 (.slice (some ⟨w.heap.size, 0, none⟩) N N) N (us l) ∧ Below w.heap.size w wr) (fun v _ => N - (intOf v).toNat)
  case atStart => exact ⟨0, List.replicate N 0, rfl, by omega, ⟨List.length_replicate, fun i hi => absurd hi (by omega)⟩, own0, bel0⟩
  case round =>
   obtain ⟨j, l, rfl, hj, HL, own, bel⟩ := hrel
   by_cases hlt : j < N
   ·have hcell : wr.cell? ⟨w.heap.size, j, none⟩ = some (.int .u64 (at_ l j : Int)) := by
     rw [own.cellAt j (by omega), us_get (at_lt (by rw [HL.out.1]; exact hlt))]
    have hfr : wr.frozen? ⟨w.heap.size, j, none⟩ = false := own.frozenAt j
    have hst := own.stored j (.int .u64 (Nat.max (at_ a j) (at_ b j) : Int))
    have hset : (us l).set j (.int .u64 (Nat.max (at_ a j) (at_ b j) : Int)) = us (l.set j (Nat.max (at_ a j) (at_ b j))) := by simp [us, List.map_set]
    rw [hset] at hst
    have HL2 : Hid ((l.set j (Nat.max (at_ a j) (at_ b j))).length = N ∧ ∀ i, i < j + 1 → at_ (l.set j (Nat.max (at_ a j) (at_ b j))) i = Nat.max (at_ a i) (at_ b i)) := Lib.hid ⟨by rw [List.length_set]; exact HL.out.1, fun i hi => by
     rw [at_set _ _ _ _ (by rw [HL.out.1]; exact hlt)]
     split
     ·rename_i h; rw [h]
     ·exact HL.out.2 i (by omega)⟩
    have bel2 := bel.setCell (p := ⟨w.heap.size, j, none⟩) (Nat.le_refl _) (.int .u64 (Nat.max (at_ a j) (at_ b j) : Int))
    have FF := Lib.hid (hF (at_ a j) (at_ b j) wr)
    have HST := Lib.hid hst.1
    have G1 := Lib.hid (get_at A n c a j wr (SEE.out wr bel).1)
    have G2 := Lib.hid (get_at B m d b j wr (SEE.out wr bel).2)
    have h1 : (j : Int) < (N : Int) := by omega
    have BEL2 := Lib.hid bel2
    clear hset hst bel2 own bel HL
    generalize Nat.max (at_ a j) (at_ b j) = v at HL2 BEL2 FF HST
    generalize at_ l j = u at hcell
    generalize at_ a j = x at FF G1
    generalize at_ b j = y at FF G2
    go_wp2_with fail
    refine G1.out.mono ?_
    rintro e w4 ⟨rfl, hw4⟩
    subst hw4
    go_wp2_with fail
    refine G2.out.mono ?_
    rintro e w5 ⟨rfl, hw5⟩
    subst hw5
    go_wp2_with fail
    refine FF.out.mono ?_
    rintro e w6 ⟨rfl, hw6⟩
    subst hw6
    clear FF G1 G2
    go_wp2
    go_roundw
    case rel => exact ⟨j + 1, l.set j v, by simp, by omega, HL2, HST.out, BEL2.out⟩
    case measure => simp [intOf]; omega
   ·obtain rfl : j = N := by omega
    have sl := SeesU.of_own own
    have TR := Lib.hid (trim_at (some ⟨w.heap.size, 0, none⟩) j j l wr sl (Nat.le_refl _) hN2 (by omega))
    have FIN : Hid (∀ (R : Option Addr) (rc : Nat) (W : World), W.ownsRow wr.heap.size 22 1 (.slice R (trimN l j) rc) (trimN l j) (us (l.take (trimN l j))) → Below wr.heap.size wr W → GivesN w j (fun i => Nat.max (at_ a i) (at_ b i)) (.returned (.slice R (trimN l j) rc)) W) := Lib.hid fun R rc W hown hbe => by
     have hle := trimN_le l j
     refine ⟨_, _, _, trimL l, rfl, new_of_own hown bel.size, ?_, (Own.cap hown).1, (Own.cap hown).2, hle, trimL_trimmed l, fun i => ?_, bel.trans (hbe.mono bel.size)⟩
     ·unfold trimL
      rw [HL.out.1]
      exact SeesU.of_own hown
     ·show at_ (trimL l) i = Nat.max (at_ a i) (at_ b i)
      rw [trimL_at]
      rcases Nat.lt_or_ge i j with h | h
      ·exact HL.out.2 i h
      ·rw [at_ge (by rw [HL.out.1]; exact h), at_ge (l := a) (by rw [LEN.out.1]; omega), at_ge (l := b) (by rw [LEN.out.2]; omega), h00]
    clear own bel sl HL
    go_wp2_with fail
    refine TR.out.mono ?_
    rintro e w4 ⟨R, rc, rfl, hown, hbe⟩
    have F2 := Lib.hid (FIN.out R rc w4 hown hbe)
    clear hown hbe TR FIN
    go_wp2
    go_ret
    exact F2.out
theorem join_new (A B : Option Addr) (n c m d : Nat) (a b : List Nat) (w : World) (ta : Took2 w A n c a) (tb : Took2 w B m d b) :
  Calls Tryz.prog 83 #[.slice A n c, .slice B m d] w (GivesN w (Nat.max n m) fun i => Nat.max (at_ a i) (at_ b i)) := by
 have C := Lib.hid (combineNew_at (fun x y W => pickJoin_any x y W) rfl A B n c m d a b w ta tb)
 clear ta tb
 go_enter Tryz.func83, Tryz.ntmps83
 go_wp2_with fail
 refine C.out.mono ?_
 rintro e w4 ⟨R, k, rc, l, rfl, h0, h1, h2, h3, h4, h5, h6, h7⟩
 have F := Lib.hid (show GivesN w _ _ (.returned (.slice R k rc)) w4 from ⟨R, k, rc, l, rfl, h0, h1, h2, h3, h4, h5, h6, h7⟩)
 clear h0 h1 h2 h3 h4 h5 h6 h7 C
 go_wp2
 go_ret
 exact F.out
end Go.Proofs.YtinjbdgjcadodaaGreatDoor.Vec
namespace Go.Proofs.YtinjbdgjcadodaaGreatDoor.Mtx
open Go Go.RowKit Words Vec
structure Hav where
 A : Option Addr
 n : Nat
 c : Nat
 H : List Nat
 t : Nat
def noHav : Hav := ⟨none, 0, 0, [], 0⟩
structure MatAt (mb : Nat) (R : Nat → Hav) (W : World) : Prop where
 row : ∃ cur : Array Value, W.heap[mb]? = some (.cells cur 105 (0, 0)) ∧ cur.size = 128 ∧ ∀ i, i < 64 → cur[2 * i]? = some (.slice (R i).A (R i).n (R i).c) ∧ cur[2 * i + 1]? = some (.int .u64 ((R i).t : Int))
 took : ∀ i, i < 64 → Took2 W (R i).A (R i).n (R i).c (R i).H
 apart : ∀ i, i < 64 → ∀ a, (R i).A = some a → mb < a.block
 few : ∀ i, i < 64 → (R i).t < 18446744073709551616
theorem MatAt.lt {mb : Nat} {R : Nat → Hav} {W : World} (h : MatAt mb R W) : mb < W.heap.size := by
 obtain ⟨cur, h1, _⟩ := h.row
 exact (Array.getElem?_eq_some_iff.1 h1).1
theorem MatAt.below {mb : Nat} {R : Nat → Hav} {W W' : World} (h : MatAt mb R W) (hb : Below W.heap.size W W') : MatAt mb R W' := by
 have hlt := h.lt
 obtain ⟨cur, h1, h2⟩ := h.row
 exact ⟨⟨cur, (hb.block _ hlt).trans h1, h2⟩, fun i hi => (h.took i hi).below hb, h.apart, h.few⟩
theorem MatAt.cells {mb : Nat} {R : Nat → Hav} {W : World} (h : MatAt mb R W) {i : Nat} (hi : i < 64) : W.cell? ⟨mb, i * 2, none⟩ = some (.slice (R i).A (R i).n (R i).c) ∧ W.cell? ⟨mb, i * 2 + 1, none⟩ = some (.int .u64 ((R i).t : Int)) := by
 obtain ⟨cur, h1, _, h2⟩ := h.row
 obtain ⟨h3, h4⟩ := h2 i hi
 rw [Nat.mul_comm] at h3 h4
 exact ⟨by rw [cell_of_row _ mb _ _ _ _ h1]; exact h3, by rw [cell_of_row _ mb _ _ _ _ h1]; exact h4⟩
theorem SeesU.beside {w w' : World} {S : List Nat} {A : Option Addr} {n : Nat} {l : List Nat} (h : SeesU w A n l) (hb : Beside S w w') (hS : ∀ a, A = some a → a.block ∉ S) : SeesU w' A n l := by
 refine ⟨h.1, fun hn => ?_⟩
 obtain ⟨b, o, hA, hc⟩ := h.2 hn
 exact ⟨b, o, hA, fun j u hu => hb.cell (hc j u hu) (show b ∉ S from hS _ hA)⟩
theorem Took2.beside {w w' : World} {S : List Nat} {A : Option Addr} {n c : Nat} {l : List Nat} (h : Took2 w A n c l) (hb : Beside S w w') (hS : ∀ a, A = some a → a.block ∉ S) : Took2 w' A n c l := ⟨SeesU.beside h.1 hb hS, h.2⟩
def upd (R : Nat → Hav) (k : Nat) (x : Hav) : Nat → Hav := fun i => if i = k then x else R i
theorem MatAt.set {mb : Nat} {R : Nat → Hav} {W : World} (h : MatAt mb R W) (k : Nat) (hk : k < 64) (x : Hav) (hx : Took2 W x.A x.n x.c x.H) (ha : ∀ a, x.A = some a → mb < a.block) (ht : x.t < 18446744073709551616) :
  MatAt mb (upd R k x) ((W.setCell ⟨mb, k * 2, none⟩ (.slice x.A x.n x.c)).setCell ⟨mb, k * 2 + 1, none⟩ (.int .u64 (x.t : Int))) := by
 have hbe : Beside [mb] W ((W.setCell ⟨mb, k * 2, none⟩ (.slice x.A x.n x.c)).setCell ⟨mb, k * 2 + 1, none⟩ (.int .u64 (x.t : Int))) := ((Beside.refl _ W).setCell (by simp) _).setCell (by simp) _
 obtain ⟨cur, h1, h2, h3⟩ := h.row
 refine ⟨⟨_, heapSame (heapSame h1), by simp [h2], fun i hi => ?_⟩, fun i hi => ?_, fun i hi => ?_, fun i hi => ?_⟩
 ·unfold upd
  by_cases e : i = k
  ·subst e
   rw [if_pos rfl, Nat.mul_comm i 2]
   constructor
   ·rw [Array.getElem?_setIfInBounds_ne (by omega), Array.getElem?_setIfInBounds_self_of_lt (by omega)]
   ·rw [Array.getElem?_setIfInBounds_self_of_lt (by simp; omega)]
  ·rw [if_neg e]
   constructor
   ·rw [Array.getElem?_setIfInBounds_ne (by omega), Array.getElem?_setIfInBounds_ne (by omega)]; exact (h3 i hi).1
   ·rw [Array.getElem?_setIfInBounds_ne (by omega), Array.getElem?_setIfInBounds_ne (by omega)]; exact (h3 i hi).2
 ·unfold upd
  by_cases e : i = k
  ·rw [if_pos e]; exact Took2.beside hx hbe (fun a h => by have := ha a h; simp; omega)
  ·rw [if_neg e]; exact Took2.beside (h.took i hi) hbe (fun a h' => by have := h.apart i hi a h'; simp; omega)
 ·unfold upd
  by_cases e : i = k
  ·rw [if_pos e]; exact ha
  ·rw [if_neg e]; exact h.apart i hi
 ·unfold upd
  by_cases e : i = k
  ·rw [if_pos e]; exact ht
  ·rw [if_neg e]; exact h.few i hi
theorem nodeM_any (k : Nat) (hk : k < 64) (w : World) : Calls Tryz.prog 82 #[.int .i64 (k : Int)] w fun e w' => e = .returned (.bool true) ∧ w' = w := by
 have h1 : (k : Int) < 64 := by omega
 go_enter Tryz.func82, Tryz.ntmps82
 go_wp2
 go_ret
 exact ⟨rfl, rfl⟩
def zeroRow : Array Value := (List.replicate 64 [Value.slice none 0 0, Value.int .u64 0]).flatten.toArray
theorem pairs_at (a b : Value) : ∀ (n i : Nat), i < n → (List.replicate n [a, b]).flatten[2 * i]? = some a ∧ (List.replicate n [a, b]).flatten[2 * i + 1]? = some b
 | 0, i, h => absurd h (by omega)
 | n + 1, 0, _ => ⟨rfl, rfl⟩
 | n + 1, i + 1, h => by
   have := pairs_at a b n i (by omega)
   rw [List.replicate_succ, List.flatten_cons]
   rw [show 2 * (i + 1) = (2 * i) + 1 + 1 by omega]
   simpa using this
theorem zeroRow_at : ∀ i, i < 64 → zeroRow[2 * i]? = some (.slice none 0 0) ∧ zeroRow[2 * i + 1]? = some (.int .u64 0) := by
 intro i hi
 have := pairs_at (Value.slice none 0 0) (Value.int .u64 0) 64 i hi
 unfold zeroRow
 simpa using this
theorem mat_new (w : World) : MatAt w.heap.size (fun _ => noHav) (w.alloc (.cells zeroRow 105)) :=
 ⟨⟨zeroRow, heap_alloc_new w _, rfl, fun i hi => zeroRow_at i hi⟩, fun i hi => ⟨SeesU.nil _ _, fun j => by simp [noHav, at_], Nat.le_refl _, by simp [noHav], by simp [noHav]⟩, fun i hi a h => (by cases h), fun i hi => (by simp [noHav])⟩
theorem zero_mat : Tryz.zeroCells105 = zeroRow := by kernel_rfl
theorem new_any (w : World) : Calls Tryz.prog 11 #[] w fun e w' => e = .returned (.pointer (some ⟨w.heap.size, 0, none⟩)) ∧ w' = w.alloc (.cells zeroRow 105) := by
 have hz := zero_mat
 generalize zeroRow = z at hz ⊢
 subst hz
 go_enter Tryz.func11, Tryz.ntmps11
 go_wp2
 go_ret
 exact ⟨rfl, rfl⟩
theorem World.cell_new3 (w : World) (x y z : Value) (T : TypeId) : (w.alloc (.cells #[x, y, z] T)).cell? ⟨w.heap.size, 0, none⟩ = some x ∧ (w.alloc (.cells #[x, y, z] T)).cell? ⟨w.heap.size, 1, none⟩ = some y ∧ (w.alloc (.cells #[x, y, z] T)).cell? ⟨w.heap.size, 2, none⟩ = some z := by
 refine ⟨?_, ?_, ?_⟩ <;> (rw [cell_of_row _ w.heap.size _ _ _ (0, 0) (heap_alloc_new w _)]; rfl)
theorem World.cell_new2 (w : World) (x y : Value) (T : TypeId) : (w.alloc (.cells #[x, y] T)).cell? ⟨w.heap.size, 0, none⟩ = some x ∧ (w.alloc (.cells #[x, y] T)).cell? ⟨w.heap.size, 1, none⟩ = some y := by
 refine ⟨?_, ?_⟩ <;> (rw [cell_of_row _ w.heap.size _ _ _ (0, 0) (heap_alloc_new w _)]; rfl)
structure Raised (mb k : Nat) (R : Nat → Hav) (H : List Nat) (t : Nat) (w w' : World) (R' : Nat → Hav) : Prop where
 mat : MatAt mb R' w'
 beside : Beside [mb] w w'
 other : ∀ i, i ≠ k → R' i = R i
 time : (R' k).t = Nat.max (R k).t t
 have_ : ∀ i, at_ (R' k).H i = Nat.max (at_ (R k).H i) (at_ H i)
 fresh : ∀ a, (R' k).A = some a → w.heap.size ≤ a.block
set_option maxHeartbeats 4000000 in
theorem raiseM_any (mb k : Nat) (R : Nat → Hav) (A : Option Addr) (n c t : Nat) (H : List Nat) (w : World) (hM : MatAt mb R w) (hk : k < 64) (hT : Took2 w A n c H) (hn : n ≤ 64) (ht : t < 18446744073709551616) (hA0 : A = none → c = 0) :
  Calls Tryz.prog 44 #[.pointer (some ⟨mb, 0, none⟩), .agg #[.int .i64 (k : Int), .slice A n c, .int .u64 (t : Int)]] w fun e w' => (∃ b, e = .returned (.bool b) ∧ ((R k).t < t → b = true)) ∧ ∃ R', Raised mb k R H t w w' R' := by
 have C0 := World.cell_new3 w (.int .i64 (k : Int)) (.slice A n c) (.int .u64 (t : Int)) 55
 have B0 := Lib.hid (show Below w.heap.size w (w.alloc (.cells #[.int .i64 (k : Int), .slice A n c, .int .u64 (t : Int)] 55)) from (Below.refl _ _).alloc (Nat.le_refl _) _)
 have M0 := hM.below B0.out
 have HT := Lib.hid (hT.below B0.out)
 have hne : ¬ w.heap.size = mb := by have := hM.lt; omega
 obtain ⟨c1, c2⟩ := M0.cells hk
 have HM := Lib.hid M0
 obtain ⟨b, hb⟩ : ∃ b, b = w.heap.size := ⟨_, rfl⟩
 obtain ⟨w0, hw0⟩ : ∃ u, u = w.alloc (.cells #[.int .i64 (k : Int), .slice A n c, .int .u64 (t : Int)] 55) := ⟨_, rfl⟩
 have hbs : b < w0.heap.size := by rw [hw0, hb]; simp
 have hms : mb < w0.heap.size := by rw [hw0]; simp; have := hM.lt; omega
 rw [← hb] at C0 hne
 rw [← hw0] at C0 B0 c1 c2 HT HM
 obtain ⟨k0, k1, k2⟩ := C0
 clear hM hT M0
 have hk64 : (k : Int) < 64 := by omega
 have HW := Lib.hid hw0
 have HB := Lib.hid hb
 clear hw0
 go_enter Tryz.func44, Tryz.ntmps44
 go_upto_region 1 with fail
 rw [← HB.out, ← HW.out]
 clear hb
 go_wp2_with fail
 refine (nodeM_any k hk w0).mono ?_
 rintro e w1 ⟨rfl, rfl⟩
 go_upto_region 3 with fail
 go_region
 obtain ⟨w2, hw2⟩ : ∃ u, u = w1.alloc (Obj.cells #[Value.slice (R k).A (R k).n (R k).c, Value.int IntKind.u64 ((R k).t : Int)] 102) := ⟨_, rfl⟩
 have C5 := World.cell_new2 w1 (Value.slice (R k).A (R k).n (R k).c) (Value.int IntKind.u64 ((R k).t : Int)) 102
 have B1 := Lib.hid (show Below w1.heap.size w1 w2.drew by rw [hw2]; exact ((Below.refl _ _).alloc (Nat.le_refl _) _).drew)
 obtain ⟨d, hd⟩ : ∃ d, d = w1.heap.size := ⟨_, rfl⟩
 rw [← hw2, ← hd] at C5 ⊢
 have hds : d < w2.heap.size := by rw [hw2, hd]; simp
 have HD := Lib.hid hd
 clear hd
 obtain ⟨e0, e1⟩ := C5
 have k0' := k0
 rw [← B1.out.cell (p := ⟨b, 0, none⟩) hbs] at k0'
 have k1' := k1
 rw [← B1.out.cell (p := ⟨b, 1, none⟩) hbs] at k1'
 have k2' := k2
 rw [← B1.out.cell (p := ⟨b, 2, none⟩) hbs] at k2'
 clear k0 k1 k2 c1 c2 hw2
 have HM2 := Lib.hid (HM.out.below B1.out)
 have HT2 := Lib.hid (HT.out.below B1.out)
 have e0' : w2.drew.cell? ⟨d, 0, none⟩ = some (.slice (R k).A (R k).n (R k).c) := e0
 have e1' : w2.drew.cell? ⟨d, 1, none⟩ = some (.int .u64 ((R k).t : Int)) := e1
 obtain ⟨w3, hw3⟩ : ∃ u, u = w2.drew := ⟨_, rfl⟩
 rw [← hw3] at k0' k1' k2' e0' e1' HM2 HT2 B1 ⊢
 have hd3 : d < w3.heap.size := by rw [hw3]; exact hds
 have hb3 : b < w3.heap.size := Nat.lt_of_lt_of_le hbs B1.out.size
 have HJ := Lib.hid (join_new (R k).A A (R k).n (R k).c n c (R k).H H w3.drew ((HM2.out.took k hk).below (Below.refl _ _).drew) (HT2.out.below (Below.refl _ _).drew))
 have hdm : ¬ d = mb := by have := HD.out; omega
 clear e0 e1 hw3 hds
 have hnc : (n : Int) ≤ (c : Int) := by have := HT2.out.2.2.1; omega
 have hmin : min (n : Int) 64 = (n : Int) := by omega
 obtain ⟨X, hX⟩ : ∃ X, X = Nat.max (R k).t t := ⟨_, rfl⟩
 have hmax : max ((R k).t : Int) (t : Int) = (X : Int) := by rw [hX]; show _ = ((max (R k).t t : Nat) : Int); omega
 have HX := Lib.hid hX
 have hX64 : X < 18446744073709551616 := by rw [hX]; exact Nat.max_lt.2 ⟨HM2.out.few k hk, ht⟩
 have HC0 := Lib.hid (show A = none → n = 0 ∧ c = 0 from fun h => by
  refine ⟨?_, hA0 h⟩
  rcases Nat.eq_zero_or_pos n with h0 | h0
  ·exact h0
  ·obtain ⟨_, _, h1, _⟩ := HT2.out.1.2 h0
   rw [h] at h1
   cases h1)
 clear hX
 go_upto_region 4 with fail
 rcases A with _ | ad
 ·obtain ⟨rfl, rfl⟩ := HC0.out rfl
  have hmin0 : min (0 : Int) 64 = 0 := by decide
  go_still_tail 9, (by kernel_rfl)
  change wpList _ _ _ _ _ w3.drew
  go_wp2_with fail
  refine HJ.out.mono ?_
  rintro e w4 ⟨R1, n1, c1, l1, rfl, hnew, hs1, hn1, hc1, hm1, _, hat, hb4⟩
  have T4 := Lib.hid (show Took2 w4 R1 n1 c1 l1 from ⟨hs1, fits_max hat (HM2.out.took k hk).2.1 HT2.out.2.1, hn1, hc1, Nat.le_trans hm1 (Nat.max_le.2 ⟨(HM2.out.took k hk).2.2.2.2, HT2.out.2.2.2.2⟩)⟩)
  have B4 := Lib.hid (show Below w3.heap.size w3 w4 from ((Below.refl _ _).drew).trans hb4)
  have M4 := Lib.hid (HM2.out.below B4.out)
  have HFR := Lib.hid (show ∀ a, R1 = some a → w.heap.size ≤ a.block from fun a h => by have := hnew a h; have : w3.heap.size ≤ a.block := this; have := B0.out.size; have := B1.out.size; omega)
  have HN := Lib.hid (show ∀ a, R1 = some a → mb < a.block from fun a h => by have := hnew a h; have : w3.heap.size ≤ a.block := this; have := HM2.out.lt; omega)
  have HAT := Lib.hid hat
  rw [← B4.out.cell (p := ⟨b, 0, none⟩) hb3] at k0'
  rw [← B4.out.cell (p := ⟨b, 1, none⟩) hb3] at k1'
  rw [← B4.out.cell (p := ⟨b, 2, none⟩) hb3] at k2'
  rw [← B4.out.cell (p := ⟨d, 0, none⟩) hd3] at e0'
  rw [← B4.out.cell (p := ⟨d, 1, none⟩) hd3] at e1'
  obtain ⟨z1, z2⟩ := M4.out.cells hk
  have f1 : w4.frozen? ⟨mb, k * 2, none⟩ = false := by obtain ⟨cur, h1, _⟩ := M4.out.row; exact frozen_row0 h1
  have f2 : w4.frozen? ⟨mb, k * 2 + 1, none⟩ = false := by obtain ⟨cur, h1, _⟩ := M4.out.row; exact frozen_row0 h1
  clear hnew hs1 hn1 hc1 hm1 hat hb4 HJ
  go_upto_region 5 with fail
  go_still_tail 13, (by kernel_rfl)
  change wpList _ _ _ _ _ w4.drew
  go_upto_region 6 with fail
  have HM5 := Lib.hid (M4.out.set k hk ⟨R1, n1, c1, l1, X⟩ T4.out HN.out hX64)
  have BE5 := Lib.hid (show Beside [mb] w4 ((w4.setCell ⟨mb, k * 2, none⟩ (.slice R1 n1 c1)).setCell ⟨mb, k * 2 + 1, none⟩ (.int .u64 (X : Int))) from ((Beside.refl _ w4).setCell (by simp) _).setCell (by simp) _)
  obtain ⟨w5, hw5⟩ : ∃ u, u = (w4.setCell ⟨mb, k * 2, none⟩ (.slice R1 n1 c1)).setCell ⟨mb, k * 2 + 1, none⟩ (.int .u64 (X : Int)) := ⟨_, rfl⟩
  change Code.wp _ _ _ _ ((w4.setCell ⟨mb, k * 2, none⟩ (.slice R1 n1 c1)).setCell ⟨mb, k * 2 + 1, none⟩ (.int .u64 (X : Int))).drew
  rw [← hw5] at HM5 BE5 ⊢
  have g0 := BE5.out.cell (a := ⟨b, 2, none⟩) k2' (by simpa using hne)
  have g1 := BE5.out.cell (a := ⟨d, 0, none⟩) e0' (by simpa using hdm)
  have g2 := BE5.out.cell (a := ⟨d, 1, none⟩) e1' (by simpa using hdm)
  clear hw5 k0' k1' k2' e0' e1' z1 z2 f1 f2
  have g0' : w5.drew.cell? ⟨b, 2, none⟩ = some (.int .u64 (t : Int)) := g0
  have g1' : w5.drew.cell? ⟨d, 0, none⟩ = some (.slice (R k).A (R k).n (R k).c) := g1
  have g2' : w5.drew.cell? ⟨d, 1, none⟩ = some (.int .u64 ((R k).t : Int)) := g2
  have TO := Lib.hid (Took2.beside (M4.out.took k hk) BE5.out (fun a h => by have := HM2.out.apart k hk a h; simp; omega))
  have TN := Lib.hid (Took2.beside T4.out BE5.out (fun a h => by have := HN.out a h; simp; omega))
  have FIN : Hid (∀ (v : Bool) (W : World), Below w5.heap.size w5 W → ((R k).t < t → v = true) → (∃ b, Ending.returned (Value.bool v) = .returned (.bool b) ∧ ((R k).t < t → b = true)) ∧ ∃ R', Raised mb k R H t w W R') := Lib.hid fun v W hW hv =>
   ⟨⟨v, rfl, hv⟩, _, ⟨HM5.out.below hW, ((((Beside.of_below B0.out _).trans (.of_below B1.out [mb]) (fun x hx => .inl hx)).trans (.of_below B4.out [mb]) (fun x hx => .inl hx)).trans BE5.out (fun x hx => .inl hx)).below hW, fun i hi => by simp [upd, hi], by simp [upd, HX.out], fun i => by simp only [upd, if_pos rfl]; exact HAT.out i, fun a => by simp only [upd, if_pos rfl]; exact HFR.out a⟩⟩
  clear g0 g1 g2
  have SA := Lib.hid (same_any R1 (R k).A n1 c1 (R k).n (R k).c l1 (R k).H w5.drew (TN.out.below (Below.refl _ _).drew) (TO.out.below (Below.refl _ _).drew))
  clear HM2 HT2 M4 T4 HN HFR HAT HM HT B0 B1 B4 HM5 BE5 HX TO TN
  by_cases hlt : (R k).t < t
  ·go_wp2
   go_ret
   exact FIN.out true _ (Below.refl _ _).drew (fun _ => rfl)
  ·go_wp2_with fail
   refine SA.out.mono ?_
   rintro e w6 ⟨rfl, hb6⟩
   have H6 := Lib.hid (show Below w5.heap.size w5 w6 from ((Below.refl _ _).drew).trans hb6)
   clear hb6 SA
   generalize (withinL l1 (R k).H && withinL (R k).H l1) = v
   have hnot : ∀ (x : Bool) (w : World), (Op.unary .not (.bool x)).run Tryz.prog w = .ok (.bool (!x)) w := fun _ _ => rfl
   go_wp2
   go_ret
   exact FIN.out _ _ H6.out (fun h => absurd h hlt)
 ·go_still_tail 9, (by kernel_rfl)
  change wpList _ _ _ _ _ w3.drew
  go_wp2_with fail
  refine HJ.out.mono ?_
  rintro e w4 ⟨R1, n1, c1, l1, rfl, hnew, hs1, hn1, hc1, hm1, _, hat, hb4⟩
  have T4 := Lib.hid (show Took2 w4 R1 n1 c1 l1 from ⟨hs1, fits_max hat (HM2.out.took k hk).2.1 HT2.out.2.1, hn1, hc1, Nat.le_trans hm1 (Nat.max_le.2 ⟨(HM2.out.took k hk).2.2.2.2, HT2.out.2.2.2.2⟩)⟩)
  have B4 := Lib.hid (show Below w3.heap.size w3 w4 from ((Below.refl _ _).drew).trans hb4)
  have M4 := Lib.hid (HM2.out.below B4.out)
  have HFR := Lib.hid (show ∀ a, R1 = some a → w.heap.size ≤ a.block from fun a h => by have := hnew a h; have : w3.heap.size ≤ a.block := this; have := B0.out.size; have := B1.out.size; omega)
  have HN := Lib.hid (show ∀ a, R1 = some a → mb < a.block from fun a h => by have := hnew a h; have : w3.heap.size ≤ a.block := this; have := HM2.out.lt; omega)
  have HAT := Lib.hid hat
  rw [← B4.out.cell (p := ⟨b, 0, none⟩) hb3] at k0'
  rw [← B4.out.cell (p := ⟨b, 1, none⟩) hb3] at k1'
  rw [← B4.out.cell (p := ⟨b, 2, none⟩) hb3] at k2'
  rw [← B4.out.cell (p := ⟨d, 0, none⟩) hd3] at e0'
  rw [← B4.out.cell (p := ⟨d, 1, none⟩) hd3] at e1'
  obtain ⟨z1, z2⟩ := M4.out.cells hk
  have f1 : w4.frozen? ⟨mb, k * 2, none⟩ = false := by obtain ⟨cur, h1, _⟩ := M4.out.row; exact frozen_row0 h1
  have f2 : w4.frozen? ⟨mb, k * 2 + 1, none⟩ = false := by obtain ⟨cur, h1, _⟩ := M4.out.row; exact frozen_row0 h1
  clear hnew hs1 hn1 hc1 hm1 hat hb4 HJ
  go_upto_region 5 with fail
  go_still_tail 13, (by kernel_rfl)
  change wpList _ _ _ _ _ w4.drew
  go_upto_region 6 with fail
  have HM5 := Lib.hid (M4.out.set k hk ⟨R1, n1, c1, l1, X⟩ T4.out HN.out hX64)
  have BE5 := Lib.hid (show Beside [mb] w4 ((w4.setCell ⟨mb, k * 2, none⟩ (.slice R1 n1 c1)).setCell ⟨mb, k * 2 + 1, none⟩ (.int .u64 (X : Int))) from ((Beside.refl _ w4).setCell (by simp) _).setCell (by simp) _)
  obtain ⟨w5, hw5⟩ : ∃ u, u = (w4.setCell ⟨mb, k * 2, none⟩ (.slice R1 n1 c1)).setCell ⟨mb, k * 2 + 1, none⟩ (.int .u64 (X : Int)) := ⟨_, rfl⟩
  change Code.wp _ _ _ _ ((w4.setCell ⟨mb, k * 2, none⟩ (.slice R1 n1 c1)).setCell ⟨mb, k * 2 + 1, none⟩ (.int .u64 (X : Int))).drew
  rw [← hw5] at HM5 BE5 ⊢
  have g0 := BE5.out.cell (a := ⟨b, 2, none⟩) k2' (by simpa using hne)
  have g1 := BE5.out.cell (a := ⟨d, 0, none⟩) e0' (by simpa using hdm)
  have g2 := BE5.out.cell (a := ⟨d, 1, none⟩) e1' (by simpa using hdm)
  clear hw5 k0' k1' k2' e0' e1' z1 z2 f1 f2
  have g0' : w5.drew.cell? ⟨b, 2, none⟩ = some (.int .u64 (t : Int)) := g0
  have g1' : w5.drew.cell? ⟨d, 0, none⟩ = some (.slice (R k).A (R k).n (R k).c) := g1
  have g2' : w5.drew.cell? ⟨d, 1, none⟩ = some (.int .u64 ((R k).t : Int)) := g2
  have TO := Lib.hid (Took2.beside (M4.out.took k hk) BE5.out (fun a h => by have := HM2.out.apart k hk a h; simp; omega))
  have TN := Lib.hid (Took2.beside T4.out BE5.out (fun a h => by have := HN.out a h; simp; omega))
  have FIN : Hid (∀ (v : Bool) (W : World), Below w5.heap.size w5 W → ((R k).t < t → v = true) → (∃ b, Ending.returned (Value.bool v) = .returned (.bool b) ∧ ((R k).t < t → b = true)) ∧ ∃ R', Raised mb k R H t w W R') := Lib.hid fun v W hW hv =>
   ⟨⟨v, rfl, hv⟩, _, ⟨HM5.out.below hW, ((((Beside.of_below B0.out _).trans (.of_below B1.out [mb]) (fun x hx => .inl hx)).trans (.of_below B4.out [mb]) (fun x hx => .inl hx)).trans BE5.out (fun x hx => .inl hx)).below hW, fun i hi => by simp [upd, hi], by simp [upd, HX.out], fun i => by simp only [upd, if_pos rfl]; exact HAT.out i, fun a => by simp only [upd, if_pos rfl]; exact HFR.out a⟩⟩
  clear g0 g1 g2
  have SA := Lib.hid (same_any R1 (R k).A n1 c1 (R k).n (R k).c l1 (R k).H w5.drew (TN.out.below (Below.refl _ _).drew) (TO.out.below (Below.refl _ _).drew))
  clear HM2 HT2 M4 T4 HN HFR HAT HM HT B0 B1 B4 HM5 BE5 HX TO TN
  by_cases hlt : (R k).t < t
  ·go_wp2
   go_ret
   exact FIN.out true _ (Below.refl _ _).drew (fun _ => rfl)
  ·go_wp2_with fail
   refine SA.out.mono ?_
   rintro e w6 ⟨rfl, hb6⟩
   have H6 := Lib.hid (show Below w5.heap.size w5 w6 from ((Below.refl _ _).drew).trans hb6)
   clear hb6 SA
   generalize (withinL l1 (R k).H && withinL (R k).H l1) = v
   have hnot : ∀ (x : Bool) (w : World), (Op.unary .not (.bool x)).run Tryz.prog w = .ok (.bool (!x)) w := fun _ _ => rfl
   go_wp2
   go_ret
   exact FIN.out _ _ H6.out (fun h => absurd h hlt)
def Hav.val (h : Hav) : Value := .slice h.A h.n h.c
def Hav.row (h : Hav) : Value := .agg #[.slice h.A h.n h.c, .int .u64 (h.t : Int)]
structure ListsAt (ob K : Nat) (L : Nat → Hav) (W : World) : Prop where
 cell : ∀ k, k < K → W.cell? ⟨ob, k, none⟩ = some (L k).val
 len : ∀ k, k < K → (L k).H.length = (L k).n
 time : ∀ k, k < K → ∀ j, j < (L k).n → ∃ b o, (L k).A = some ⟨b, o, none⟩ ∧ W.cell? ⟨b, o + j * 8 + 2, none⟩ = some (.int .u64 (at_ (L k).H j : Int)) ∧ 1 ≤ at_ (L k).H j ∧ at_ (L k).H j < 18446744073709551616
 few : K ≤ 1000 ∧ ∀ k, k < K → (L k).n ≤ 1000
theorem ListsAt.below {ob K : Nat} {L : Nat → Hav} {W W' : World} (h : ListsAt ob K L W) (hb : Below W.heap.size W W') : ListsAt ob K L W' :=
 ⟨fun k hk => by rw [hb.cell (World.block_lt_of_cell? _ _ (h.cell k hk))]; exact h.cell k hk, h.len, fun k hk j hj => by
  obtain ⟨b, o, h1, h2, h3⟩ := h.time k hk j hj
  exact ⟨b, o, h1, by rw [hb.cell (World.block_lt_of_cell? _ _ h2)]; exact h2, h3⟩, h.few⟩
def listOf (K : Nat) (L : Nat → Hav) (n : Nat) : Hav := if n < K then L n else noHav
def knownV (ob K : Nat) : Value := .agg #[.slice none 0 0, .slice (some ⟨ob, 0, none⟩) K K]
theorem rowM_any (mb k : Nat) (R : Nat → Hav) (w : World) (hM : MatAt mb R w) (hk : k < 64) :
  Calls Tryz.prog 47 #[.pointer (some ⟨mb, 0, none⟩), .int .i64 (k : Int)] w fun e w' => e = .returned (R k).row ∧ Below w.heap.size w w' := by
 obtain ⟨c1, c2⟩ := hM.cells hk
 have hms := hM.lt
 have hk64 : (k : Int) < 64 := by omega
 have hne : ¬ w.heap.size = mb := by omega
 have hne2 : ¬ mb = w.heap.size := by omega
 have B0 := Lib.hid (show Below w.heap.size w (w.alloc (.cells #[.slice none 0 0, .int .u64 0] 102)) from (Below.refl _ _).alloc (Nat.le_refl _) _)
 unfold Hav.row
 clear hM
 go_enter Tryz.func47, Tryz.ntmps47
 go_wp2_with fail
 refine (nodeM_any k hk _).mono ?_
 rintro e w1 ⟨rfl, rfl⟩
 go_wp2
 exact bodyPost_ret (v := .agg #[.slice (R k).A (R k).n (R k).c, .int .u64 ((R k).t : Int)]) (by simp [results, Tryz.results47, go_sem]) rfl ⟨rfl, ((Below.refl _ _).alloc (Nat.le_refl _) _)⟩
set_option maxHeartbeats 200000 in
theorem unfolded_any (h : Hav) (j ob K : Nat) (w : World) (hs : SeesU w h.A h.n h.H) (hj : j ≤ 900000) (hf : Fits h.H) :
  Calls Tryz.prog 219 #[h.row, .int .i64 (j : Int), knownV ob K] w fun e w' => e = .returned (.int .u64 (at_ h.H j : Int)) ∧ Below w.heap.size w w' := by
 obtain ⟨A, n, c, H, t⟩ := h
 have C3 := World.cell_new2 w (.slice A n c) (.int .u64 (t : Int)) 102
 obtain ⟨w0, hw0⟩ : ∃ u, u = w.alloc (.cells #[.slice A n c, .int .u64 (t : Int)] 102) := ⟨_, rfl⟩
 have C5 := World.cell_new2 w0 (.slice none 0 0) (.slice (some ⟨ob, 0, none⟩) K K) 170
 have B0 : Below w.heap.size w w0 := by rw [hw0]; exact (Below.refl _ _).alloc (Nat.le_refl _) _
 have hsz : w0.heap.size = w.heap.size + 1 := by rw [hw0]; simp
 obtain ⟨w1, hw1⟩ : ∃ u, u = w0.alloc (.cells #[.slice none 0 0, .slice (some ⟨ob, 0, none⟩) K K] 170) := ⟨_, rfl⟩
 have B1 : Below w0.heap.size w0 w1 := by rw [hw1]; exact (Below.refl _ _).alloc (Nat.le_refl _) _
 rw [← hw0] at C3
 rw [← hw1, hsz] at C5
 have k3 : w1.cell? ⟨w.heap.size, 0, none⟩ = some (.slice A n c) := by rw [B1.cell (p := ⟨w.heap.size, 0, none⟩) (by show w.heap.size < _; omega)]; exact C3.1
 have k5 := C5.1
 have HB := Lib.hid (B0.trans (B1.mono B0.size))
 have HS := Lib.hid (hs.below HB.out)
 have HW0 := Lib.hid hw0
 have HW1 := Lib.hid hw1
 clear C3 C5 B0 B1 hsz hw0 hw1 hs
 simp only [Hav.row, knownV]
 go_enter Tryz.func219, Tryz.ntmps219
 go_upto_region 1 with fail
 rw [← HW0.out, ← HW1.out]
 have hfj : at_ H j < 18446744073709551616 := hf j
 have G := fun k => Vec.get_at A n c H j (w1.drewN k) (HS.out.drewN k)
 have G0 := fun k => Vec.get_at none 0 0 [] j (w1.drewN k) (SeesU.nil _ _)
 rw [show at_ [] j = 0 by simp [at_]] at G0
 have HG := Lib.hid G
 have HG0 := Lib.hid G0
 have HR := Lib.hid (show IntKind.u64.wrap (at_ H j : Int) = (at_ H j : Int) by rw [IntKind.wrap_u64]; omega)
 clear G G0 HS hfj hf
 go_quiet (first | (with_reducible refine (HG.out _).mono ?_; intro e w1 h; exact ⟨h.1, _, h.2⟩) | (with_reducible refine (HG0.out _).mono ?_; intro e w1 h; exact ⟨h.1, _, h.2⟩))
 go_wp2
 go_ret
 exact ⟨by simpa using HR.out, HB.out.trans ((Vec.below_drewN w1 _).mono HB.out.size)⟩
theorem listM_any (n ob K : Nat) (L : Nat → Hav) (w : World) (hL : ListsAt ob K L w) :
  Calls Tryz.prog 220 #[knownV ob K, .int .i64 (n : Int)] w fun e w' => e = .returned (listOf K L n).val ∧ Below w.heap.size w w' := by
 unfold knownV listOf
 by_cases hn : n < K
 ·rw [if_pos hn]
  have hc := hL.cell n hn
  have hc2 : ∀ o, (w.alloc o).cell? ⟨ob, n, none⟩ = some (L n).val := fun o => by rw [(Below.refl _ _).alloc (Nat.le_refl _) o |>.cell (World.block_lt_of_cell? _ _ hc)]; exact hc
  have hn2 : ¬ K ≤ n := by omega
  have hn3 : (n : Int) < (K : Int) := by omega
  unfold Hav.val at *
  go_enter Tryz.func220, Tryz.ntmps220
  go_wp2
  go_ret
  exact ⟨rfl, (Below.refl _ _).alloc (Nat.le_refl _) _⟩
 ·rw [if_neg hn]
  have hn2 : K ≤ n := by omega
  unfold Hav.val noHav
  go_enter Tryz.func220, Tryz.ntmps220
  go_wp2
  go_ret
  exact ⟨rfl, (Below.refl _ _).alloc (Nat.le_refl _) _⟩
end Go.Proofs.YtinjbdgjcadodaaGreatDoor.Mtx
