/- Texts of the law ReplicaNil, put together. -/
import Derived.Test.YtinjbdgjcadodaaGreatDoorRNp08
import Derived.Test.YtinjbdgjcadodaaGreatDoorRNp20
import Derived.Test.YtinjbdgjcadodaaGreatDoorRNp34
import Derived.Test.YtinjbdgjcadodaaGreatDoorRNp38
set_option linter.unusedVariables false
set_option linter.unusedSimpArgs false
set_option maxRecDepth 100000
namespace Go.Proofs.YtinjbdgjcadodaaGreatDoor.Rp
open Go Go.RowKit Words Enc Go.Proofs.YtinjbdgjcadodaaGreatDoor.Made Dsk Seg Evt St
open Mtx (Hav noHav MatAt mat_new Raised)
theorem rep_cells {w : World} {r g mb tb st : Nat} (h : w.heap[r]? = some (.cells (repRow g mb tb st) 118 (0, 0))) : w.cell? ⟨r, 0, none⟩ = some (.pointer (some ⟨g, 0, none⟩)) ∧ w.cell? ⟨r, 1, none⟩ = some (.pointer (some ⟨mb, 0, none⟩)) ∧ w.cell? ⟨r, 2, none⟩ = some (.pointer (some ⟨tb, 0, none⟩)) ∧ w.cell? ⟨r, 3, none⟩ = some (.int .u64 (st : Int)) := by
 refine ⟨?_, ?_, ?_, ?_⟩ <;> (rw [cell_of_row w r _ _ _ _ h]; rfl)
theorem store_r (r g mb tb st : Nat) (w : World) (h : w.heap[r]? = some (.cells (repRow g mb tb st) 118 (0, 0))) : Calls Tryz.prog 27 #[.pointer (some ⟨r, 0, none⟩)] w fun e w' => e = .returned (.pointer (some ⟨g, 0, none⟩)) ∧ w' = w := by
 obtain ⟨k0, k1, k2, k3⟩ := rep_cells h
 clear h
 go_enter Tryz.func27, Tryz.ntmps27
 go_wp2
 go_ret
 exact ⟨rfl, rfl⟩
def PEvT {R : World → World → Prop} (y : Ev) : Facts.PredR R := Facts.PredR.that fun v => ∃ A c k, v = .tuple #[y.val A c k, .int .i64 0]
def PEvA {R : World → World → Prop} (y : Ev) : Facts.PredR R := Facts.PredR.that fun v => ∃ A c k, v = y.val A c k
def PPt {R : World → World → Prop} : Facts.PredR R := Facts.PredR.that fun v => ∃ b, v = .pointer (some ⟨b, 0, none⟩)
theorem ptr_one {a b : Nat} (h : Value.pointer (some ⟨a, 0, none⟩) = .pointer (some ⟨b, 0, none⟩)) : a = b := by
 injection h with h
 injection h with h
 injection h with h
theorem _root_.Go.Proofs.YtinjbdgjcadodaaGreatDoor.St.First.fewer {w0 w : World} {X Y : List Nat} {g nd n : Nat} {s : Sto} {y : Ev} (h : First w0 w X g nd n s y) (hY : ∀ k ∈ Y, k ∈ X) : First w0 w Y g nd n s y :=
 ⟨h.below, h.low, h.sto, h.node, h.ck, h.tm, h.fl, h.jn, h.rt, fun hm => h.gX (hY g hm), fun V hV => h.nexts V (hV.wider fun k hk => .inl (hY k hk)), by obtain ⟨O, ho⟩ := h.alls; exact ⟨O, fun V hV => ho V (hV.wider fun k hk => .inl (hY k hk))⟩, by obtain ⟨db, mb, h1, h2⟩ := h.base; exact ⟨db, mb, h1, fun V hV => h2 V (hV.wider fun k hk => .inl (hY k hk))⟩⟩
theorem _root_.Go.Proofs.YtinjbdgjcadodaaGreatDoor.St.First.grow {w0 w W : World} {X Y : List Nat} {g nd n : Nat} {s : Sto} {y : Ev} (h : First w0 w X g nd n s y) (hb : Below w.heap.size w W) (hY : ∀ k ∈ Y, k ∈ X ∨ w.heap.size ≤ k) : First w0 W Y g nd n s y :=
 ⟨h.below.trans (hb.mono h.below.size), h.low, h.sto.below hb, h.node, h.ck, h.tm, h.fl, h.jn, h.rt, fun hm => (hY g hm).elim h.gX (fun h9 => by have := h.sto.lt; omega), fun V hV => h.nexts V ((Beside.of_below hb X).trans hV hY), by obtain ⟨O, ho⟩ := h.alls; exact ⟨O, fun V hV => ho V ((Beside.of_below hb X).trans hV hY)⟩, by obtain ⟨db, mb, h1, h2⟩ := h.base; exact ⟨db, mb, h1, fun V hV => h2 V ((Beside.of_below hb X).trans hV hY)⟩⟩
structure JW (w0 w2 : World) (M D : List Nat) (r g mb tb nd n : Nat) (s : Sto) (y : Ev) (b3 : Nat) (er : Array Value) (b al st : Bool) (a : Act) (W : World) : Prop where
 be : Beside D w2 W
 low : b = false → Below w2.heap.size w2 W
 fst : b = true → ∃ X, First w0 W X g nd n s y ∧ (∀ k ∈ M, k ∈ X) ∧ (∀ k ∈ X, w0.heap.size ≤ k) ∧ (al = true → ∀ x, a.tmps.getD 6 undef = .pointer (some ⟨x, 0, none⟩) → x ∈ X)
 row : W.heap[r]? = some (.cells (repRow g mb tb 0) 118 (0, 0))
 box : W.heap[b3]? = some (.cells er 38 (0, 0))
 off : r ∉ D ∧ b3 ∉ D
 imp : st = true → al = true
 six : al = true → ∃ x Y, a.tmps.getD 6 undef = .pointer (some ⟨x, 0, none⟩) ∧ w2.heap.size ≤ x ∧ W.heap[x]? = some (.cells Y 38 (0, 0)) ∧ Y.size = 8 ∧ Y.all (·.oneCell') = true ∧ (st = true → ∃ A c k, Y = y.row A c k)
section
variable {w0 w2 : World} {M D : List Nat} {r g mb tb nd n : Nat} {s : Sto} {y : Ev} {b3 : Nat} {er : Array Value} {b al st : Bool} {a : Act} {W : World}
theorem JW.put (h : JW w0 w2 M D r g mb tb nd n s y b3 er b al st a W) {d : Option Nat} (hd : d ≠ some 6) (v : Value) : JW w0 w2 M D r g mb tb nd n s y b3 er b al st (a.put d v) W := by
 have e : (a.put d v).tmps.getD 6 undef = a.tmps.getD 6 undef := by
  cases d with
  | none => rfl
  | some d => rw [Facts.getD_put_other (fun e => hd (by rw [e]))]
 refine ⟨h.be, h.low, fun hb => ?_, h.row, h.box, h.off, h.imp, fun ha => ?_⟩
 ·obtain ⟨X, h1, h2, h4, h5⟩ := h.fst hb
  exact ⟨X, h1, h2, h4, fun ha x hx => h5 ha x (by rw [← e]; exact hx)⟩
 ·obtain ⟨x, Y, h1, h2⟩ := h.six ha
  exact ⟨x, Y, by rw [e]; exact h1, h2⟩
theorem JW.pick (h : JW w0 w2 M D r g mb tb nd n s y b3 er false al st a W) {wa : World} (hm : (∀ k ∈ M, wa.heap.size ≤ k ∧ k < w2.heap.size) ∧ wa.heap.size ≤ w2.heap.size) : ∃ X : List Nat, (∀ k ∈ M, k ∈ X) ∧ (∀ k ∈ X, wa.heap.size ≤ k ∧ k < W.heap.size) ∧ (al = true → ∀ x, a.tmps.getD 6 undef = .pointer (some ⟨x, 0, none⟩) → x ∈ X) := by
 have hs := h.be.size
 cases al with
 | false => exact ⟨M, fun k hk => hk, fun k hk => by have := hm.1 k hk; omega, fun e => by cases e⟩
 | true =>
   obtain ⟨x, Y, h1, h2, h3, -⟩ := h.six rfl
   have hx := (Array.getElem?_eq_some_iff.1 h3).1
   refine ⟨x :: M, fun k hk => List.mem_cons_of_mem _ hk, fun k hk => ?_, fun _ z hz => ?_⟩
   ·rcases List.mem_cons.1 hk with rfl | hk
    ·omega
    ·have := hm.1 k hk; omega
   ·have := ptr_one (h1.symm.trans hz)
    simp [this]
theorem JW.called (h : JW w0 w2 M D r g mb tb nd n s y b3 er false al st a W) (hD : ∀ k ∈ D, k < w2.heap.size) {W' : World} {X : List Nat} (hb : Beside D W W') (hf : First w0 W' X g nd n s y) (h1 : ∀ k ∈ M, k ∈ X) (h3 : ∀ k ∈ X, w0.heap.size ≤ k) (h4 : al = true → ∀ x, a.tmps.getD 6 undef = .pointer (some ⟨x, 0, none⟩) → x ∈ X) : JW w0 w2 M D r g mb tb nd n s y b3 er true al st a W' := by
 refine ⟨h.be.trans hb fun k hk => .inl hk, (fun e => by cases e), fun _ => ⟨X, hf, h1, h3, h4⟩, (hb.block r (Array.getElem?_eq_some_iff.1 h.row).1 h.off.1).trans h.row, (hb.block b3 (Array.getElem?_eq_some_iff.1 h.box).1 h.off.2).trans h.box, h.off, h.imp, fun ha => ?_⟩
 obtain ⟨x, Y, j1, j2, j3, j4⟩ := h.six ha
 exact ⟨x, Y, j1, j2, (hb.block x (Array.getElem?_eq_some_iff.1 j3).1 (fun hm => by have := hD x hm; omega)).trans j3, j4⟩
theorem JW.made (h : JW w0 w2 M D r g mb tb nd n s y b3 er b false st a W) (hsz : a.tmps.size = 28) : JW w0 w2 M D r g mb tb nd n s y b3 er b true st (a.put (some 6) (.pointer (some ⟨W.heap.size, 0, none⟩))) (W.alloc (.cells zRowE 38)) := by
 have hb : Below W.heap.size W (W.alloc (.cells zRowE 38)) := (Below.refl _ _).alloc (Nat.le_refl _) _
 have e : (a.put (some 6) (.pointer (some ⟨W.heap.size, 0, none⟩))).tmps.getD 6 undef = .pointer (some ⟨W.heap.size, 0, none⟩) := Facts.getD_put_same (by omega)
 refine ⟨h.be.below hb, fun e => (h.low e).trans (hb.mono (h.low e).size), fun hbt => ?_, (hb.block r (Array.getElem?_eq_some_iff.1 h.row).1).trans h.row, (hb.block b3 (Array.getElem?_eq_some_iff.1 h.box).1).trans h.box, h.off, fun _ => rfl, fun _ => ⟨W.heap.size, zRowE, e, h.be.size, heap_alloc_new W _, rfl, by simp [zRowE, Value.oneCell'], fun e => by have := h.imp e; cases this⟩⟩
 obtain ⟨X, h1, h2, h4, -⟩ := h.fst hbt
 refine ⟨W.heap.size :: X, h1.grow hb (fun k hk => by
  rcases List.mem_cons.1 hk with rfl | hk
  ·exact .inr (Nat.le_refl _)
  ·exact .inl hk), fun k hk => List.mem_cons_of_mem _ (h2 k hk), fun k hk => by
  rcases List.mem_cons.1 hk with rfl | hk
  ·exact h1.below.size
  ·exact h4 k hk, fun _ x hx => ?_⟩
 have := ptr_one (e.symm.trans hx)
 simp [this]
theorem JW.stored (h : JW w0 w2 M D r g mb tb nd n s y b3 er b true st a W) (hm : r < w2.heap.size ∧ b3 < w2.heap.size) {x : Nat} {Z vs : Array Value} (hx : a.tmps.getD 6 undef = .pointer (some ⟨x, 0, none⟩)) (hz : W.heap[x]? = some (.cells Z 38 (0, 0))) (hs : vs.size = 8) (ho : vs.all (·.oneCell') = true) (hy : ∃ A c k, vs = y.row A c k) : JW w0 w2 M D r g mb tb nd n s y b3 er b true true a (W.setRow x vs) := by
 have hb := setRow_beside W x vs
 obtain ⟨x9, Y, j1, j2, j3, j4⟩ := h.six rfl
 have e9 := ptr_one (j1.symm.trans hx)
 subst e9
 refine ⟨h.be.trans hb fun k hk => .inr (by simp at hk; omega), fun e => Below.beside (h.low e) hb (h.low e).size (by simp; omega), fun hbt => ?_, (hb.block r (Array.getElem?_eq_some_iff.1 h.row).1 (by simp; omega)).trans h.row, (hb.block b3 (Array.getElem?_eq_some_iff.1 h.box).1 (by simp; omega)).trans h.box, h.off, fun _ => rfl, fun _ => ⟨x9, vs, j1, j2, heap_setRow hz, hs, ho, fun _ => hy⟩⟩
 obtain ⟨X, h1, h2, h4, h5⟩ := h.fst hbt
 have hxX := h5 rfl x9 hx
 exact ⟨X, h1.beside (hb.wider fun k hk => .inl (by simp at hk; subst hk; exact hxX)) h4, h2, h4, h5⟩
end
theorem haveT_atN (N : Nat → Nat) (i : Nat) : Vec.at_ (haveT N) i = Vec.at_ (haveL N) i := by
 have : haveT N = Vec.trimL (haveL N) := by unfold haveT Vec.trimL; rw [haveL_len]
 rw [this, Vec.trimL_at]
structure Rep1 (w0 w : World) (r g mb tb nd n st : Nat) (s : Sto) (y : Ev) : Prop where
 first : First w0 w [mb, r] g nd n s y
 row : w.heap[r]? = some (.cells (repRow g mb tb st) 118 (0, 0))
 mat : ∃ R, MatAt mb R w ∧ (R nd).t = y.time ∧ ∀ i, Vec.at_ (R nd).H i = if i < 64 then oneN nd i else 0
 new : w0.heap.size ≤ mb ∧ w0.heap.size ≤ r ∧ mb ≠ r
set_option maxHeartbeats 4000000 in
theorem writeR_first {w0 wa w : World} {r d g mb tb nd n C : Nat} {sz : Int} {hnd : nd < 64} {s : Sto} {S : List Nat} {f : Nat} (h : Rep0 w0 wa w r d g mb tb nd n C sz hnd s S f) (T : Chk.Tabs w0) (ST : STabs w0) (hC : C ≤ 1000000) (hC0 : 10000 ≤ C) (hn : nd < n)
  (ev : Ev) (Be : Option Addr) (me ke : Nat) (hs : Sees w Be me ev.text) (hout : ∀ a, Be = some a → wa.heap.size ≤ a.block) (hfit : ev.Fit) (htx : ev.text.length ≤ 29) (hkey : ev.key.size ≤ 1048576) (hw : rightE (asOwn ev nd 1 1) = 0) (hp : plainE (asOwn ev nd 1 1) = asOwn ev nd 1 1) (hk : ev.kind ≤ 4) :
  Calls Tryz.prog 18 #[.pointer (some ⟨r, 0, none⟩), ev.val Be me ke] w fun e w' => ∃ A c k, e = .returned (.tuple #[(asOwn ev nd 1 1).val A c k, .int .i64 0]) ∧ Rep1 w0 w' r g mb tb nd n 0 (noteS s (asOwn ev nd 1 1)) (asOwn ev nd 1 1) ∧ Beside (mb :: g :: (S ++ [f])) w w' := by
 have hsf := store_float Tryz.prog
 obtain ⟨w2, hw2⟩ : ∃ u, u = (w.alloc (.cells (ev.row Be me ke) 38)).alloc (.cells zRowE 38) := ⟨_, rfl⟩
 have hb1 := (Below.refl w.heap.size w).alloc (Nat.le_refl _) (.cells (ev.row Be me ke) 38)
 have hb2 := hb1.alloc hb1.size (.cells zRowE 38)
 have G3 := (Below.heap_alloc (w.alloc (.cells (ev.row Be me ke) 38)) (.cells zRowE 38) w.heap.size (by simp)).trans (heap_alloc_new w (.cells (ev.row Be me ke) 38))
 have G4 := heap_alloc_new (w.alloc (.cells (ev.row Be me ke) 38)) (.cells zRowE 38)
 rw [show (w.alloc (.cells (ev.row Be me ke) 38)).heap.size = w.heap.size + 1 by simp] at G4
 rw [← hw2] at hb2 G3 G4
 obtain ⟨b3, hb3⟩ : ∃ b, b = w.heap.size := ⟨_, rfl⟩
 obtain ⟨b4, hb4⟩ : ∃ b, b = w.heap.size + 1 := ⟨_, rfl⟩
 rw [← hb3] at G3
 rw [← hb4] at G4
 obtain ⟨y, hy⟩ : ∃ y, y = asOwn ev nd 1 1 := ⟨_, rfl⟩
 obtain ⟨s', hs'⟩ : ∃ s', s' = noteS s (asOwn ev nd 1 1) := ⟨_, rfl⟩
 rw [← hs', ← hy]
 have hgl : g < wa.heap.size := h.fr.sto.lt
 have hSl : ∀ k ∈ S, k < wa.heap.size := h.fr.disk.lt
 have hfl : f < wa.heap.size := h.fr.bare.1.lt
 have hDl : ∀ k ∈ g :: (S ++ [f]), k < wa.heap.size := fun k hk => by
  rcases List.mem_cons.1 hk with rfl | hk
  ·exact hgl
  ·rcases List.mem_append.1 hk with hk | hk
   ·exact hSl k hk
   ·simp at hk; omega
 have hnew := h.new
 have hfr := h.frame
 have hwl := hfr.size
 have hrl := (Array.getElem?_eq_some_iff.1 h.row).1
 have hml := h.mat.lt
 have WR : Hid (∀ W, Below w2.heap.size w2 W → ∀ X : List Nat, (∀ k ∈ X, wa.heap.size ≤ k ∧ k < W.heap.size) → Calls Tryz.prog 7 #[.pointer (some ⟨g, 0, none⟩), .agg (ev.row Be me ke)] W fun e w' => ∃ A c k, e = .returned (.tuple #[y.val A c k, .int .i64 0]) ∧ First w0 w' X g nd n s' y ∧ Beside (g :: (S ++ [f])) W w') := Lib.hid fun W hW X hX => by
  have hbW := hb2.trans (hW.mono hb2.size)
  rw [hy, hs']
  refine (Fresh.first X h.fr (hfr.trans (hbW.mono hfr.size)) hX T ST hC hC0 hn ev Be me ke (hs.below hbW) (fun h0 a ha hm => by have h1 := hout a ha; have h2 := hDl _ hm; omega) hfit htx hkey hw hp hk).mono ?_
  rintro e w' ⟨A, c, k, rfl, -, h1, h2⟩
  exact ⟨A, c, k, rfl, h1, h2⟩
 have hrow2 := (hb2.block r hrl).trans h.row
 have HJ : Hid (∀ a, JW w0 w2 [mb, r, b4] (g :: (S ++ [f])) r g mb tb nd n s' y b3 (ev.row Be me ke) false false false a w2.drew) := Lib.hid fun a => ⟨(Beside.refl _ _).drew, fun _ => (Below.refl _ _).drew, (fun e => by cases e), hrow2, G3, ⟨fun hm => by have := hDl _ hm; omega, fun hm => by have := hDl _ hm; omega⟩, (fun e => by cases e), fun e => by cases e⟩
 have HX : Hid ((∀ k ∈ [mb, r, b4], wa.heap.size ≤ k ∧ k < w2.heap.size) ∧ wa.heap.size ≤ w2.heap.size ∧ w0.heap.size ≤ wa.heap.size) := Lib.hid ⟨fun k hk => by have := hb2.size; have := (Array.getElem?_eq_some_iff.1 G4).1; simp at hk; omega, by have := hb2.size; omega, h.fr.below.size⟩
 have HYT := Lib.hid (show y.time = 1 by rw [hy]; rfl)
 have HX2 : Hid (r < w2.heap.size ∧ b3 < w2.heap.size) := Lib.hid ⟨by have := hb2.size; omega, (Array.getElem?_eq_some_iff.1 G3).1⟩
 have HLT : Hid (∀ k ∈ g :: (S ++ [f]), k < w2.heap.size) := Lib.hid fun k hk => by have := hDl k hk; have := hb2.size; omega
 have HM : Hid (MatAt mb (fun _ => noHav) w2 ∧ mb ∉ g :: (S ++ [f]) ∧ r ∉ g :: (S ++ [f]) ∧ mb ≠ r ∧ w0.heap.size ≤ mb ∧ w0.heap.size ≤ r) := Lib.hid ⟨h.mat.below hb2, fun hm => by have := hDl _ hm; omega, fun hm => by have := hDl _ hm; omega, by omega, by have := h.fr.below.size; omega, by have := h.fr.below.size; omega⟩
 have HG4 := Lib.hid (And.intro G4 (show b4 ∉ g :: (S ++ [f]) ∧ b3 < b4 ∧ r < b3 ∧ mb < b3 ∧ b4 < w2.heap.size from ⟨fun hm => by have := hDl _ hm; omega, by omega, by omega, by omega, (Array.getElem?_eq_some_iff.1 G4).1⟩))
 have HB34 := Lib.hid (And.intro hb3 hb4)
 have HND := Lib.hid hnd
 have HBW := Lib.hid hb2
 have HB0 := Lib.hid (show w0.heap.size ≤ b4 ∧ w0.heap.size ≤ mb ∧ w0.heap.size ≤ r from ⟨by have := h.fr.below.size; omega, by have := h.fr.below.size; omega, by have := h.fr.below.size; omega⟩)
 unfold Ev.row zRowE at hw2
 have HW2 := Lib.hid hw2
 clear hw2 hb1 hb2 G3 G4 hb3 hb4 hy hs' hgl hSl hfl hDl hnew hfr hwl hrl hml hrow2 hs hout hfit htx hkey hw hp hk h T ST
 unfold Ev.val
 go_enter Tryz.func18, Tryz.ntmps18
 go_upto_region 1 with fail
 rw [← HW2.out, ← HB34.out.2, ← HB34.out.1]
 refine Facts.wp_region_inv (fun s a W => JW w0 w2 [mb, r, b4] (g :: (S ++ [f])) r g mb tb nd n s' y b3 (ev.row Be me ke) (s 3) (s 7) (s 8) a W) (fun _ _ => True) (n := 28) (by kernel_rfl) (by kernel_rfl) rfl (fun _ => trivial) [Facts.PredR.is (.pointer (some ⟨r, 0, none⟩)), Facts.PredR.is (.pointer (some ⟨g, 0, none⟩)), Facts.PredR.is (.agg (ev.row Be me ke)), PEvT y, PEvT y, PEvA y, Facts.PredR.is (.int .i64 0), PPt, Facts.PredR.any, Facts.PredR.is (.int .i64 0)] ?_ ?_ ?_
 ·exact HJ.out _
 ·refine ⟨?_, ?_, ?_, ?_, ?_, ?_, ?_, ?_, ?_, ?_, trivial⟩
  ·refine Facts.stepI_is (.pointer (some ⟨r, 0, none⟩)) (fun _ => trivial) fun s a W hsz hsj hwt hI hold hnew => ?_
   have f0 : a.tmps.getD 0 undef = .pointer (some ⟨r, 0, none⟩) := hold 0 (by kernel_rfl)
   refine ⟨Facts.wanted_free rfl, ?_, by simpa using hI.put (d := some 9) (by decide) _, fun _ => rfl⟩
   simp [go_sem, Act.eval, f0]
  ·refine Facts.stepI_call fun s a W hsz hsj hwt hI hold hnew => ?_
   have f9 : a.tmps.getD 9 undef = .pointer (some ⟨r, 0, none⟩) := hnew 0 9 (by kernel_rfl)
   refine ⟨Facts.wanted_free rfl, 27, #[.pointer (some ⟨r, 0, none⟩)], by simp [go_sem, Act.eval, f9], ?_⟩
   refine (store_r r g mb tb 0 W hI.row).mono ?_
   rintro e w8 ⟨rfl, rfl⟩
   exact ⟨_, rfl, by simpa using hI.put (d := some 10) (by decide) _, trivial, rfl⟩
  ·refine Facts.stepI_is (.agg (ev.row Be me ke)) (fun _ => trivial) fun s a W hsz hsj hwt hI hold hnew => ?_
   have f3 : a.tmps.getD 3 undef = .pointer (some ⟨b3, 0, none⟩) := hold 3 (by kernel_rfl)
   refine ⟨Facts.wanted_free rfl, ?_, by simpa using hI.put (d := some 11) (by decide) _, fun _ => rfl⟩
   exact Facts.exec_getRow 38 (.tmp 3) rfl b3 38 (ev.row Be me ke) (0, 0) _ f3 hI.box Tryz.underlying38 rfl (by kernel_rfl)
  ·refine Facts.stepI_call fun s a W hsz hsj hwt hI hold hnew => ?_
   have f10 : a.tmps.getD 10 undef = .pointer (some ⟨g, 0, none⟩) := hnew 1 10 (by kernel_rfl)
   have f11 : a.tmps.getD 11 undef = .agg (ev.row Be me ke) := hnew 2 11 (by kernel_rfl)
   simp only [hsj] at hI
   obtain ⟨X, hX1, hX3, hX4⟩ := hI.pick ⟨HX.out.1, HX.out.2.1⟩
   refine ⟨Facts.wanted_free rfl, 7, #[.pointer (some ⟨g, 0, none⟩), .agg (ev.row Be me ke)], by simp [go_sem, Act.eval, f10, f11], ?_⟩
   refine (WR.out W (hI.low rfl) X hX3).mono ?_
   rintro e w8 ⟨A9, c9, k9, rfl, hf8, hb8⟩
   exact ⟨_, rfl, by simpa using (hI.called HLT.out hb8 hf8 hX1 (fun k hk => Nat.le_trans HX.out.2.2 (hX3 k hk).1) hX4).put (d := some 12) (by decide) _, trivial, A9, c9, k9, rfl⟩
  ·refine Facts.stepI_new fun s a W hsz hsj hwt hI hold hnew => ?_
   have h12 : ∃ A c k, a.tmps.getD 12 undef = .tuple #[y.val A c k, .int .i64 0] := hnew 3 12 (by kernel_rfl)
   obtain ⟨A9, c9, k9, f12⟩ := h12
   exact ⟨Facts.wanted_free rfl, .tuple #[y.val A9 c9 k9, .int .i64 0], W, by simp [go_sem, Act.eval, f12], by simpa using hI.put (d := some 8) (by decide) _, (fun _ => trivial) W, ⟨A9, c9, k9, rfl⟩⟩
  ·refine Facts.stepI_new fun s a W hsz hsj hwt hI hold hnew => ?_
   have h8 : ∃ A c k, a.tmps.getD 8 undef = .tuple #[y.val A c k, .int .i64 0] := hnew 4 8 (by kernel_rfl)
   obtain ⟨A9, c9, k9, f8⟩ := h8
   exact ⟨Facts.wanted_free rfl, y.val A9 c9 k9, W, by simp [go_sem, Act.eval, f8], by simpa using hI.put (d := some 13) (by decide) _, (fun _ => trivial) W, ⟨A9, c9, k9, rfl⟩⟩
  ·refine Facts.stepI_is (.int .i64 0) (fun _ => trivial) fun s a W hsz hsj hwt hI hold hnew => ?_
   have h8 : ∃ A c k, a.tmps.getD 8 undef = .tuple #[y.val A c k, .int .i64 0] := hnew 4 8 (by kernel_rfl)
   obtain ⟨A9, c9, k9, f8⟩ := h8
   refine ⟨Facts.wanted_free rfl, ?_, by simpa using hI.put (d := some 14) (by decide) _, fun _ => rfl⟩
   simp [go_sem, Act.eval, f8]
  ·refine Facts.stepI_new fun s a W hsz hsj hwt hI hold hnew => ?_
   simp only [hsj] at hI
   exact ⟨Facts.wanted_free rfl, .pointer (some ⟨W.heap.size, 0, none⟩), W.alloc (.cells zRowE 38), by simp [go_sem, Act.eval, zRowE, hsf], by simpa using hI.made (by simpa using hsz), trivial, W.heap.size, rfl⟩
  ·refine Facts.stepI_store fun s a W hsz hsj hwt hI hold hnew => ?_
   have h6 : ∃ b, a.tmps.getD 6 undef = .pointer (some ⟨b, 0, none⟩) := hnew 7 6 (by kernel_rfl)
   obtain ⟨b6, f6⟩ := h6
   have h13 : ∃ A c k, a.tmps.getD 13 undef = y.val A c k := hnew 5 13 (by kernel_rfl)
   obtain ⟨A9, c9, k9, f13⟩ := h13
   have hs7 := hwt 7 (by kernel_rfl)
   have hB := hI
   rw [hs7] at hB
   obtain ⟨b9, Y6, e9, hb6, hx6, hs6, ho6⟩ := hB.six rfl
   have e92 := ptr_one (e9.symm.trans f6)
   rw [e92] at hb6 hx6
   exact ⟨Facts.wanted_free rfl, _, Facts.exec_putRow 38 (.tmp 6) (.tmp 13) rfl b6 38 Y6 (y.row A9 c9 k9) f6 f13 hx6 (by kernel_rfl) (by rw [hs6]; rfl) (by simp [Ev.row, Value.oneCell']), by simpa [hs7] using (hB.stored HX2.out f6 hx6 rfl (by simp [Ev.row, Value.oneCell']) ⟨A9, c9, k9, rfl⟩).put (d := none) (by decide) _, trivial, trivial⟩
  ·refine Facts.stepI_is (.int .i64 0) (fun _ => trivial) fun s a W hsz hsj hwt hI hold hnew => ?_
   have f14 : a.tmps.getD 14 undef = .int .i64 0 := hnew 6 14 (by kernel_rfl)
   refine ⟨Facts.wanted_free rfl, ?_, by simpa using hI.put (d := some 7) (by decide) _, fun _ => rfl⟩
   simp [go_sem, Act.eval, f14]
 ·intro a w3 hI hsize hdef hnew hold
  have h6 : ∃ b, a.tmps.getD 6 undef = .pointer (some ⟨b, 0, none⟩) := hnew 7 6 (by kernel_rfl)
  obtain ⟨b6, f6⟩ := h6
  have f7 : a.tmps.getD 7 undef = .int .i64 0 := hnew 9 7 (by kernel_rfl)
  have f0 : a.tmps.getD 0 undef = Value.pointer (some ⟨r, 0, none⟩) := hold 0 (Facts.not_dst (by kernel_rfl))
  have f3 : a.tmps.getD 3 undef = Value.pointer (some ⟨b3, 0, none⟩) := hold 3 (Facts.not_dst (by kernel_rfl))
  have f4 : a.tmps.getD 4 undef = Value.pointer (some ⟨b4, 0, none⟩) := hold 4 (Facts.not_dst (by kernel_rfl))
  obtain ⟨tm, df⟩ := a
  simp only [] at hdef hsize f0 f3 f4 f6 f7
  obtain ⟨xq, hxq, hlit⟩ := Facts.lits tm hsize Facts.idx28 Facts.idx28_eq
  rw [hxq] at f0 f3 f4 f6 f7
  simp only [Facts.idx28, List.map_cons, List.map_nil, f0, f3, f4, f6, f7] at hlit
  clear f0 f3 f4 f6 f7 hsize hnew hold hxq
  subst hlit
  subst hdef
  try simp only []
  obtain ⟨b9, Y6, e9, hb6, hx6, -, -, hY⟩ := hI.six (by decide)
  obtain rfl : b6 = b9 := ptr_one e9
  obtain ⟨A9, c9, k9, rfl⟩ := hY (by decide)
  obtain ⟨X, hfst, hmX, hX0, -⟩ := hI.fst (by decide)
  have hfst := hfst.fewer (Y := [mb, r, b4]) hmX
  have hrow3 := hI.row
  have hbe3 := hI.be
  have HBE3 := Lib.hid hbe3
  have h64 := HG4.out
  have hb64 : b4 < b6 := by omega
  have hM3 := mat_off HM.out.1 hbe3 HM.out.2.1 (fun i _ a ha => by cases ha)
  have hG43 := (hbe3.block b4 h64.2.2.2.2.2 h64.2.1).trans h64.1
  have HST : Hid (∀ W, Below w3.heap.size w3 W → First w0 W [mb, r, b4] g nd n s' y ∧ W.heap[r]? = some (.cells (repRow g mb tb 0) 118 (0, 0)) ∧ MatAt mb (fun _ => noHav) W ∧ W.heap[b4]? = some (.cells zRowE 38 (0, 0)) ∧ W.heap[b6]? = some (.cells (y.row A9 c9 k9) 38 (0, 0))) := Lib.hid fun W hW => ⟨hfst.next hW, (hW.block r (Array.getElem?_eq_some_iff.1 hrow3).1).trans hrow3, hM3.below hW, (hW.block b4 (Array.getElem?_eq_some_iff.1 hG43).1).trans hG43, (hW.block b6 (Array.getElem?_eq_some_iff.1 hx6).1).trans hx6⟩
  have H46 := Lib.hid (show b4 < b6 ∧ r < b4 ∧ mb < b4 from ⟨hb64, by omega, by omega⟩)
  have CE4 : Hid (∀ W, Below w3.drew.heap.size w3.drew W → W.cell? ⟨r, 0, none⟩ = some (.pointer (some ⟨g, 0, none⟩)) ∧ W.cell? ⟨r, 1, none⟩ = some (.pointer (some ⟨mb, 0, none⟩)) ∧ W.cell? ⟨r, 2, none⟩ = some (.pointer (some ⟨tb, 0, none⟩)) ∧ W.cell? ⟨r, 3, none⟩ = some (.int .u64 ((0 : Nat) : Int))) := Lib.hid fun W hW => rep_cells (HST.out W (((Below.refl w3.heap.size w3).drew).trans hW)).2.1
  clear hI e9 hmX hX0 hY hfst hrow3 hbe3 hM3 hG43 hx6 h64 hb64 hb6
  go_upto_region 3 with fail
  refine Facts.wp_region_tail 8 (n := 28) (by kernel_rfl) (by kernel_rfl) (by kernel_rfl) rfl [Facts.Pred.is (.pointer (some ⟨r, 0, none⟩)), Facts.Pred.is (.pointer (some ⟨r, 0, none⟩)), Facts.Pred.is (.pointer (some ⟨r, 0, none⟩)), Facts.Pred.is (.pointer (some ⟨g, 0, none⟩)), Facts.Pred.is (.pointer (some ⟨r, 0, none⟩)), Facts.Pred.is (.pointer (some ⟨r, 0, none⟩)), Facts.Pred.is (.pointer (some ⟨r, 1, none⟩)), Facts.Pred.is (.pointer (some ⟨mb, 0, none⟩))] ?_ ?_
  ·refine ⟨?_, ?_, ?_, ?_, ?_, ?_, ?_, ?_, trivial⟩
   ·refine Facts.step_is (.pointer (some ⟨r, 0, none⟩)) fun a W hR hold hnew => ?_
    have f0 : a.tmps.getD 0 undef = .pointer (some ⟨r, 0, none⟩) := hold 0 (by kernel_rfl)
    refine ⟨Facts.wanted_free rfl, ?_, fun _ => rfl⟩; simp [go_sem, Act.eval, f0]
   ·refine Facts.step_is (.pointer (some ⟨r, 0, none⟩)) fun a W hR hold hnew => ?_
    have f17 : a.tmps.getD 17 undef = .pointer (some ⟨r, 0, none⟩) := hnew 0 17 (by kernel_rfl)
    refine ⟨Facts.wanted_free rfl, ?_, fun _ => rfl⟩; simp [go_sem, Act.eval, f17]
   ·refine Facts.step_is (.pointer (some ⟨r, 0, none⟩)) fun a W hR hold hnew => ?_
    have f18 : a.tmps.getD 18 undef = .pointer (some ⟨r, 0, none⟩) := hnew 1 18 (by kernel_rfl)
    refine ⟨Facts.wanted_free rfl, ?_, fun _ => rfl⟩; simp [go_sem, Act.eval, f18]
   ·refine Facts.step_is (.pointer (some ⟨g, 0, none⟩)) fun a W hR hold hnew => ?_
    have f19 : a.tmps.getD 19 undef = .pointer (some ⟨r, 0, none⟩) := hnew 2 19 (by kernel_rfl)
    obtain ⟨k0, k1, k2, k3⟩ := CE4.out W hR
    refine ⟨Facts.wanted_free rfl, ?_, fun _ => rfl⟩; simp [go_sem, Act.eval, f19, k0]
   ·refine Facts.step_is (.pointer (some ⟨r, 0, none⟩)) fun a W hR hold hnew => ?_
    have f0 : a.tmps.getD 0 undef = .pointer (some ⟨r, 0, none⟩) := hold 0 (by kernel_rfl)
    refine ⟨Facts.wanted_free rfl, ?_, fun _ => rfl⟩; simp [go_sem, Act.eval, f0]
   ·refine Facts.step_is (.pointer (some ⟨r, 0, none⟩)) fun a W hR hold hnew => ?_
    have f21 : a.tmps.getD 21 undef = .pointer (some ⟨r, 0, none⟩) := hnew 4 21 (by kernel_rfl)
    refine ⟨Facts.wanted_free rfl, ?_, fun _ => rfl⟩; simp [go_sem, Act.eval, f21]
   ·refine Facts.step_is (.pointer (some ⟨r, 1, none⟩)) fun a W hR hold hnew => ?_
    have f22 : a.tmps.getD 22 undef = .pointer (some ⟨r, 0, none⟩) := hnew 5 22 (by kernel_rfl)
    refine ⟨Facts.wanted_free rfl, ?_, fun _ => rfl⟩; simp [go_sem, Act.eval, f22]
   ·refine Facts.step_is (.pointer (some ⟨mb, 0, none⟩)) fun a W hR hold hnew => ?_
    have f23 : a.tmps.getD 23 undef = .pointer (some ⟨r, 1, none⟩) := hnew 6 23 (by kernel_rfl)
    obtain ⟨k0, k1, k2, k3⟩ := CE4.out W hR
    refine ⟨Facts.wanted_free rfl, ?_, fun _ => rfl⟩; simp [go_sem, Act.eval, f23, k1]
  ·intro a w5 hR' hsize hdef hnew hold
   have f20 : a.tmps.getD 20 undef = .pointer (some ⟨g, 0, none⟩) := hnew 3 20 (by omega) (by kernel_rfl)
   have f24 : a.tmps.getD 24 undef = .pointer (some ⟨mb, 0, none⟩) := hnew 7 24 (by omega) (by kernel_rfl)
   have f0 : a.tmps.getD 0 undef = Value.pointer (some ⟨r, 0, none⟩) := hold 0 (fun i _ => Facts.not_dst (by kernel_rfl) i)
   have f4 : a.tmps.getD 4 undef = Value.pointer (some ⟨b4, 0, none⟩) := hold 4 (fun i _ => Facts.not_dst (by kernel_rfl) i)
   have f6 : a.tmps.getD 6 undef = Value.pointer (some ⟨b6, 0, none⟩) := hold 6 (fun i _ => Facts.not_dst (by kernel_rfl) i)
   have f7 : a.tmps.getD 7 undef = Value.int .i64 0 := hold 7 (fun i _ => Facts.not_dst (by kernel_rfl) i)
   obtain ⟨tm, df⟩ := a
   simp only [] at hdef hsize f0 f4 f6 f7 f20 f24
   obtain ⟨xq, hxq, hlit⟩ := Facts.lits tm hsize Facts.idx28 Facts.idx28_eq
   rw [hxq] at f0 f4 f6 f7 f20 f24
   simp only [Facts.idx28, List.map_cons, List.map_nil, f0, f4, f6, f7, f20, f24] at hlit
   clear f0 f4 f6 f7 f20 f24 hsize hnew hold hxq
   subst hlit
   subst hdef
   try simp only []
   simp only [List.drop_succ_cons, List.drop_zero]
   have hb5 : Below w3.heap.size w3 w5 := ((Below.refl w3.heap.size w3).drew).trans hR'
   obtain ⟨hf5, hr5, hM5, h45, h65⟩ := HST.out w5 hb5
   have NT := Lib.hid (note_t g mb nd s' (oneN nd) (fun _ => noHav) w5 hf5.sto (hf5.nexts w5 (Beside.refl _ _)) hM5 HND.out hf5.node (by rw [hf5.ck, HYT.out]; omega))
   have HB5 := Lib.hid hb5
   have H5 := Lib.hid (And.intro hf5 (And.intro hr5 (And.intro hM5 (And.intro h45 h65))))
   clear hb5 hf5 hr5 hM5 h45 h65 hR'
   go_wp2_with fail
   refine NT.out.mono ?_
   rintro e w6 ⟨rfl, w9, R', hb9, hR⟩
   obtain ⟨hf5, hr5, hM5, h45, h65⟩ := H5.out
   have hl := H46.out
   have hbe6 := hR.beside
   have HB6 := Lib.hid (((Beside.of_below HBW.out (mb :: g :: (S ++ [f]))).trans HBE3.out (fun k hk => .inl (List.mem_cons_of_mem _ hk))).below HB5.out |>.below hb9 |>.trans hbe6 fun k hk => .inl (by simp at hk; simp [hk]))
   have hf6 := (hf5.next hb9).beside (hbe6.wider (S1 := [mb, r, b4]) fun k hk => .inl (by simp at hk; simp [hk])) (fun k hk => by have := HM.out; simp at hk; have := HB0.out; omega)
   have hr6 := (hbe6.block r (Nat.lt_of_lt_of_le (Array.getElem?_eq_some_iff.1 hr5).1 hb9.size) (by simp; have := HM.out; omega)).trans ((hb9.block r (Array.getElem?_eq_some_iff.1 hr5).1).trans hr5)
   have h46 := (hbe6.block b4 (Nat.lt_of_lt_of_le (Array.getElem?_eq_some_iff.1 h45).1 hb9.size) (by simp; omega)).trans ((hb9.block b4 (Array.getElem?_eq_some_iff.1 h45).1).trans h45)
   have h66 := (hbe6.block b6 (Nat.lt_of_lt_of_le (Array.getElem?_eq_some_iff.1 h65).1 hb9.size) (by simp; omega)).trans ((hb9.block b6 (Array.getElem?_eq_some_iff.1 h65).1).trans h65)
   have hm0 : ∀ (i : Nat) (a : Addr), (R' i).A = some a → b4 < a.block := fun i a ha => by
    by_cases e : i = nd
    ·subst e
     have h1 := hR.fresh a ha
     have h2 := (Array.getElem?_eq_some_iff.1 h45).1
     have h3 := hb9.size
     omega
    ·rw [hR.other i e] at ha
     cases ha
   have hm1 : (R' nd).t = y.time := by
    rw [hR.time, hf5.ck]
    exact Nat.max_eq_right (Nat.zero_le _)
   have hm2 : ∀ i, Vec.at_ (R' nd).H i = if i < 64 then oneN nd i else 0 := fun i => by
    rw [hR.have_ i, haveT_atN, haveL_at]
    show Nat.max (Vec.at_ ([] : List Nat) i) _ = _
    rw [show Vec.at_ ([] : List Nat) i = 0 by simp [Vec.at_]]
    exact Nat.max_eq_right (Nat.zero_le _)
   have HRR := Lib.hid (And.intro hR.mat (And.intro hm0 (And.intro hm1 hm2)))
   clear hm0 hm1 hm2
   have H6 := Lib.hid (And.intro hf6 (And.intro hr6 (Array.getElem?_eq_some_iff.1 h46).1))
   have G46 := Lib.hid h46
   have G66 := Lib.hid h66
   clear hb9 hR hf5 hr5 hM5 h45 h65 hbe6 hf6 hr6 h46 h66 hl NT
   go_wp2_with (first
    | (refine wpList_getRow rfl 38 (.tmp 6) rfl b6 38 (y.row A9 c9 k9) (0, 0) _ rfl G66.out Tryz.underlying38 rfl (by kernel_rfl) ?_)
    | (refine wpList_putRow rfl 38 (.tmp 4) (.tmp 26) rfl b4 38 zRowE (y.row A9 c9 k9) rfl rfl G46.out (by kernel_rfl) rfl (by simp [Ev.row, Value.oneCell']) ?_))
   intro w7 hW7 hbe7
   have FIN : Hid (Rep1 w0 w7 r g mb tb nd n 0 s' y) := Lib.hid (by
    obtain ⟨hf6, hr6, hl6⟩ := H6.out
    have hl := H46.out
    have hm := HM.out
    refine ⟨(hf6.beside (hbe7.wider (S1 := [mb, r, b4]) fun k hk => .inl (by simp at hk; simp [hk])) (fun k hk => by have := HB0.out; simp at hk; omega)).fewer (fun k hk => by simp at hk; rcases hk with rfl | rfl <;> simp), (hbe7.block r (Array.getElem?_eq_some_iff.1 hr6).1 (by simp; omega)).trans hr6, ?_, ⟨hm.2.2.2.2.1, hm.2.2.2.2.2, hm.2.2.2.1⟩⟩
    obtain ⟨m1, m0, m2, m3⟩ := HRR.out
    exact ⟨R', mat_off m1 hbe7 (by simp; omega) (fun i hi a ha hq => by simp at hq; have := m0 i a ha; omega), m2, m3⟩)
   have HB7 := Lib.hid (HB6.out.trans hbe7 fun k hk => .inr (by simp at hk; subst hk; have := HB34.out.2; omega))
   have hy8 : y.row A9 c9 k9 = #[.int .i64 y.writer, .int .u64 (y.seq : Int), .int .u64 (y.time : Int), .int .u8 (y.kind : Int), .string y.key, .slice A9 c9 k9, .float .f64 y.num, .int .i64 y.node] := rfl
   rw [hy8] at hW7
   obtain ⟨k0, k1, k2, k3, k4, k5, k6, k7⟩ := box8 hW7
   clear hW7 hbe7
   go_wp2
   refine bodyPost_ret (v := .tuple #[y.val A9 c9 k9, .int .i64 0]) ?_ rfl ⟨A9, c9, k9, rfl, FIN.out, HB7.out⟩
   simp [results, Ev.val, Ev.row, Tryz.results18, go_sem, k0, k1, k2, k3, k4, k5, k6, k7]
end Go.Proofs.YtinjbdgjcadodaaGreatDoor.Rp
namespace Go.Proofs.YtinjbdgjcadodaaGreatDoor.St
open Go Go.RowKit Words Enc Go.Proofs.YtinjbdgjcadodaaGreatDoor.Made Seg Evt
open Go.Proofs.YtinjbdgjcadodaaGreatDoor.Ord (HV noHV flat Rises evLe Lies Lists GoodLists TextLow)
open Mtx (Hav ListsAt)
theorem sees_low {w : World} {A : Option Addr} {n : Nat} {l : List UInt8} (h : Sees w A n l) (hn : 0 < n) : ∀ a, A = some a → a.block < w.heap.size := fun a ha => by
 obtain ⟨h1, h2⟩ := h
 obtain ⟨b, o, e, hc⟩ := h2 hn
 rw [e] at ha
 injection ha with ha
 subst ha
 have hl : 0 < l.length := by omega
 have := hc 0 l[0] (List.getElem?_eq_getElem hl)
 exact World.block_lt_of_cell? _ _ this
theorem flat_at {L : List HV} {r : EvS} (h : r ∈ flat L) : ∃ x ∈ L, r ∈ x.S := by
 unfold flat at h
 obtain ⟨x, hx, hr⟩ := List.mem_flatMap.1 h
 exact ⟨x, hx, hr⟩
theorem flat_le {n : Nat} : ∀ L : List HV, (∀ x ∈ L, x.S.length ≤ n) → (flat L).length ≤ L.length * n
 | [], _ => by simp [flat]
 | a :: t, h => by
   have h1 := flat_le t fun x hx => h x (List.mem_cons_of_mem _ hx)
   have h2 := h a (by simp)
   have e : flat (a :: t) = a.S ++ flat t := rfl
   rw [e, List.length_append, List.length_cons, Nat.succ_mul]
   omega
structure StLists (O : List Nat) (E : Nat → List Ev) (w : World) (b : Nat) (L : List HV) : Prop where
 len : L.length = 64
 each : ∀ i x, L[i]? = some x → x.S.map EvS.e = E i ∧ x.S.length ≤ x.c ∧ x.c ≤ 9223372036854775807
 lists : Lists w.heap.size w (some ⟨b, 0, none⟩) L
 text : ∀ x ∈ L, ∀ r ∈ x.S, TextOk (O ++ [b]) w r
theorem LsRow.lists {O : List Nat} {E : Nat → List Ev} {w : World} {b : Nat} (h : LsRow O E w b 64) : ∃ L, StLists O E w b L := by
 obtain ⟨cur, h1, h2, h3⟩ := h.row
 have hx : ∀ i, ∃ x : HV, i < 64 → cur[i]? = some x.val ∧ x.S.map EvS.e = E i ∧ (x.S.length ≤ x.c ∧ x.c ≤ 9223372036854775807) ∧ RawEv w x.A x.S ∧ ∀ r ∈ x.S, TextOk (O ++ [b]) w r := fun i => by
  by_cases hi : i < 64
  ·obtain ⟨A, n, c, h4, ⟨S, s1, s2, s3, s4, s5⟩, h6⟩ := h3 i hi
   subst s2
   exact ⟨⟨A, c, S⟩, fun _ => ⟨h4, s1, h6, s3, s5⟩⟩
  ·exact ⟨noHV, fun h => absurd h hi⟩
 obtain ⟨f, hf⟩ := Classical.axiomOfChoice hx
 have hat : ∀ i x, ((List.range 64).map f)[i]? = some x → i < 64 ∧ x = f i := fun i x hx => by
  rw [List.getElem?_map] at hx
  by_cases hi : i < 64
  ·simp [hi] at hx
   exact ⟨hi, hx.symm⟩
  ·simp [hi] at hx
 refine ⟨(List.range 64).map f, by simp, fun i x hx => ?_, ⟨fun _ => ⟨b, 0, h.lt, rfl, fun k x hx => ?_⟩, fun x hx => ?_⟩, fun x hx r hr => ?_⟩
 ·obtain ⟨hi, rfl⟩ := hat i x hx
  exact ⟨(hf i hi).2.1, (hf i hi).2.2.1⟩
 ·obtain ⟨hi, rfl⟩ := hat k x hx
  rw [Nat.zero_add, cell_of_row w b _ _ _ _ h1]
  exact (hf k hi).1
 ·obtain ⟨i, hi, rfl⟩ := List.mem_map.1 hx
  have hi := List.mem_range.1 hi
  obtain ⟨a1, a2, a3, a4, a5⟩ := hf i hi
  refine ⟨a3, fun hn => ?_⟩
  obtain ⟨b', o, e, hc⟩ := a4 hn
  have hl : 0 < (rowsL (f i).S).length := by rw [rowsL_len]; omega
  exact ⟨b', o, World.block_lt_of_cell? _ _ (hc 0 _ (List.getElem?_eq_getElem hl)), e, hc⟩
 ·obtain ⟨i, hi, rfl⟩ := List.mem_map.1 hx
  exact (hf i (List.mem_range.1 hi)).2.2.2.2 r hr
structure GoodE (E : Nat → List Ev) : Prop where
 few : ∀ i, i < 64 → (E i).length ≤ 1000
 rise : ∀ i, i < 64 → (E i).Pairwise fun a b => a.time < b.time
 time : ∀ i, i < 64 → ∀ e ∈ E i, 1 ≤ e.time ∧ e.time < 18446744073709551616
 text : ∀ i, i < 64 → ∀ e ∈ E i, e.text.length ≤ 1000000
theorem StLists.at_ {O : List Nat} {E : Nat → List Ev} {w : World} {b : Nat} {L : List HV} (h : StLists O E w b L) {x : HV} (hx : x ∈ L) : ∃ i, i < 64 ∧ L[i]? = some x ∧ x.S.map EvS.e = E i := by
 obtain ⟨i, hi, e⟩ := List.getElem_of_mem hx
 exact ⟨i, by rw [← h.len]; exact hi, by rw [List.getElem?_eq_getElem hi, e], (h.each i x (by rw [List.getElem?_eq_getElem hi, e])).1⟩
theorem StLists.good {O : List Nat} {E : Nat → List Ev} {w : World} {b : Nat} {L : List HV} (h : StLists O E w b L) (hE : GoodE E) : GoodLists w.heap.size w (some ⟨b, 0, none⟩) L := by
 refine ⟨h.lists, fun x hx => ?_, by rw [h.len]; omega, ?_, fun r hr => ?_⟩
 ·obtain ⟨i, hi, _, he⟩ := h.at_ hx
  have hp := hE.rise i hi
  rw [← he, List.pairwise_map] at hp
  exact hp.imp fun hab => .inl hab
 ·have := flat_le (n := 1000) L fun x hx => by
   obtain ⟨i, hi, _, he⟩ := h.at_ hx
   have := hE.few i hi
   rw [← he, List.length_map] at this
   exact this
  rw [h.len] at this
  omega
 ·obtain ⟨x, hx, hr⟩ := flat_at hr
  obtain ⟨i, hi, _, he⟩ := h.at_ hx
  obtain ⟨t1, t2, t3, t4⟩ := h.text x hx r hr
  have hn : r.e.text.length = r.n := t1.1
  have hl := hE.text i hi r.e (by rw [← he]; exact List.mem_map.2 ⟨r, hr, rfl⟩)
  exact ⟨t1, by omega, fun hn0 => sees_low t1 hn0⟩
def havOf (x : HV) : Hav := ⟨x.A, x.S.length, x.c, x.S.map fun r => r.e.time, 0⟩
theorem StLists.known {O : List Nat} {E : Nat → List Ev} {w : World} {b : Nat} {L : List HV} (h : StLists O E w b L) (hE : GoodE E) : ListsAt b 64 (fun i => havOf (HV.at_ L i)) w := by
 have hat : ∀ k, k < 64 → L[k]? = some (HV.at_ L k) := fun k hk => by
  have hk' : k < L.length := by rw [h.len]; exact hk
  unfold HV.at_
  rw [List.getElem?_eq_getElem hk', List.getD_eq_getElem?_getD, List.getElem?_eq_getElem hk']
  rfl
 obtain ⟨b', o', hb', e', hrow⟩ := h.lists.row (by rw [h.len]; omega)
 injection e' with e'
 injection e' with e1 e2
 subst e1
 subst e2
 refine ⟨fun k hk => ?_, fun k hk => by simp [havOf], fun k hk j hj => ?_, ⟨by omega, fun k hk => ?_⟩⟩
 ·have := hrow k _ (hat k hk)
  rwa [Nat.zero_add] at this
 ·have hx := hat k hk
  have hm := List.mem_of_getElem? hx
  obtain ⟨i, hi, h9, he⟩ := h.at_ hm
  have hj' : j < (HV.at_ L k).S.length := hj
  obtain ⟨b2, o2, hb2, e2, hc⟩ := (h.lists.lie _ hm).2 (by omega)
  have hr := List.getElem?_eq_getElem hj'
  have hcell := hc (8 * j + 2) _ (rowsL_get _ j 2 _ hr (by omega))
  have hat2 : Vec.at_ (havOf (HV.at_ L k)).H j = ((HV.at_ L k).S[j]).e.time := by
   unfold Vec.at_ havOf
   rw [List.getD_eq_getElem?_getD, List.getElem?_map, hr]
   rfl
  have ht := hE.time i hi ((HV.at_ L k).S[j]).e (by rw [← he]; exact List.mem_map.2 ⟨_, List.getElem_mem hj', rfl⟩)
  refine ⟨b2, o2, e2, ?_, by rw [hat2]; exact ht.1, by rw [hat2]; exact ht.2⟩
  rw [hat2, show o2 + j * 8 + 2 = o2 + (8 * j + 2) by omega]
  exact hcell
 ·have hx := hat k hk
  obtain ⟨i, hi, h9, he⟩ := h.at_ (List.mem_of_getElem? hx)
  have := hE.few i hi
  rw [← he, List.length_map] at this
  exact this
end Go.Proofs.YtinjbdgjcadodaaGreatDoor.St
