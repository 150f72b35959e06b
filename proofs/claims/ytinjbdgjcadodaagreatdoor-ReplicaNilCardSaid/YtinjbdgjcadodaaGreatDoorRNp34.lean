/- Texts of the law ReplicaNil, put together. -/
import Derived.Shelf.SlIter.Nil
import Derived.Shelf.SortM.Plain
import Derived.Shelf.SortM.SortNone
import Derived.Ground.GgzProg
import Derived.Ground.SlgmProg
import Derived.Shelf.SlMaps.Clone
import Derived.Ground.SlmcProg
import Derived.Test.YtinjbdgjcadodaaGreatDoorProg
import Derived.Test.YtinjbdgjcadodaaGreatDoorRNp21
import Derived.Test.YtinjbdgjcadodaaGreatDoorRNp29
import Derived.Test.YtinjbdgjcadodaaGreatDoorRNp31
import Derived.Test.YtinjbdgjcadodaaGreatDoorRNp33
set_option linter.unusedVariables false
set_option linter.unusedSimpArgs false
set_option maxRecDepth 100000
namespace Go.Proofs.YtinjbdgjcadodaaGreatDoor.Rp
open Go Go.RowKit Words Enc Go.Proofs.YtinjbdgjcadodaaGreatDoor.Made Dsk Seg Evt St
open Mtx (noHav MatAt mat_new)
def PMat (B : Nat) : Facts.Pred := ⟨fun v W => ∃ mb, v = .pointer (some ⟨mb, 0, none⟩) ∧ B ≤ mb ∧ MatAt mb (fun _ => noHav) W, fun v w w' ⟨mb, h1, h2, h3⟩ hb => ⟨mb, h1, h2, h3.below hb⟩⟩
def PTalk (B : Nat) : Facts.Pred := ⟨fun v W => ∃ tb ser, v = .pointer (some ⟨tb, 0, none⟩) ∧ B ≤ tb ∧ TalkAt W tb ser, fun v w w' ⟨tb, ser, h1, h2, h3⟩ hb => ⟨tb, ser, h1, h2, h3.below hb⟩⟩
def repRow (g mb tb st : Nat) : Array Value := #[.pointer (some ⟨g, 0, none⟩), .pointer (some ⟨mb, 0, none⟩), .pointer (some ⟨tb, 0, none⟩), .int .u64 (st : Int)]
theorem build_rep (g mb tb : Nat) (W : World) : (Instr.build 118 #[(0, .pointer (some ⟨g, 0, none⟩)), (1, .pointer (some ⟨mb, 0, none⟩)), (2, .pointer (some ⟨tb, 0, none⟩))]).run Tryz.prog W = .ok (.agg (repRow g mb tb 0)) W := by kernel_rfl
structure Rep0 (w0 wa w : World) (r d g mb tb nd n C : Nat) (sz : Int) (hnd : nd < 64) (s : Sto) (S : List Nat) (f : Nat) : Prop where
 fr : Fresh w0 wa d g nd n C sz hnd s S f
 frame : Below wa.heap.size wa w
 row : w.heap[r]? = some (.cells (repRow g mb tb 0) 118 (0, 0))
 mat : MatAt mb (fun _ => noHav) w
 tk : ∃ ser, TalkAt w tb ser
 new : wa.heap.size ≤ mb ∧ wa.heap.size ≤ tb ∧ wa.heap.size ≤ r ∧ mb ≠ tb ∧ mb < r ∧ tb < r
set_option maxHeartbeats 2000000 in
theorem openR_freshB (d nd n C q : Nat) (sz rm bt ck : Int) (S0 : List Nat) (w0 w : World) (T : Chk.Tabs w0) (ST : STabs w0) (hb : Below w0.heap.size w0 w) (hS0 : ∀ k ∈ S0, w0.heap.size ≤ k) (hd : Disk w d S0 [] ⟨(C : Int), 0, -1, 0, false⟩) (hnd : nd < 64) (hn : n ≤ 64) (hC : 10000 ≤ C ∧ C ≤ 1000000) (hq : 0 < q ∧ q < 1073741824) :
  Calls Tryz.prog 22 #[.pointer (some ⟨d, 0, none⟩), .int .i64 (nd : Int), .agg (cfgRow (n : Int) sz rm bt ck), .int .u64 (q : Int)] w fun e w' => ∃ wa r g mb tb s S f, e = .returned (.tuple #[.pointer (some ⟨r, 0, none⟩), .int .i64 0]) ∧ Rep0 w0 wa w' r d g mb tb nd n C sz hnd s S f ∧ Beside S0 w w' := by
 obtain ⟨u, hu⟩ : ∃ u, u = w.alloc (.cells (cfgRow (n : Int) sz rm bt ck) 73) := ⟨_, rfl⟩
 have hbu : Below w.heap.size w u := by rw [hu]; exact (Below.refl _ _).alloc (Nat.le_refl _) _
 have G := show u.heap[w.heap.size]? = some (.cells (cfgRow (n : Int) sz rm bt ck) 73 (0, 0)) by rw [hu]; exact heap_alloc_new w _
 obtain ⟨b6, hb6⟩ : ∃ b, b = w.heap.size := ⟨_, rfl⟩
 rw [← hb6] at G
 have OP := Lib.hid (open_freshB d nd n C sz S0 w0 u T ST (hb.trans (hbu.mono hb.size)) hS0 (hd.below hbu) hnd hn hC)
 obtain ⟨k0, k1, k2, k3, k4⟩ := cells5 G
 have h0 : ((q : Int) == 0) = false := by rw [beq_eq_false_iff_ne]; omega
 have h1 : decide ((1073741824 : Int) ≤ (q : Int)) = false := decide_eq_false (by omega)
 unfold cfgRow at hu
 have HU := Lib.hid hu
 have HBU := Lib.hid hbu
 have HB6 := Lib.hid hb6
 have HBS := Lib.hid (show (∀ k ∈ S0, k < b6) ∧ b6 < u.heap.size from ⟨fun k hk => by rw [hb6]; exact hd.lt k hk, (Array.getElem?_eq_some_iff.1 G).1⟩)
 have HG := Lib.hid G
 clear hu hb6 G hbu hb hS0 hd T ST hn hC hq
 unfold cfgRow
 go_enter Tryz.func22, Tryz.ntmps22
 go_wp2_with fail
 rw [← HU.out, ← HB6.out]
 refine OP.out.mono ?_
 rintro e w2 ⟨g, s, S, f, rfl, hF, hfr⟩
 have hg2 := (hfr.block b6 HBS.out.2 (fun hm => by have := HBS.out.1 b6 hm; omega)).trans HG.out
 have CE := Lib.hid (fun (W : World) (hW : Below w2.heap.size w2 W) => cells5 ((hW.block b6 (Array.getElem?_eq_some_iff.1 hg2).1).trans hg2))
 have HF := Lib.hid hF
 have HFR := Lib.hid ((Beside.of_below HBU.out S0).trans hfr fun k hk => .inl hk)
 obtain ⟨s4, hs4⟩ : ∃ s4 : Nat, IntKind.u64.wrap ((q : Int) * 4294967296) = (s4 : Int) := by
  rw [IntKind.wrap_u64]
  exact Int.eq_ofNat_of_zero_le (Int.emod_nonneg _ (by decide))
 have HS4 := Lib.hid hs4
 clear hs4
 clear hF hfr hg2 k0 k1 k2 k3 k4
 go_upto_region 6 with fail
 refine Facts.wp_region_tail 9 (n := 42) (by kernel_rfl) (by kernel_rfl) (by kernel_rfl) rfl [Facts.Pred.is (.pointer (some ⟨g, 0, none⟩)), PMat w2.heap.size, Facts.Pred.is (.int .u64 (q : Int)), Facts.Pred.is (.int .u64 (s4 : Int)), Facts.Pred.is (.pointer (some ⟨b6, 3, none⟩)), Facts.Pred.is (.int .i64 bt), Facts.Pred.is (.pointer (some ⟨b6, 4, none⟩)), Facts.Pred.is (.int .i64 ck), PTalk w2.heap.size] ?_ ?_
 ·refine ⟨?_, ?_, ?_, ?_, ?_, ?_, ?_, ?_, ?_, trivial⟩
  ·refine Facts.step_is (.pointer (some ⟨g, 0, none⟩)) fun a W hR hold hnew => ?_
   have f10 : a.tmps.getD 10 undef = .pointer (some ⟨g, 0, none⟩) := hold 10 (by kernel_rfl)
   refine ⟨Facts.wanted_free rfl, ?_, fun _ => rfl⟩; simp [go_sem, Act.eval, f10]
  ·refine Facts.step_call fun a W hR hold hnew => ?_
   refine ⟨Facts.wanted_free rfl, 11, #[], by simp [go_sem, Act.eval], ?_⟩
   refine (Mtx.new_any W).mono ?_
   rintro e w8 ⟨rfl, hw8⟩
   subst hw8
   exact ⟨_, rfl, (Below.refl _ _).alloc (Nat.le_refl _) _, _, rfl, hR.size, mat_new W⟩
  ·refine Facts.step_is (.int .u64 (q : Int)) fun a W hR hold hnew => ?_
   have f3 : a.tmps.getD 3 undef = .int .u64 (q : Int) := hold 3 (by kernel_rfl)
   refine ⟨Facts.wanted_free rfl, ?_, fun _ => rfl⟩; simp [go_sem, Act.eval, f3]
  ·refine Facts.step_is (.int .u64 (s4 : Int)) fun a W hR hold hnew => ?_
   have f33 : a.tmps.getD 33 undef = .int .u64 (q : Int) := hnew 2 33 (by kernel_rfl)
   refine ⟨Facts.wanted_free rfl, ?_, fun _ => rfl⟩; simp [go_sem, Act.eval, f33, HS4.out]
  ·refine Facts.step_is (.pointer (some ⟨b6, 3, none⟩)) fun a W hR hold hnew => ?_
   have f6 : a.tmps.getD 6 undef = .pointer (some ⟨b6, 0, none⟩) := hold 6 (by kernel_rfl)
   refine ⟨Facts.wanted_free rfl, ?_, fun _ => rfl⟩; simp [go_sem, Act.eval, f6]
  ·refine Facts.step_is (.int .i64 bt) fun a W hR hold hnew => ?_
   have f35 : a.tmps.getD 35 undef = .pointer (some ⟨b6, 3, none⟩) := hnew 4 35 (by kernel_rfl)
   obtain ⟨k0, k1, k2, k3, k4⟩ := CE.out W (((Below.refl _ _).drew).trans hR)
   refine ⟨Facts.wanted_free rfl, ?_, fun _ => rfl⟩; simp [go_sem, Act.eval, f35, k3]
  ·refine Facts.step_is (.pointer (some ⟨b6, 4, none⟩)) fun a W hR hold hnew => ?_
   have f6 : a.tmps.getD 6 undef = .pointer (some ⟨b6, 0, none⟩) := hold 6 (by kernel_rfl)
   refine ⟨Facts.wanted_free rfl, ?_, fun _ => rfl⟩; simp [go_sem, Act.eval, f6]
  ·refine Facts.step_is (.int .i64 ck) fun a W hR hold hnew => ?_
   have f37 : a.tmps.getD 37 undef = .pointer (some ⟨b6, 4, none⟩) := hnew 6 37 (by kernel_rfl)
   obtain ⟨k0, k1, k2, k3, k4⟩ := CE.out W (((Below.refl _ _).drew).trans hR)
   refine ⟨Facts.wanted_free rfl, ?_, fun _ => rfl⟩; simp [go_sem, Act.eval, f37, k4]
  ·refine Facts.step_call fun a W hR hold hnew => ?_
   have f34 : a.tmps.getD 34 undef = .int .u64 (s4 : Int) := hnew 3 34 (by kernel_rfl)
   have f36 : a.tmps.getD 36 undef = .int .i64 bt := hnew 5 36 (by kernel_rfl)
   have f38 : a.tmps.getD 38 undef = .int .i64 ck := hnew 7 38 (by kernel_rfl)
   refine ⟨Facts.wanted_free rfl, 10, #[.int .u64 (s4 : Int), .int .i64 bt, .int .i64 ck], by simp [go_sem, Act.eval, f34, f36, f38], ?_⟩
   refine (newT_t s4 bt ck W).mono ?_
   rintro e w8 ⟨rfl, ht8, hb8⟩
   exact ⟨_, rfl, hb8, _, _, rfl, hR.size, ht8⟩
 ·intro a w3 hR' hsize hdef hnew hold
  have f31 : a.tmps.getD 31 undef = .pointer (some ⟨g, 0, none⟩) := hnew 0 31 (by omega) (by kernel_rfl)
  have h32 : ∃ mb, a.tmps.getD 32 undef = .pointer (some ⟨mb, 0, none⟩) ∧ w2.heap.size ≤ mb ∧ MatAt mb (fun _ => noHav) w3 := hnew 1 32 (by omega) (by kernel_rfl)
  obtain ⟨mb, f32, hmb, hM⟩ := h32
  have h39 : ∃ tb ser, a.tmps.getD 39 undef = .pointer (some ⟨tb, 0, none⟩) ∧ w2.heap.size ≤ tb ∧ TalkAt w3 tb ser := hnew 8 39 (by omega) (by kernel_rfl)
  obtain ⟨tb, ser, f39, htb, hT⟩ := h39
  have f3 : a.tmps.getD 3 undef = Value.int .u64 (q : Int) := hold 3 (fun i _ => Facts.not_dst (by kernel_rfl) i)
  have f6 : a.tmps.getD 6 undef = Value.pointer (some ⟨b6, 0, none⟩) := hold 6 (fun i _ => Facts.not_dst (by kernel_rfl) i)
  have f10 : a.tmps.getD 10 undef = Value.pointer (some ⟨g, 0, none⟩) := hold 10 (fun i _ => Facts.not_dst (by kernel_rfl) i)
  obtain ⟨tm, df⟩ := a
  simp only [] at hdef hsize f3 f6 f10 f31 f32 f39
  obtain ⟨xq, hxq, hlit⟩ := Facts.lits tm hsize Facts.idx42 Facts.idx42_eq
  rw [hxq] at f3 f6 f10 f31 f32 f39
  simp only [Facts.idx42, List.map_cons, List.map_nil, f3, f6, f10, f31, f32, f39] at hlit
  clear f3 f6 f10 f31 f32 f39 hsize hnew hold hxq
  subst hlit
  subst hdef
  try simp only []
  simp only [List.drop_succ_cons, List.drop_zero]
  have hb3 : Below w2.heap.size w2 w3 := ((Below.refl _ _).drew).trans hR'
  have HB := Lib.hid (build_rep g mb tb w3)
  have FIN := Lib.hid (show Rep0 w0 w2 (w3.alloc (.cells (repRow g mb tb 0) 118)) w3.heap.size d g mb tb nd n C sz hnd s S f from by
   have hal : Below w3.heap.size w3 (w3.alloc (.cells (repRow g mb tb 0) 118)) := (Below.refl _ _).alloc (Nat.le_refl _) _
   have hmt : mb ≠ tb := fun e => by
    obtain ⟨c1, h1, -⟩ := hM.row
    obtain ⟨c2, h2, -⟩ := hT.row
    rw [e, h2] at h1
    injection h1 with h1
    injection h1 with _ h1
    exact absurd h1 (by decide)
   exact ⟨HF.out, hb3.trans (hal.mono hb3.size), heap_alloc_new w3 _, hM.below hal, ⟨ser, hT.below hal⟩, hmb, htb, hb3.size, hmt, hM.lt, hT.lt⟩)
  have HF3 := Lib.hid (HFR.out.below (hb3.trans ((((Below.refl w3.heap.size w3).alloc (Nat.le_refl _) (.cells (repRow g mb tb 0) 118))).mono hb3.size)))
  clear hb3 hM hT hmb htb
  go_wp2_with (first | (refine wpList_build3 rfl 118 0 1 2 (.tmp 31) (.tmp 32) (.tmp 39) rfl (.pointer (some ⟨g, 0, none⟩)) (.pointer (some ⟨mb, 0, none⟩)) (.pointer (some ⟨tb, 0, none⟩)) (.agg (repRow g mb tb 0)) rfl rfl rfl HB.out ?_))
  go_ret2
  exact ⟨w2, _, g, mb, tb, s, S, f, rfl, FIN.out, HF3.out⟩
theorem openR_fresh (d nd n C q : Nat) (sz rm bt ck : Int) (S0 : List Nat) (w0 w : World) (T : Chk.Tabs w0) (ST : STabs w0) (hb : Below w0.heap.size w0 w) (hS0 : ∀ k ∈ S0, w0.heap.size ≤ k) (hd : Disk w d S0 [] ⟨(C : Int), 0, -1, 0, false⟩) (hnd : nd < 64) (hn : n ≤ 64) (hC : 10000 ≤ C ∧ C ≤ 1000000) (hq : 0 < q ∧ q < 1073741824) :
  Calls Tryz.prog 22 #[.pointer (some ⟨d, 0, none⟩), .int .i64 (nd : Int), .agg (cfgRow (n : Int) sz rm bt ck), .int .u64 (q : Int)] w fun e w' => ∃ wa r g mb tb s S f, e = .returned (.tuple #[.pointer (some ⟨r, 0, none⟩), .int .i64 0]) ∧ Rep0 w0 wa w' r d g mb tb nd n C sz hnd s S f := by
 refine (openR_freshB d nd n C q sz rm bt ck S0 w0 w T ST hb hS0 hd hnd hn hC hq).mono ?_
 rintro e w' ⟨wa, r, g, mb, tb, s, S, f, h1, h2, -⟩
 exact ⟨wa, r, g, mb, tb, s, S, f, h1, h2⟩
end Go.Proofs.YtinjbdgjcadodaaGreatDoor.Rp
namespace Go.Proofs.YtinjbdgjcadodaaGreatDoor.St
open Go Go.RowKit Words Enc Go.Proofs.YtinjbdgjcadodaaGreatDoor.Made Dsk Seg Evt
def Alls (O : List Nat) (s : Sto) (E : Nat → List Ev) (w : World) : Prop := ∀ i, i < 64 → ∃ f, s.F[i]? = some (.pointer (some ⟨f, 0, none⟩)) ∧ ∀ W B, Below w.heap.size w W → (∀ k ∈ B, w.heap.size ≤ k ∧ k < W.heap.size) → Calls Tryz.prog 158 #[.pointer (some ⟨f, 0, none⟩)] W fun e w' => ∃ A n c, e = .returned (.slice A n c) ∧ SeesEv (O ++ B) w' A n (E i) ∧ (n ≤ c ∧ c ≤ 9223372036854775807) ∧ Below W.heap.size W w'
theorem Alls.below {O : List Nat} {s : Sto} {E : Nat → List Ev} {w w' : World} (h : Alls O s E w) (hb : Below w.heap.size w w') : Alls O s E w' := fun i hi => by
 obtain ⟨f, h1, h2⟩ := h i hi
 exact ⟨f, h1, fun W B hW hB => h2 W B (hb.trans (hW.mono hb.size)) fun k hk => ⟨Nat.le_trans hb.size (hB k hk).1, (hB k hk).2⟩⟩
structure LsRow (O : List Nat) (E : Nat → List Ev) (w : World) (b j : Nat) : Prop where
 row : ∃ cur : Array Value, w.heap[b]? = some (.cells cur 26 (0, 0)) ∧ cur.size = 64 ∧ ∀ i, i < j → ∃ A n c, cur[i]? = some (.slice A n c) ∧ SeesEv (O ++ [b]) w A n (E i) ∧ n ≤ c ∧ c ≤ 9223372036854775807
theorem LsRow.lt {O : List Nat} {E : Nat → List Ev} {w : World} {b j : Nat} (h : LsRow O E w b j) : b < w.heap.size := by obtain ⟨c, h, _⟩ := h.row; exact (Array.getElem?_eq_some_iff.1 h).1
theorem LsRow.below {O : List Nat} {E : Nat → List Ev} {w w' : World} {b j : Nat} (h : LsRow O E w b j) (hb : Below w.heap.size w w') : LsRow O E w' b j := by
 obtain ⟨cur, h1, h2, h3⟩ := h.row
 exact ⟨⟨cur, (hb.block b (Array.getElem?_eq_some_iff.1 h1).1).trans h1, h2, fun i hi => by
  obtain ⟨A, n, c, h4, h5, h6⟩ := h3 i hi
  exact ⟨A, n, c, h4, h5.below hb, h6⟩⟩⟩
theorem LsRow.cell {O : List Nat} {E : Nat → List Ev} {w : World} {b j : Nat} (h : LsRow O E w b j) {k : Nat} (hk : k < 64) : (∃ v, w.cell? ⟨b, k, none⟩ = some v) ∧ w.frozen? ⟨b, k, none⟩ = false := by
 obtain ⟨cur, h1, h2, h3⟩ := h.row
 exact ⟨⟨_, by rw [cell_of_row w b _ _ _ _ h1]; exact Array.getElem?_eq_getElem (by omega)⟩, frozen_row0 h1⟩
theorem LsRow.set {O : List Nat} {E : Nat → List Ev} {w : World} {b j : Nat} (h : LsRow O E w b j) (hj : j < 64) {A : Option Addr} {n c : Nat} (hs : SeesEv (O ++ [b]) w A n (E j)) (hc : n ≤ c ∧ c ≤ 9223372036854775807) : LsRow O E (w.setCell ⟨b, j, none⟩ (.slice A n c)) b (j + 1) := by
 obtain ⟨cur, h1, h2, h3⟩ := h.row
 have hbe : Beside (O ++ [b]) w (w.setCell ⟨b, j, none⟩ (.slice A n c)) := (Beside.refl _ w).setCell (by simp) _
 refine ⟨⟨cur.setIfInBounds j (.slice A n c), by rw [heapSame h1], by simp [h2], fun i hi => ?_⟩⟩
 by_cases hij : i = j
 ·subst hij
  exact ⟨A, n, c, by rw [Array.getElem?_setIfInBounds_self_of_lt (by omega)], hs.next hbe fun k hk => .inl hk, hc⟩
 ·obtain ⟨A', n', c', h4, h5, h6⟩ := h3 i (by omega)
  exact ⟨A', n', c', by rw [Array.getElem?_setIfInBounds_ne (by omega)]; exact h4, h5.next hbe fun k hk => .inl hk, h6⟩
set_option maxHeartbeats 1000000 in
theorem lists_any (O : List Nat) (E : Nat → List Ev) (g : Nat) (s : Sto) (w : World) (hs : StoAt w g s) (h : Alls O s E w) :
  Calls Tryz.prog 100 #[.pointer (some ⟨g, 0, none⟩)] w fun e w' => e = .returned (.slice (some ⟨w.heap.size, 0, none⟩) 64 64) ∧ LsRow O E w' w.heap.size 64 ∧ Below w.heap.size w w' := by
 have hmk := make_64 w
 obtain ⟨dd, hdd, hrow⟩ := und_row
 have hr := fun W (hW : Below w.heap.size w W) => (hs.below hW).rangeF
 have hlen := hs.ok.f
 have HF := Lib.hid h
 obtain ⟨q, hq⟩ : ∃ q, q = s.F := ⟨_, rfl⟩
 have HFQ : Hid (∀ i, i < 64 → ∃ f, q[i]? = some (.pointer (some ⟨f, 0, none⟩)) ∧ ∀ W B, Below w.heap.size w W → (∀ k ∈ B, w.heap.size ≤ k ∧ k < W.heap.size) → Calls Tryz.prog 158 #[.pointer (some ⟨f, 0, none⟩)] W fun e w' => ∃ A n c, e = .returned (.slice A n c) ∧ SeesEv (O ++ B) w' A n (E i) ∧ (n ≤ c ∧ c ≤ 9223372036854775807) ∧ Below W.heap.size W w') := Lib.hid (by rw [hq]; exact h)
 rw [← hq] at hr hlen
 have hiF : (Tryz.prog.info? 88).map (·.size) = some q.length := by rw [hlen]; kernel_rfl
 have HLEN := Lib.hid hlen
 have HR := Lib.hid hr
 clear hs h hq hlen hr HF
 go_enter Tryz.func100, Tryz.ntmps100
 obtain ⟨w1, hw1⟩ : ∃ w1, w1 = w.alloc (.cells zls 26) := ⟨_, rfl⟩
 have hb : Below w.heap.size w w1 := by rw [hw1]; exact (Below.refl w.heap.size w).alloc (Nat.le_refl _) _
 have hz1 : LsRow O E w1 w.heap.size 0 := ⟨⟨zls, by rw [hw1]; exact heap_alloc_new w _, by simp [zls], fun i hi => absurd hi (by omega)⟩⟩
 rw [← hw1] at hmk
 have hr1 := HR.out _ hb
 have HB1 := Lib.hid hb
 have HZ1 := Lib.hid hz1
 clear hw1 hb hz1
 go_wp2_with (refine wpList_load_mid rfl 88 (.tmp 11) rfl g 8 rfl q dd hr1 hdd hrow hiF ?_)
 go_loopw [13] (fun v wr => ∃ (j : Nat), v = .int .i64 (j : Int) ∧ j ≤ 64 ∧ Hid (Below w.heap.size w wr) ∧ Hid (LsRow O E wr w.heap.size j)) (fun v _ => 64 - (intOf v).toNat)
 case atStart => exact ⟨0, rfl, Nat.zero_le _, HB1, HZ1⟩
 case round =>
  obtain ⟨j, rfl, hj, HB, HZ⟩ := hrel
  by_cases hlt : j < 64
  ·have hd1 : decide ((j : Int) < 64) = true := decide_eq_true (by omega)
   obtain ⟨f, hf, hall⟩ := HFQ.out j hlt
   have HAL := Lib.hid (hall wr [w.heap.size] HB.out (fun k hk => by simp at hk; subst hk; exact ⟨Nat.le_refl _, HZ.out.lt⟩))
   have HJ := Lib.hid hlt
   have q0 : (0 : Int) ≤ (j : Int) := by omega
   have q1 : (j : Int) < 64 := by omega
   have hq1 : q.toArray[j]? = some (.pointer (some ⟨f, 0, none⟩)) := by simpa using hf
   have hix := fun W => index_F q.toArray _ j W (by simpa using HLEN.out) hlt hq1 rfl
   clear hlt hf hall
   go_wp2_with fail
   refine HAL.out.mono ?_
   rintro e w5 ⟨A, n, c, rfl, hs5, hc5, hb5⟩
   have b5 := HB.out.trans (hb5.mono HB.out.size)
   have z5 := HZ.out.below hb5
   obtain ⟨⟨v5, c5⟩, y5⟩ := z5.cell HJ.out
   have B5 := Lib.hid b5
   have Z5 := Lib.hid (z5.set HJ.out hs5 hc5)
   clear b5 z5 hb5 hs5 hc5
   go_wp2
   go_roundw
   case rel => exact ⟨j + 1, by simp, HJ.out, Lib.hid (B5.out.setCell (by simp) _), Z5⟩
   case measure => have := HJ.out; simp [intOf]; omega
  ·have hd1 : decide ((j : Int) < 64) = false := decide_eq_false (by omega)
   obtain rfl : j = 64 := by omega
   clear hlt
   go_wp2
   go_ret
   exact ⟨rfl, HZ.out, HB.out⟩
end Go.Proofs.YtinjbdgjcadodaaGreatDoor.St
namespace Go.Proofs.YtinjbdgjcadodaaGreatDoor.St
open Go Go.RowKit Words Enc Go.Proofs.YtinjbdgjcadodaaGreatDoor.Made Dsk Seg Evt Fol
open Go.Proofs.YtinjbdgjcadodaaGreatDoor.Fd (XS xsX xsO xsC Feed FeedAt FNext Part SegS blk bx hdA Rise evsP)
theorem good_one {x : Nat} {e : Ev} (hw : e.writer = (x : Int)) (hq : e.seq = 1) (hr : Right e) (hn : e.num < 18446744073709551616) (hp : plainE e = e) (ht : e.text.length ≤ 29) : Fd.Good x 0 1 [Part.full x (part1 x e)] := by
 refine ⟨⟨⟨rfl, by simp [Part.full, part1], ?_, Nat.le_refl _⟩, trivial⟩, by omega, by simp [evsP, Part.full, part1], by omega, by simp [evsP, Part.full, part1]⟩
 show Runs (x : Int) 1 [plainE e]
 rw [hp]
 exact ⟨⟨hw, hq, hr, hn, hp, ht⟩, trivial⟩
def oneN (nd i : Nat) : Nat := if i = nd then 1 else 0
def oneE (nd : Nat) (y : Ev) (i : Nat) : List Ev := if i = nd then [y] else []
structure First (w0 w : World) (X : List Nat) (g nd n : Nat) (s : Sto) (y : Ev) : Prop where
 below : Below w0.heap.size w0 w
 low : w0.heap.size ≤ g
 sto : StoAt w g s
 node : s.node = (nd : Int)
 ck : s.ck = y.time
 tm : s.tm = 0
 fl : s.fl = .slice none 0 0
 jn : ∀ k, k < 64 → s.J.getD k false = decide (k < n)
 rt : ∀ k, k < 64 → s.R.getD k false = false
 gX : g ∉ X
 nexts : ∀ W, Beside X w W → Nexts s (oneN nd) W
 alls : ∃ O, ∀ W, Beside X w W → Alls O s (oneE nd y) W
 base : ∃ db mb, s.base = .pointer (some ⟨db, 0, none⟩) ∧ ∀ W, Beside X w W → FoldAt W [db, mb] db mb (newF n)
theorem First.beside {w0 w W : World} {X : List Nat} {g nd n : Nat} {s : Sto} {y : Ev} (h : First w0 w X g nd n s y) (hb : Beside X w W) (hX : ∀ k ∈ X, w0.heap.size ≤ k) : First w0 W X g nd n s y :=
 ⟨Below.beside h.below hb h.below.size hX, h.low, h.sto.beside hb h.gX, h.node, h.ck, h.tm, h.fl, h.jn, h.rt, h.gX, fun V hV => h.nexts V (hb.trans hV fun k hk => .inl hk), by obtain ⟨O, ho⟩ := h.alls; exact ⟨O, fun V hV => ho V (hb.trans hV fun k hk => .inl hk)⟩, by obtain ⟨db, mb, h1, h2⟩ := h.base; exact ⟨db, mb, h1, fun V hV => h2 V (hb.trans hV fun k hk => .inl hk)⟩⟩
theorem First.next {w0 w W : World} {X : List Nat} {g nd n : Nat} {s : Sto} {y : Ev} (h : First w0 w X g nd n s y) (hb : Below w.heap.size w W) : First w0 W X g nd n s y :=
 ⟨h.below.trans (hb.mono h.below.size), h.low, h.sto.below hb, h.node, h.ck, h.tm, h.fl, h.jn, h.rt, h.gX, fun V hV => h.nexts V ((Beside.of_below hb X).trans hV fun k hk => .inl hk), by obtain ⟨O, ho⟩ := h.alls; exact ⟨O, fun V hV => ho V ((Beside.of_below hb X).trans hV fun k hk => .inl hk)⟩, by obtain ⟨db, mb, h1, h2⟩ := h.base; exact ⟨db, mb, h1, fun V hV => h2 V ((Beside.of_below hb X).trans hV fun k hk => .inl hk)⟩⟩
theorem ptr_inj {l : List Value} {i a b : Nat} (h : l[i]? = some (.pointer (some ⟨a, 0, none⟩))) (k : l[i]? = some (.pointer (some ⟨b, 0, none⟩))) : a = b := by
 rw [h] at k
 injection k with k
 injection k with k
 injection k with k
 injection k with k
set_option maxHeartbeats 1000000 in
theorem Fresh.first {w0 wa w : World} {d g nd n C : Nat} {sz : Int} {hnd : nd < 64} {s : Sto} {S : List Nat} {f : Nat} (X : List Nat) (h : Fresh w0 wa d g nd n C sz hnd s S f) (hfr : Below wa.heap.size wa w) (hX : ∀ k ∈ X, wa.heap.size ≤ k ∧ k < w.heap.size) (T : Chk.Tabs w0) (ST : STabs w0) (hC : C ≤ 1000000) (hC0 : 10000 ≤ C) (hn : nd < n)
  (ev : Ev) (Be : Option Addr) (me ke : Nat) (hs : Sees w Be me ev.text) (hout : Out (g :: (S ++ [f])) Be me) (hfit : ev.Fit) (htx : ev.text.length ≤ 29) (hkey : ev.key.size ≤ 1048576) (hw : rightE (asOwn ev nd 1 1) = 0) (hp : plainE (asOwn ev nd 1 1) = asOwn ev nd 1 1) (hk : ev.kind ≤ 4) :
  Calls Tryz.prog 7 #[.pointer (some ⟨g, 0, none⟩), ev.val Be me ke] w fun e w' => ∃ A c k, e = .returned (.tuple #[(asOwn ev nd 1 1).val A c k, .int .i64 0]) ∧ Sees w' A c ev.text ∧ First w0 w' X g nd n (noteS s (asOwn ev nd 1 1)) (asOwn ev nd 1 1) ∧ Beside (g :: (S ++ [f])) w w' := by
 have F2 := h.next hfr
 have hgl : g < wa.heap.size := h.sto.lt
 have hSl : ∀ k ∈ S, k < wa.heap.size := h.disk.lt
 have hfl : f < wa.heap.size := h.bare.1.lt
 have hright : Right (asOwn ev nd 1 1) := (right_iff _).1 hw
 have hnum : ev.num < 18446744073709551616 := hfit.q
 refine (Fresh.fineY X (fun k hk => (hX k hk).2) F2 T ST hC hC0 hn ev Be me ke hs hout hfit (by omega) hkey hw (fun h5 => by omega)).mono ?_
 rintro e w' ⟨⟨A', n', c', rfl, h2, h3, ⟨acts', O', h4, h5, h6⟩, h7⟩, h8⟩
 rw [hp] at h2 ⊢
 have hoff : ∀ k, wa.heap.size ≤ k → k ∉ g :: (S ++ [f]) := fun k hk hm => by
  rcases List.mem_cons.1 hm with rfl | hm
  ·omega
  ·rcases List.mem_append.1 hm with hm | hm
   ·have := hSl k hm; omega
   ·simp at hm; omega
 have hJ : ∀ k, (noteS s (asOwn ev nd 1 1)).J.getD k false = s.J.getD k false := fun k => by
  show (if ev.kind = 5 then _ else s.J).getD k false = _
  rw [if_neg (by omega)]
 have hR : ∀ k, (noteS s (asOwn ev nd 1 1)).R.getD k false = s.R.getD k false := fun k => by
  show (if ev.kind = 6 then _ else s.R).getD k false = _
  rw [if_neg (by omega)]
 have hG := good_one (x := nd) (e := asOwn ev nd 1 1) rfl rfl hright hnum hp htx
 have own : ∀ i, i < 64 → ∃ f', s.F[i]? = some (.pointer (some ⟨f', 0, none⟩)) ∧ (i = nd → f' = f) ∧ (i ≠ nd → ∀ W, Beside X w' W → Bare W d f' i sz) := fun i hi => by
  obtain ⟨f', i1, i2, i3, i4⟩ := F2.all i hi
  refine ⟨f', i1, fun e => ?_, fun e W hW => ?_⟩
  ·subst e
   exact ptr_inj i1 F2.own
  ·have hne : f' ∉ g :: (S ++ [f]) := fun hm => by
    rcases List.mem_cons.1 hm with rfl | hm
    ·exact i3 (by simp)
    ·rcases List.mem_append.1 hm with hm | hm
     ·exact i3 (List.mem_cons_of_mem _ hm)
     ·simp at hm
      subst hm
      have h9 := F2.bare.1
      unfold Bare at h9 i2
      rw [i2] at h9
      injection h9 with h9
      injection h9 with h9
      have := congrArg (fun r => r[1]?) h9
      simp [Fd.cells] at this
      omega
   have hB' := (h7.block f' i2.lt hne).trans i2
   obtain ⟨f2, j1, j2, -⟩ := h.all i hi
   have hff := ptr_inj i1 j1
   subst hff
   exact (hW.block f' (Array.getElem?_eq_some_iff.1 hB').1 (fun hm => by have := (hX f' hm).1; have := j2.lt; omega)).trans hB'
 have feed : ∀ W, Beside X w' W → @Feed (ixS (g :: (w.heap.size + 1) :: X) nd C hnd hC) W d f nd sz 0 0 [Part.full nd (part1 nd (asOwn ev nd 1 1))] 0 O' (@hdA (ixS (g :: (w.heap.size + 1) :: X) nd C hnd hC) acts') := fun W hW =>
  @feed_beside (ixS (g :: (w.heap.size + 1) :: X) nd C hnd hC) _ _ _ _ _ _ _ _ _ _ _ _ h5 _ hW (fun k hk => by
   show k ∈ g :: (w.heap.size + 1) :: X
   exact List.mem_cons_of_mem _ (List.mem_cons_of_mem _ hk)) (fun k hk hm => by
   have hk2 := hX k hk
   rcases h6 k hm with h9 | h9
   ·exact hoff k hk2.1 (List.mem_cons_of_mem _ h9)
   ·omega)
 refine ⟨A', n', c', rfl, h2, ⟨h8.below, F2.new g (by simp), h3, h.node, rfl, h.tm, h.fl, fun k hk => (hJ k).trans (h.jn k hk), fun k hk => (hR k).trans (h.rt k hk), fun hm => by have := (hX g hm).1; omega, fun W hW i hi => ?_, ⟨O', fun W hW i hi => ?_⟩, ?_⟩, h7⟩
 ·refine ⟨by unfold oneN; split <;> omega, ?_⟩
  obtain ⟨f', i1, i2, i3⟩ := own i hi
  refine ⟨f', i1, fun V hV => ?_⟩
  by_cases hi0 : i = nd
  ·have := i2 hi0
   subst this
   subst hi0
   have hF := @Fd.Feed.below (ixS (g :: (w.heap.size + 1) :: X) i C hnd hC) _ _ _ _ _ _ _ _ _ _ _ _ (feed W hW) hV
   have := @Fd.nextF_any (ixS (g :: (w.heap.size + 1) :: X) i C hnd hC) _ _ _ _ _ _ _ _ _ _ _ _ hF hG
   simp only [oneN, if_true]
   exact this
  ·have hV' := (i3 hi0 W hW).below hV
   have := Fd.next_bare d f' (i : Int) sz 0 0 none 0 0 V hV' (by omega)
   simp only [oneN, hi0, if_false]
   exact this
 ·obtain ⟨f', i1, i2, i3⟩ := own i hi
  refine ⟨f', i1, fun V B hV hB => ?_⟩
  by_cases hi0 : i = nd
  ·have := i2 hi0
   subst this
   subst hi0
   have hF := @Fd.Feed.below (ixS (g :: (w.heap.size + 1) :: X) i C hnd hC) _ _ _ _ _ _ _ _ _ _ _ _ (feed W hW) hV
   refine (@Fd.all_anyB (ixS (g :: (w.heap.size + 1) :: X) i C hnd hC) _ _ _ _ _ _ _ _ _ _ _ _ hF hG B W (feed W hW) hV hB).mono ?_
   rintro e V' ⟨A, a, c, j1, j2, j3, j4⟩
   refine ⟨A, a, c, j1, ?_, j3, j4⟩
   have he : (evsP [Part.full i (part1 i (asOwn ev i 1 1))]).drop (0 + 1 - 1) = oneE i (asOwn ev i 1 1) i := by
    simp [evsP, Part.full, part1, oneE, hp]
   rw [he] at j2
   exact j2
  ·have hV' := (i3 hi0 W hW).below hV
   refine (Fd.all0 d f' (i : Int) sz 0 V hV').mono ?_
   rintro e V' ⟨rfl, hb⟩
   refine ⟨none, 0, 0, rfl, ?_, ⟨by omega, by omega⟩, hb⟩
   simp only [oneE, hi0, if_false]
   exact SeesEv.nil _ _ _
 ·obtain ⟨db, mb, b1, b2, b3, b4, -⟩ := h.base
  have hl := b2.lt
  refine ⟨db, mb, b1, fun W hW => ?_⟩
  have hfd : f ≠ db := fun e => by
   have r1 := b2.row
   have r2 := h.bare.1
   unfold Bare at r2
   rw [← e, r2] at r1
   injection r1 with r1
   injection r1 with r1 r3 r4
   exact absurd r3 (by decide)
  have hfm : f ≠ mb := fun e => by
   obtain ⟨L, hm, -⟩ := b2.map
   obtain ⟨D, ⟨es, clock, hb, r⟩, -⟩ := hm
   have r2 := h.bare.1
   unfold Bare at r2
   rw [← e, r2] at hb
   cases hb
  have f1 := b2.below hfr
  have f2 := fold_any f1 rfl (S' := db :: mb :: (g :: (S ++ [f]))) (by simp) (by simp)
  have f3 := f2.beside h7 (fun x hx => .inl ⟨List.mem_cons_of_mem _ (List.mem_cons_of_mem _ hx), fun e => by
   subst e
   rcases List.mem_cons.1 hx with e | hx
   ·exact b3 (by rw [e]; simp)
   ·rcases List.mem_append.1 hx with hx | hx
    ·exact b3 (List.mem_cons_of_mem _ hx)
    ·simp at hx; exact hfd hx.symm, fun e => by
   subst e
   rcases List.mem_cons.1 hx with e | hx
   ·exact b4 (by rw [e]; simp)
   ·rcases List.mem_append.1 hx with hx | hx
    ·exact b4 (List.mem_cons_of_mem _ hx)
    ·simp at hx; exact hfm hx.symm⟩)
  have f4 := fold_any f3 rfl (S' := db :: mb :: X) (by simp) (by simp)
  have f5 := f4.beside hW (fun x hx => .inl ⟨List.mem_cons_of_mem _ (List.mem_cons_of_mem _ hx), fun e => by have := (hX x hx).1; omega, fun e => by have := (hX x hx).1; omega⟩)
  exact fold_any f5 rfl (by simp) (by simp)
end Go.Proofs.YtinjbdgjcadodaaGreatDoor.St
namespace Go.Proofs
open Go.Shelf
def Tryz.clone222_ren : Go.Shelf.Ren := ⟨fun | 5 => 222 | 7 => 274 | n => n, fun | 23 => 208 | 25 => 9 | 3 => 63 | 4 => 4 | 20 => 20 | n => n, fun | n => n⟩
theorem Tryz.clone222 : Go.Proofs.SlLaysW.n5 Tryz.prog Tryz.clone222_ren := {
 mixed := by kernel_rfl
 f5 := ⟨Tryz.f222.name, by decide, Tryz.func222.trans (congrArg some (by kernel_rfl))⟩
 f7 := Tryz.func274.trans (congrArg some (by kernel_rfl))
 t4 := Tryz.underlying4
 a4 := Tryz.isAgg4
 z4 := Tryz.sizeOf4
 v4 := Tryz.zeroValue4
 t20 := Tryz.underlying20
 a20 := Tryz.isAgg20
 z20 := Tryz.sizeOf20
 v20 := Tryz.zeroValue20
 t23 := Tryz.underlying208
 a23 := Tryz.isAgg208
 z23 := Tryz.sizeOf208
 v23 := Tryz.zeroValue208 }
end Go.Proofs
