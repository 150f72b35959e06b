/- store: Open on an empty disk. talk: New; Begin that tells nothing. talk: Begin: with whom none can be begun; no further serial number. talk: Begin, begun. talk: Hear of nobody; Coming and Serial. -/
import Derived.StillTailTactics
import Derived.Deep.RegionHeld3
import Derived.Test.YtinjbdgjcadodaaGreatDoorTNp20
import Derived.Test.YtinjbdgjcadodaaGreatDoorTNp22
import Derived.Test.YtinjbdgjcadodaaGreatDoorTNp28
namespace Go.Proofs.YtinjbdgjcadodaaGreatDoor.St
open Go Go.RowKit Go.Proofs.YtinjbdgjcadodaaGreatDoor.Words Go.Proofs.YtinjbdgjcadodaaGreatDoor.Enc Go.Proofs.YtinjbdgjcadodaaGreatDoor.Made Go.Proofs.YtinjbdgjcadodaaGreatDoor.Dsk Go.Proofs.YtinjbdgjcadodaaGreatDoor.Seg Go.Proofs.YtinjbdgjcadodaaGreatDoor.Fol
set_option linter.unusedVariables false
set_option linter.unusedSimpArgs false

/-- A store's struct as it is made. -/
def stoZ (d : Nat) (sz : Int) : Sto := ⟨d, sz, 0, 0, .slice none 0 0, 0, ⟨#[]⟩, .pointer none, List.replicate 64 (.pointer none), 0, List.replicate 64 false, List.replicate 64 false⟩
/-- A new store's struct. -/
def sto0 (d : Nat) (sz : Int) (nd db n : Nat) (F : List Value) : Sto := ⟨d, sz, (nd : Int), 1, .slice none 0 0, 0, ⟨#[]⟩, .pointer (some ⟨db, 0, none⟩), F, 0, (newF n).J, (newF n).R⟩
theorem stoZ_ok (d : Nat) (sz : Int) : (stoZ d sz).Ok := ⟨by simp [stoZ], by simp [stoZ], by simp [stoZ]⟩
set_option maxRecDepth 100000 in
theorem build_sto (d : Nat) (sz : Int) (W : World) : (Instr.build 92 #[(0, .pointer (some ⟨d, 0, none⟩)), (1, .int .i64 sz)]).run Tryz.prog W = .ok (.agg (stoZ d sz).row) W := by kernel_rfl
theorem mN_plain (nd : Nat) : Lib.hasSuffix (mfile nd).name [46, 110, 101, 119] = false ∧ Lib.hasPrefix (mfile nd).name [102, 111, 108, 100, 45] = false ∧ (mfile nd).name.length ≤ 100000 :=
  ⟨by show Lib.hasSuffix Man.mN _ = false; decide, by show Lib.hasPrefix Man.mN _ = false; decide, by show Man.mN.length ≤ 100000; decide⟩
theorem mN_feed (nd : Nat) : NoFeed [mfile nd] := by
  intro x _ f hf
  simp only [List.mem_singleton] at hf
  subst hf
  show Lib.hasPrefix Man.mN (beginL (x : Int)) = false
  unfold beginL
  rfl
/-- A store that has been opened on an empty disk, without events. -/
structure New0 (w0 w : World) (d g nd n db C : Nat) (sz : Int) (S0 S : List Nat) (F : List Value) (B : Nat) : Prop where
  op : Opened B w g (sto0 d sz nd db n F) 64
  gB : g < B
  g0 : w0.heap.size ≤ g
  disk : Disk w d S [mfile nd] ⟨(C : Int), 4, -1, 0, false⟩
  new : ∀ k ∈ S, k ∈ S0 ∨ w0.heap.size ≤ k
  low : ∀ k ∈ S, k < B
  off : g ∉ S
  frame : Beside S0 w0 w
  fold : ∃ mb, FoldAt w [db, mb, g] db mb (newF n) ∧ db ∉ S ∧ mb ∉ S ∧ w0.heap.size ≤ db ∧ w0.heap.size ≤ mb
set_option maxRecDepth 100000 in
set_option maxHeartbeats 2000000 in
theorem open_0 (d nd n C : Nat) (sz : Int) (S0 : List Nat) (w : World) (hd : Disk w d S0 [] ⟨(C : Int), 0, -1, 0, false⟩) (T : TabsOn S0 w) (hnd : nd < 64) (hn : n ≤ 64) (hC : 10000 ≤ C ∧ C ≤ 1000000) :
    Calls Tryz.prog 31 #[.pointer (some ⟨d, 0, none⟩), .int .i64 (nd : Int), .int .i64 (n : Int), .int .i64 sz] w fun e w' => ∃ g db S F B, e = .returned (.tuple #[.pointer (some ⟨g, 0, none⟩), .int .i64 0]) ∧ New0 w w' d g nd n db C sz S0 S F B := by
  have d0 : decide ((nd : Int) < 0) = false := decide_eq_false (by omega)
  have d1 : decide ((64 : Int) ≤ (nd : Int)) = false := decide_eq_false (by omega)
  obtain ⟨R, hR⟩ : ∃ R, R = (stoZ d sz).row := ⟨_, rfl⟩
  have hbn := build_sto d sz w
  rw [← hR] at hbn
  have HBN := Lib.hid hbn
  have hb0 : Below w.heap.size w (w.alloc (.cells R 92)) := (Below.refl _ _).alloc (Nat.le_refl _) _
  have hs0 : StoAt (w.alloc (.cells R 92)) w.heap.size (stoZ d sz) := ⟨by rw [← hR]; exact heap_alloc_new w _, stoZ_ok d sz⟩
  have HID := Lib.hid (identify_0 w.heap.size nd C (stoZ d sz) S0 _ hs0 (hd.below hb0) (fun hm => by have := hd.lt _ hm; omega) (T.below hb0) hnd hC)
  have HB0 := Lib.hid hb0
  have HDL := Lib.hid hd.lt
  have HTT := Lib.hid (T.below hb0)
  have HC := Lib.hid hC
  have T0 := Lib.hid T
  clear hbn hR hb0 hs0 hd T hC
  go_enter Tryz.func31, Tryz.ntmps31
  go_wp2_with (first | (refine wpList_build2 rfl 92 0 1 (.tmp 21) (.tmp 22) rfl (.pointer (some ⟨d, 0, none⟩)) (.int .i64 sz) (.agg R) rfl rfl HBN.out ?_))
  refine HID.out.mono ?_
  rintro e w1 ⟨rfl, hs1, hb1, S1, hd1, hn1⟩
  have hg1 : w.heap.size ∉ S1 := fun hm => by
    rcases hn1 _ hm with h | h
    · have := HDL.out _ h; omega
    · simp at h; omega
  have HRF := Lib.hid (readFold_0 w.heap.size n _ w1 hs1 rfl rfl hn)
  have H1 := Lib.hid (And.intro hs1 (And.intro hb1 (And.intro hd1 (And.intro hn1 hg1))))
  have HLT := Lib.hid hd1.lt
  clear hs1 hb1 hd1 hn1 hg1 HID
  go_wp2_with fail
  refine HRF.out.mono ?_
  rintro e w2 ⟨rfl, db, mb, hF, hdb, hmb, hs2, hb2⟩
  have hg0 : w.heap.size < (w.alloc (.cells R 92)).heap.size := by simp
  obtain ⟨hs1, hb1, hd1, hn1, hg1⟩ := H1.out
  have hlt1 : w.heap.size < w1.heap.size := Nat.lt_of_lt_of_le hg0 hb1.size
  have hfr1 : Beside S0 w w1 := (Beside.of_below HB0.out S0).trans hb1 fun k hk => by
    rcases List.mem_cons.1 hk with rfl | h
    · exact .inr (Nat.le_refl _)
    · exact .inl h
  have hn1' : ∀ k ∈ S1, k ∈ S0 ∨ w.heap.size ≤ k := fun k hk => (hn1 k hk).imp id (fun h => by omega)
  have hd2 : Disk w2 d S1 [mfile nd] ⟨(C : Int), 4, -1, 0, false⟩ := hd1.beside hb2 (by simpa using hg1)
  have hfr2 : Beside S0 w w2 := hfr1.trans hb2 fun k hk => .inr (by simp at hk; omega)
  have HCL := Lib.hid (clean_0 w.heap.size _ S1 (mfile nd) _ w2 hs2 hd2 rfl (mN_plain nd).2.2 (mN_plain nd).1 (mN_plain nd).2.1)
  have H2 := Lib.hid (And.intro hs2 (And.intro hd2 (And.intro hfr2 (And.intro hF (And.intro hdb (And.intro hmb hn1'))))))
  have HL := Lib.hid (And.intro hlt1 (And.intro hg1 hb2.size))
  clear hs1 hb1 hd1 hn1 hg1 hlt1 hfr1 hn1' hd2 hfr2 hs2 hb2 hF hdb hmb HRF H1 hg0
  go_wp2_with fail
  refine HCL.out.mono ?_
  rintro e w3 ⟨rfl, hb3⟩
  obtain ⟨hs2, hd2, hfr2, hF, hdb, hmb, hn1⟩ := H2.out
  obtain ⟨hlt1, hg1, hl12⟩ := HL.out
  have hfr3 : Beside S0 w w3 := hfr2.trans (Beside.of_below hb3 []) fun k hk => by cases hk
  have hs3 := hs2.below hb3
  have hd3 := hd2.below hb3
  have hF3 := hF.below hb3
  have HOF := Lib.hid (openFeeds_0 w.heap.size _ S1 [mfile nd] _ w3 hs3 hd3 hg1 (T0.out.next hfr3 fun k hk => by
    rcases List.mem_append.1 hk with h | h
    · exact hn1 k h
    · simp at h; exact .inr (by omega)) rfl (by simp) (mN_feed nd) rfl rfl)
  have H3 := Lib.hid (And.intro hd3 (And.intro hfr3 (And.intro hF3 (And.intro hn1 hd3.lt))))
  have hl3 : w.heap.size < w3.heap.size := by have := hb3.size; omega
  clear hs2 hd2 hfr2 hF hn1 hfr3 hs3 hd3 hF3 hb3 HCL H2
  have HDB := Lib.hid (And.intro hlt1 (And.intro hdb hmb))
  clear hlt1 hdb hmb hl12
  go_wp2_with fail
  refine HOF.out.mono ?_
  rintro e w4 ⟨rfl, F, hop, hb4⟩
  obtain ⟨hd3, hfr3, hF3, hn1, hlow⟩ := H3.out
  have hne : w.heap.size ≠ db ∧ w.heap.size ≠ mb := by have := HDB.out; omega
  have hF4 := hF3.beside hb4 (fun x hx => by
    simp at hx
    subst hx
    exact .inl ⟨by simp, hne.1, hne.2⟩)
  have hd4 : Disk w4 d S1 [mfile nd] ⟨(C : Int), 4, -1, 0, false⟩ := hd3.beside hb4 (by simpa using hg1)
  have hfr4 : Beside S0 w w4 := hfr3.trans hb4 fun k hk => .inr (by simp at hk; omega)
  have HEX := Lib.hid (examine_0 w3.heap.size w.heap.size _ (newF n) [db, mb, w.heap.size] db mb w4 hop hl3 hF4 (by simp) hne.1 hne.2 rfl)
  have H4 := Lib.hid (And.intro hd4 (And.intro hfr4 (And.intro hn1 (And.intro hlow (And.intro hl3 hg1)))))
  have HFD := Lib.hid (And.intro hF4 (And.intro hne HDB.out))
  clear hd3 hfr3 hF3 hn1 hlow hF4 hd4 hfr4 hop hb4 HOF H3 hne hl3 hg1 HDB HL
  go_wp2_with fail
  refine HEX.out.mono ?_
  rintro e w5 ⟨rfl, hop, hb5⟩
  obtain ⟨hd4, hfr4, hn1, hlow, hl3, hg1⟩ := H4.out
  have FIN := Lib.hid (⟨hop, hl3, Nat.le_refl _, hd4.beside hb5 (by simpa using hg1), hn1, hlow, hg1, hfr4.trans hb5 fun k hk => .inr (by simp at hk; omega), mb, HFD.out.1.beside hb5 (fun x hx => by simp at hx; subst hx; exact .inl ⟨by simp, HFD.out.2.1.1, HFD.out.2.1.2⟩), fun hm => by have := HLT.out _ hm; have := HFD.out.2.2; omega, fun hm => by have := HLT.out _ hm; have := HFD.out.2.2; omega, by have := HFD.out.2.2; omega, by have := HFD.out.2.2; omega⟩ : New0 w w5 d w.heap.size nd n db C sz S0 S1 F w3.heap.size)
  clear hd4 hfr4 hn1 hlow hl3 hg1 hop hb5 HEX H4
  go_wp2
  go_ret2
  exact ⟨_, _, _, _, _, rfl, FIN.out⟩
end Go.Proofs.YtinjbdgjcadodaaGreatDoor.St
namespace Go.Proofs.YtinjbdgjcadodaaGreatDoor.St
open Go Go.RowKit Go.Proofs.YtinjbdgjcadodaaGreatDoor.Words Go.Proofs.YtinjbdgjcadodaaGreatDoor.Enc Go.Proofs.YtinjbdgjcadodaaGreatDoor.Made Go.Proofs.YtinjbdgjcadodaaGreatDoor.Dsk Go.Proofs.YtinjbdgjcadodaaGreatDoor.Seg
set_option linter.unusedVariables false
set_option linter.unusedSimpArgs false

section
variable {P : Program} {ops : Array Oper} {rest : List Oper} {op : Oper} {a : Act} {w : World} {Q : Exit → Act → World → Prop}
theorem wpList_build3 (hgd : op.guard = none) (t : TypeId) (i j k : Nat) (x y z : Operand) (ho : op.op = .build t #[(i, x), (j, y), (k, z)]) (vx vy vz v : Value) (hx : a.eval x = vx) (hy : a.eval y = vy) (hz : a.eval z = vz)
    (hrun : (Instr.build t #[(i, vx), (j, vy), (k, vz)]).run P w = .ok v w) (h : wpList P ops Q rest (a.put op.dst v) w) : wpList P ops Q (op :: rest) a w := by
  refine wpList_plain hgd fun K hK => ?_
  unfold Oper.wp execOp
  simp only [ho, hx, hy, hz, List.map_toArray, List.map_cons, List.map_nil, Sem.run_bind, Sem.run_pure, Result.andThen_ok, hrun]
  exact hK _ _ h
end
def tkCells (a : Nat) (b c : Int) : List Value := [.int .u64 (a : Int), .int .i64 b, .int .i64 c] ++ (List.replicate 64 (.int .u64 0) ++ (List.replicate 64 (.int .u64 0) ++ [.pointer none]))
def tkRow (a : Nat) (b c : Int) : Array Value := (tkCells a b c).toArray
set_option maxRecDepth 100000 in
theorem build_tk (a : Nat) (b c : Int) (W : World) : (Instr.build 98 #[(0, .int .u64 (a : Int)), (1, .int .i64 b), (2, .int .i64 c)]).run Tryz.prog W = .ok (.agg (tkRow a b c)) W := by kernel_rfl
/-- Talks in memory. -/
structure TalkAt (w : World) (tb ser : Nat) : Prop where
  row : ∃ cur : Array Value, w.heap[tb]? = some (.cells cur 98 (0, 0)) ∧ cur.size = 132 ∧ cur[0]? = some (.int .u64 (ser : Int))
theorem TalkAt.lt {w : World} {tb ser : Nat} (h : TalkAt w tb ser) : tb < w.heap.size := by obtain ⟨_, h, _⟩ := h; exact (Array.getElem?_eq_some_iff.1 h).1
theorem TalkAt.beside {w w' : World} {tb ser : Nat} {S : List Nat} (h : TalkAt w tb ser) (hb : Beside S w w') (hs : tb ∉ S) : TalkAt w' tb ser := by
  have hl := h.lt
  obtain ⟨c, h1, h2⟩ := h
  exact ⟨c, (hb.block tb hl hs).trans h1, h2⟩
theorem TalkAt.below {w w' : World} {tb ser : Nat} (h : TalkAt w tb ser) (hb : Below w.heap.size w w') : TalkAt w' tb ser := h.beside (Beside.of_below hb []) (by simp)
theorem TalkAt.c0 {w : World} {tb ser : Nat} (h : TalkAt w tb ser) : w.cell? ⟨tb, 0, none⟩ = some (.int .u64 (ser : Int)) ∧ w.frozen? ⟨tb, 0, none⟩ = false := by
  obtain ⟨c, h1, h2, h3⟩ := h
  exact ⟨by rw [cell_of_row w tb _ _ _ _ h1]; exact h3, frozen_row0 h1⟩
theorem TalkAt.ck {w : World} {tb ser k : Nat} (h : TalkAt w tb ser) (hk : k < 132) : ∃ v, w.cell? ⟨tb, k, none⟩ = some v ∧ w.frozen? ⟨tb, k, none⟩ = false := by
  obtain ⟨c, h1, h2, h3⟩ := h
  exact ⟨_, by rw [cell_of_row w tb _ _ _ _ h1]; exact Array.getElem?_eq_getElem (by omega), frozen_row0 h1⟩
set_option maxRecDepth 100000 in
theorem newT_t (a : Nat) (b c : Int) (w : World) : Calls Tryz.prog 10 #[.int .u64 (a : Int), .int .i64 b, .int .i64 c] w fun e w' => e = .returned (.pointer (some ⟨w.heap.size, 0, none⟩)) ∧ TalkAt w' w.heap.size a ∧ Below w.heap.size w w' := by
  have HB := build_tk a b c w
  obtain ⟨R, hR⟩ : ∃ R, R = tkRow a b c := ⟨_, rfl⟩
  rw [← hR] at HB
  have HB := Lib.hid HB
  have FIN : Hid (TalkAt (w.alloc (.cells R 98)) w.heap.size a ∧ Below w.heap.size w (w.alloc (.cells R 98))) := Lib.hid ⟨⟨R, heap_alloc_new w _, by rw [hR]; simp [tkRow, tkCells], by rw [hR]; rfl⟩, (Below.refl _ _).alloc (Nat.le_refl _) _⟩
  clear hR
  go_enter Tryz.func10, Tryz.ntmps10
  go_wp2_with (first | (refine wpList_build3 rfl 98 0 1 2 (.tmp 7) (.tmp 8) (.tmp 9) rfl (.int .u64 (a : Int)) (.int .i64 b) (.int .i64 c) (.agg R) rfl rfl rfl HB.out ?_))
  go_ret
  exact ⟨rfl, FIN.out⟩
def lzEv : Value := .agg lzero
set_option maxRecDepth 100000 in
set_option maxHeartbeats 1000000 in
theorem begin_nilT (V M : Value) (to : Int) (w : World) : Calls Tryz.prog 8 #[.pointer none, V, M, .int .i64 to] w fun e w' => e = .returned (.tuple #[lzEv, .int .i64 2]) ∧ Below w.heap.size w w' := by
  have hbu := (Below.refl w.heap.size w).alloc (Nat.le_refl _) (.cells lzero 31)
  have G := Lib.hid (heap_alloc_new w (.cells lzero 31))
  have HB := Lib.hid hbu
  clear hbu
  go_enter Tryz.func8, Tryz.ntmps8
  go_wp2_with (first
    | (refine wpList_putRow rfl 31 (.tmp 8) (.tmp 16) rfl w.heap.size 31 lzero lzero rfl rfl G.out (by kernel_rfl) rfl (by simp [lzero, Value.oneCell']) ?_))
  intro w4 hW4 hbe4
  have FIN := Lib.hid (Below.beside HB.out hbe4 HB.out.size (by simp))
  unfold lzero at hW4
  obtain ⟨⟨k0, k1, k2, k3, k4, k5, k6⟩, k7, k8, k9, k10, k11, k12, k13⟩ := box14 hW4
  clear hW4 hbe4
  go_wp2
  refine bodyPost_ret (v := .tuple #[lzEv, .int .i64 2]) ?_ rfl ⟨rfl, FIN.out⟩
  simp [results, lzEv, lzero, Tryz.results8, go_sem, k0, k1, k2, k3, k4, k5, k6, k7, k8, k9, k10, k11, k12, k13]
set_option maxRecDepth 100000 in
set_option maxHeartbeats 1000000 in
theorem begin_nilS (tb : Nat) (M : Value) (to : Int) (w : World) : Calls Tryz.prog 8 #[.pointer (some ⟨tb, 0, none⟩), .pointer none, M, .int .i64 to] w fun e w' => e = .returned (.tuple #[lzEv, .int .i64 2]) ∧ Below w.heap.size w w' := by
  have hbu := (Below.refl w.heap.size w).alloc (Nat.le_refl _) (.cells lzero 31)
  have G := Lib.hid (heap_alloc_new w (.cells lzero 31))
  have HB := Lib.hid hbu
  clear hbu
  go_enter Tryz.func8, Tryz.ntmps8
  go_wp2_with (first
    | (refine wpList_putRow rfl 31 (.tmp 8) (.tmp 16) rfl w.heap.size 31 lzero lzero rfl rfl G.out (by kernel_rfl) rfl (by simp [lzero, Value.oneCell']) ?_))
  intro w4 hW4 hbe4
  have FIN := Lib.hid (Below.beside HB.out hbe4 HB.out.size (by simp))
  unfold lzero at hW4
  obtain ⟨⟨k0, k1, k2, k3, k4, k5, k6⟩, k7, k8, k9, k10, k11, k12, k13⟩ := box14 hW4
  clear hW4 hbe4
  go_wp2
  refine bodyPost_ret (v := .tuple #[lzEv, .int .i64 2]) ?_ rfl ⟨rfl, FIN.out⟩
  simp [results, lzEv, lzero, Tryz.results8, go_sem, k0, k1, k2, k3, k4, k5, k6, k7, k8, k9, k10, k11, k12, k13]
end Go.Proofs.YtinjbdgjcadodaaGreatDoor.St
namespace Go.Proofs.YtinjbdgjcadodaaGreatDoor.St
open Go Go.RowKit Go.Proofs.YtinjbdgjcadodaaGreatDoor.Words Go.Proofs.YtinjbdgjcadodaaGreatDoor.Enc Go.Proofs.YtinjbdgjcadodaaGreatDoor.Made Go.Proofs.YtinjbdgjcadodaaGreatDoor.Dsk Go.Proofs.YtinjbdgjcadodaaGreatDoor.Seg
set_option linter.unusedVariables false
set_option linter.unusedSimpArgs false

set_option maxRecDepth 100000 in
theorem nodeT (to : Int) (w : World) : Calls Tryz.prog 40 #[.int .i64 to] w fun e w' => e = .returned (.bool (decide (0 ≤ to ∧ to < 64))) ∧ w' = w := by
  go_enter Tryz.func40, Tryz.ntmps40
  by_cases h0 : 0 ≤ to
  · by_cases h1 : to < 64
    · have q0 : decide ((0 : Int) ≤ to) = true := decide_eq_true h0
      have q1 : decide (to < (64 : Int)) = true := decide_eq_true h1
      have q : decide (0 ≤ to ∧ to < 64) = true := decide_eq_true ⟨h0, h1⟩
      rw [q]
      clear h0 h1 q
      go_wp2
      go_ret
      exact ⟨rfl, rfl⟩
    · have q0 : decide ((0 : Int) ≤ to) = true := decide_eq_true h0
      have q1 : decide (to < (64 : Int)) = false := decide_eq_false h1
      have q : decide (0 ≤ to ∧ to < 64) = false := decide_eq_false (by omega)
      rw [q]
      clear h0 h1 q
      go_wp2
      go_ret
      exact ⟨rfl, rfl⟩
  · have q0 : decide ((0 : Int) ≤ to) = false := decide_eq_false h0
    have q : decide (0 ≤ to ∧ to < 64) = false := decide_eq_false (by omega)
    rw [q]
    clear h0 q
    go_wp2
    go_ret
    exact ⟨rfl, rfl⟩
set_option maxRecDepth 100000 in
set_option maxHeartbeats 1000000 in
theorem begin_none (tb g mb nd : Nat) (s : Sto) (to : Int) (w : World) (hs : StoAt w g s) (hn : s.node = (nd : Int)) (hto : ¬ (0 ≤ to ∧ to < 64)) : Calls Tryz.prog 8 #[.pointer (some ⟨tb, 0, none⟩), .pointer (some ⟨g, 0, none⟩), .pointer (some ⟨mb, 0, none⟩), .int .i64 to] w fun e w' => e = .returned (.tuple #[lzEv, .int .i64 1]) ∧ Below w.heap.size w w' := by
  have hbu := (Below.refl w.heap.size w).alloc (Nat.le_refl _) (.cells lzero 31)
  obtain ⟨u, hu⟩ : ∃ u, u = w.alloc (.cells lzero 31) := ⟨_, rfl⟩
  rw [← hu] at hbu
  have G := Lib.hid (show u.heap[w.heap.size]? = some (.cells lzero 31 (0, 0)) by rw [hu]; exact heap_alloc_new w (.cells lzero 31))
  have HB := Lib.hid hbu
  have NT := nodeT to u
  have ND := node_any g s u (hs.below hbu)
  rw [hn] at ND
  have ND := Lib.hid ND
  rw [decide_eq_false hto] at NT
  have NT := Lib.hid NT
  clear hto
  unfold lzero at hu
  have HU := Lib.hid hu
  clear hu hbu hs hn
  go_enter Tryz.func8, Tryz.ntmps8
  go_wp2_with fail
  rw [← HU.out]
  refine NT.out.mono ?_
  rintro e w1 ⟨rfl, hw1⟩
  subst hw1
  obtain ⟨b8, hb8⟩ : ∃ b8, b8 = w.heap.size := ⟨_, rfl⟩
  rw [← hb8] at G ⊢
  have HB8 := Lib.hid hb8
  clear hb8
  go_wp2_with (first
    | (refine wpList_putRow rfl 31 (.tmp 8) (.tmp 25) rfl b8 31 lzero lzero rfl rfl G.out (by kernel_rfl) rfl (by simp [lzero, Value.oneCell']) ?_))
  intro w4 hW4 hbe4
  have FIN := Lib.hid (Below.beside HB.out hbe4 HB.out.size (by simp; have := HB8.out; omega))
  unfold lzero at hW4
  obtain ⟨⟨k0, k1, k2, k3, k4, k5, k6⟩, k7, k8, k9, k10, k11, k12, k13⟩ := box14 hW4
  clear hW4 hbe4
  go_wp2
  refine bodyPost_ret (v := .tuple #[lzEv, .int .i64 1]) ?_ rfl ⟨rfl, FIN.out⟩
  simp [results, lzEv, lzero, Tryz.results8, go_sem, k0, k1, k2, k3, k4, k5, k6, k7, k8, k9, k10, k11, k12, k13]
set_option maxRecDepth 100000 in
set_option maxHeartbeats 1000000 in
theorem begin_self (tb g mb nd : Nat) (s : Sto) (to : Int) (w : World) (hs : StoAt w g s) (hn : s.node = (nd : Int)) (hto : to = (nd : Int)) (hnd : nd < 64) : Calls Tryz.prog 8 #[.pointer (some ⟨tb, 0, none⟩), .pointer (some ⟨g, 0, none⟩), .pointer (some ⟨mb, 0, none⟩), .int .i64 to] w fun e w' => e = .returned (.tuple #[lzEv, .int .i64 1]) ∧ Below w.heap.size w w' := by
  have hbu := (Below.refl w.heap.size w).alloc (Nat.le_refl _) (.cells lzero 31)
  obtain ⟨u, hu⟩ : ∃ u, u = w.alloc (.cells lzero 31) := ⟨_, rfl⟩
  rw [← hu] at hbu
  have G := Lib.hid (show u.heap[w.heap.size]? = some (.cells lzero 31 (0, 0)) by rw [hu]; exact heap_alloc_new w (.cells lzero 31))
  have HB := Lib.hid hbu
  have NT := nodeT to u
  have ND := node_any g s u (hs.below hbu)
  rw [hn] at ND
  have ND := Lib.hid ND
  rw [decide_eq_true (by omega)] at NT
  have NT := Lib.hid NT
  have hq : (to == (nd : Int)) = true := by rw [hto]; simp
  subst hto
  clear hnd
  unfold lzero at hu
  have HU := Lib.hid hu
  clear hu hbu hs hn
  go_enter Tryz.func8, Tryz.ntmps8
  go_wp2_with fail
  rw [← HU.out]
  refine NT.out.mono ?_
  rintro e w1 ⟨rfl, hw1⟩
  subst hw1
  go_wp2_with fail
  refine ND.out.mono ?_
  rintro e w1 ⟨rfl, hw1⟩
  subst hw1
  obtain ⟨b8, hb8⟩ : ∃ b8, b8 = w.heap.size := ⟨_, rfl⟩
  rw [← hb8] at G ⊢
  have HB8 := Lib.hid hb8
  clear hb8
  go_wp2_with (first
    | (refine wpList_putRow rfl 31 (.tmp 8) (.tmp 25) rfl b8 31 lzero lzero rfl rfl G.out (by kernel_rfl) rfl (by simp [lzero, Value.oneCell']) ?_))
  intro w4 hW4 hbe4
  have FIN := Lib.hid (Below.beside HB.out hbe4 HB.out.size (by simp; have := HB8.out; omega))
  unfold lzero at hW4
  obtain ⟨⟨k0, k1, k2, k3, k4, k5, k6⟩, k7, k8, k9, k10, k11, k12, k13⟩ := box14 hW4
  clear hW4 hbe4
  go_wp2
  refine bodyPost_ret (v := .tuple #[lzEv, .int .i64 1]) ?_ rfl ⟨rfl, FIN.out⟩
  simp [results, lzEv, lzero, Tryz.results8, go_sem, k0, k1, k2, k3, k4, k5, k6, k7, k8, k9, k10, k11, k12, k13]
set_option maxRecDepth 100000 in
set_option maxHeartbeats 1000000 in
theorem begin_end (tb g mb nd : Nat) (s : Sto) (to : Int) (w : World) (hs : StoAt w g s) (hn : s.node = (nd : Int)) (ser : Nat) (ht : TalkAt w tb ser) (hto : 0 ≤ to ∧ to < 64) (hne : to ≠ (nd : Int)) (hser : 9223372036854775807 ≤ ser) : Calls Tryz.prog 8 #[.pointer (some ⟨tb, 0, none⟩), .pointer (some ⟨g, 0, none⟩), .pointer (some ⟨mb, 0, none⟩), .int .i64 to] w fun e w' => e = .returned (.tuple #[lzEv, .int .i64 8]) ∧ Below w.heap.size w w' := by
  have hbu := (Below.refl w.heap.size w).alloc (Nat.le_refl _) (.cells lzero 31)
  obtain ⟨u, hu⟩ : ∃ u, u = w.alloc (.cells lzero 31) := ⟨_, rfl⟩
  rw [← hu] at hbu
  have G := Lib.hid (show u.heap[w.heap.size]? = some (.cells lzero 31 (0, 0)) by rw [hu]; exact heap_alloc_new w (.cells lzero 31))
  have HB := Lib.hid hbu
  have NT := nodeT to u
  have ND := node_any g s u (hs.below hbu)
  rw [hn] at ND
  have ND := Lib.hid ND
  rw [decide_eq_true hto] at NT
  have NT := Lib.hid NT
  have hq : (to == (nd : Int)) = false := by rw [beq_eq_false_iff_ne]; exact hne
  obtain ⟨c0, _⟩ := (ht.below hbu).c0
  have hq2 : decide ((9223372036854775807 : Int) ≤ (ser : Int)) = true := decide_eq_true (by omega)
  clear hto hne hser ht
  unfold lzero at hu
  have HU := Lib.hid hu
  clear hu hbu hs hn
  go_enter Tryz.func8, Tryz.ntmps8
  go_wp2_with fail
  rw [← HU.out]
  refine NT.out.mono ?_
  rintro e w1 ⟨rfl, hw1⟩
  subst hw1
  go_wp2_with fail
  refine ND.out.mono ?_
  rintro e w1 ⟨rfl, hw1⟩
  subst hw1
  obtain ⟨b8, hb8⟩ : ∃ b8, b8 = w.heap.size := ⟨_, rfl⟩
  rw [← hb8] at G ⊢
  have HB8 := Lib.hid hb8
  clear hb8
  go_wp2_with (first
    | (refine wpList_putRow rfl 31 (.tmp 8) (.tmp 32) rfl b8 31 lzero lzero rfl rfl G.out (by kernel_rfl) rfl (by simp [lzero, Value.oneCell']) ?_))
  intro w4 hW4 hbe4
  have FIN := Lib.hid (Below.beside HB.out hbe4 HB.out.size (by simp; have := HB8.out; omega))
  unfold lzero at hW4
  obtain ⟨⟨k0, k1, k2, k3, k4, k5, k6⟩, k7, k8, k9, k10, k11, k12, k13⟩ := box14 hW4
  clear hW4 hbe4
  go_wp2
  refine bodyPost_ret (v := .tuple #[lzEv, .int .i64 8]) ?_ rfl ⟨rfl, FIN.out⟩
  simp [results, lzEv, lzero, Tryz.results8, go_sem, k0, k1, k2, k3, k4, k5, k6, k7, k8, k9, k10, k11, k12, k13]
end Go.Proofs.YtinjbdgjcadodaaGreatDoor.St
namespace Go.Proofs.YtinjbdgjcadodaaGreatDoor.St
open Go Go.RowKit Go.Proofs.YtinjbdgjcadodaaGreatDoor.Words Go.Proofs.YtinjbdgjcadodaaGreatDoor.Enc Go.Proofs.YtinjbdgjcadodaaGreatDoor.Made Go.Proofs.YtinjbdgjcadodaaGreatDoor.Dsk Go.Proofs.YtinjbdgjcadodaaGreatDoor.Seg
open Go.Proofs.YtinjbdgjcadodaaGreatDoor.Mtx (Hav noHav MatAt)
set_option linter.unusedVariables false
set_option linter.unusedSimpArgs false

theorem und_some : (Tryz.prog.underlying 31).isSome = true := by kernel_rfl
theorem und_L : Tryz.prog.underlying 31 = some ((Tryz.prog.underlying 31).get und_some) := (Option.some_get _).symm
theorem und_row2 : (match (Tryz.prog.underlying 31).get und_some with | .struct _ | .array _ _ => true | _ => false) = true := by kernel_rfl
theorem TalkAt.set0 {w : World} {tb ser : Nat} (h : TalkAt w tb ser) (x : Nat) : TalkAt (w.setCell ⟨tb, 0, none⟩ (.int .u64 (x : Int))) tb x := by
  obtain ⟨c, h1, h2, h3⟩ := h
  exact ⟨_, heapSame h1, by simp [h2], by rw [Array.getElem?_setIfInBounds_self_of_lt (by omega)]⟩
theorem TalkAt.setK {w : World} {tb ser : Nat} (h : TalkAt w tb ser) (k : Nat) (v : Value) : TalkAt (w.setCell ⟨tb, 3 + k, none⟩ v) tb ser := by
  obtain ⟨c, h1, h2, h3⟩ := h
  exact ⟨_, heapSame h1, by simp [h2], by rw [Array.getElem?_setIfInBounds_ne (by omega)]; exact h3⟩
theorem mat_no {mb : Nat} {S : List Nat} {W W' : World} (h : MatAt mb (fun _ => noHav) W) (hb : Beside S W W') (hm : mb ∉ S) : MatAt mb (fun _ => noHav) W' := mat_off h hb hm fun i _ a ha => by cases ha
set_option maxRecDepth 100000 in
set_option maxHeartbeats 2000000 in
theorem begin_ok (tb g mb nd to ser : Nat) (s : Sto) (N : Nat → Nat) (w : World) (hs : StoAt w g s) (hn : s.node = (nd : Int)) (hnd : nd < 64) (hck : s.ck < 18446744073709551616) (hN2 : ∀ W, Beside [mb, tb] w W → Nexts s N W) (hM : MatAt mb (fun _ => noHav) w) (ht : TalkAt w tb ser) (hto : to < 64) (hne : to ≠ nd) (hser : ser < 9223372036854775807) (hgm : g ≠ mb) (hgt : g ≠ tb) (hmt : mb ≠ tb) :
    Calls Tryz.prog 8 #[.pointer (some ⟨tb, 0, none⟩), .pointer (some ⟨g, 0, none⟩), .pointer (some ⟨mb, 0, none⟩), .int .i64 (to : Int)] w fun e w' => ∃ A n c A2 n2 c2, e = .returned (.tuple #[.agg (lrow 1 (nd : Int) (to : Int) true (ser + 1) (.slice A n c) (.slice A2 n2 c2)), .int .i64 0]) ∧ TalkAt w' tb (ser + 1) ∧ Beside [mb, tb] w w' := by
  have hbu := (Below.refl w.heap.size w).alloc (Nat.le_refl _) (.cells lzero 31)
  obtain ⟨u, hu⟩ : ∃ u, u = w.alloc (.cells lzero 31) := ⟨_, rfl⟩
  rw [← hu] at hbu
  have G := Lib.hid (show u.heap[w.heap.size]? = some (.cells lzero 31 (0, 0)) by rw [hu]; exact heap_alloc_new w (.cells lzero 31))
  have HB := Lib.hid hbu
  have NT := nodeT (to : Int) u
  rw [decide_eq_true (by omega)] at NT
  have NT := Lib.hid NT
  have ND := Lib.hid (fun W (hW : StoAt W g s) => (by have := node_any g s W hW; rw [hn] at this; exact this : Calls Tryz.prog 33 #[.pointer (some ⟨g, 0, none⟩)] W fun e w' => e = .returned (.int .i64 (nd : Int)) ∧ w' = W))
  have hq : ((to : Int) == (nd : Int)) = false := by rw [beq_eq_false_iff_ne]; omega
  have htu := ht.below hbu
  obtain ⟨c0, y0⟩ := htu.c0
  have hq2 : decide ((9223372036854775807 : Int) ≤ (ser : Int)) = false := decide_eq_false (by omega)
  obtain ⟨sr, hsr⟩ : ∃ sr, sr = ser + 1 := ⟨_, rfl⟩
  rw [← hsr]
  have hwr : IntKind.u64.wrap ((ser : Int) + 1) = (sr : Int) := by rw [IntKind.wrap_u64]; omega
  have h64 : (to : Int) < 64 := by omega
  have HS := Lib.hid (And.intro (hs.below hbu) (And.intro (hM.below hbu) (And.intro htu (And.intro hs.lt (And.intro hM.lt ht.lt)))))
  have HX := Lib.hid (And.intro hnd (And.intro hck (And.intro hto (And.intro hgm (And.intro hgt (And.intro hmt hn))))))
  have HN2 := Lib.hid (fun W (hW : Beside [mb, tb] u W) => hN2 W ((Beside.of_below hbu [mb, tb]).trans hW fun k hk => .inl hk))
  unfold lzero at hu
  have HU := Lib.hid hu
  have htl := htu.lt
  clear hu hbu hs hn hnd hck hN2 hM ht htu hto hne hser hgm hgt hmt hsr
  go_enter Tryz.func8, Tryz.ntmps8
  go_wp2_with fail
  rw [← HU.out]
  refine NT.out.mono ?_
  rintro e w1 ⟨rfl, hw1⟩
  subst hw1
  go_wp2_with fail
  refine (ND.out _ HS.out.1).mono ?_
  rintro e w1 ⟨rfl, hw1⟩
  subst hw1
  obtain ⟨b8, hb8⟩ : ∃ b8, b8 = w.heap.size := ⟨_, rfl⟩
  rw [← hb8] at G ⊢
  have HB8 := Lib.hid hb8
  clear hb8
  go_upto_region 10 with fail
  have hbe1 : Beside [tb] w1 (w1.setCell ⟨tb, 0, none⟩ (.int .u64 (sr : Int))) := (Beside.refl _ _).setCell (by simp) _
  have hX := HX.out
  have hS := HS.out
  have H2 := Lib.hid (show StoAt (w1.setCell ⟨tb, 0, none⟩ (.int .u64 (sr : Int))) g s ∧ MatAt mb (fun _ => noHav) (w1.setCell ⟨tb, 0, none⟩ (.int .u64 (sr : Int))) ∧ TalkAt (w1.setCell ⟨tb, 0, none⟩ (.int .u64 (sr : Int))) tb sr ∧ (w1.setCell ⟨tb, 0, none⟩ (.int .u64 (sr : Int))).heap[b8]? = some (.cells lzero 31 (0, 0)) ∧ Beside [mb, tb] w1 (w1.setCell ⟨tb, 0, none⟩ (.int .u64 (sr : Int))) from
    ⟨hS.1.beside hbe1 (by simp; exact hX.2.2.2.2.1), mat_no hS.2.1 hbe1 (by simp; exact hX.2.2.2.2.2.1), hS.2.2.1.set0 sr, (hbe1.block b8 (Array.getElem?_eq_some_iff.1 G.out).1 (by simp; have := HB8.out; omega)).trans G.out, hbe1.wider fun k hk => .inl (by simp at hk; simp [hk])⟩)
  clear hbe1 hX hS c0 y0 htl
  generalize w1.setCell ⟨tb, 0, none⟩ (.int .u64 (sr : Int)) = w2 at H2 ⊢
  obtain ⟨c0, y0⟩ := H2.out.2.2.1.c0
  obtain ⟨vk, ck, yk⟩ := H2.out.2.2.1.ck (k := 3 + to) (by have := HX.out.2.2.1; omega)
  have htl := H2.out.2.2.1.lt
  have q0 : (0 : Int) ≤ (to : Int) := by omega
  go_still_tail 9, (by kernel_rfl)
  change wpList _ _ _ _ _ w2.drew
  go_upto_region 11 with fail
  have hX := HX.out
  have h2 := H2.out
  have hdr : Below (w2.setCell ⟨tb, 3 + to, none⟩ (.int .u64 (sr : Int))).heap.size (w2.setCell ⟨tb, 3 + to, none⟩ (.int .u64 (sr : Int))) (w2.setCell ⟨tb, 3 + to, none⟩ (.int .u64 (sr : Int))).drew := (Below.refl _ _).drew
  have hbe2 : Beside [tb] w2 (w2.setCell ⟨tb, 3 + to, none⟩ (.int .u64 (sr : Int))).drew := ((Beside.refl [tb] w2).setCell (p := ⟨tb, 3 + to, none⟩) (by simp) _).trans (Beside.of_below hdr [tb]) fun k hk => .inl hk
  have H3 := Lib.hid (show StoAt (w2.setCell ⟨tb, 3 + to, none⟩ (.int .u64 (sr : Int))).drew g s ∧ MatAt mb (fun _ => noHav) (w2.setCell ⟨tb, 3 + to, none⟩ (.int .u64 (sr : Int))).drew ∧ TalkAt (w2.setCell ⟨tb, 3 + to, none⟩ (.int .u64 (sr : Int))).drew tb sr ∧ (w2.setCell ⟨tb, 3 + to, none⟩ (.int .u64 (sr : Int))).drew.heap[b8]? = some (.cells lzero 31 (0, 0)) ∧ Beside [mb, tb] w1 (w2.setCell ⟨tb, 3 + to, none⟩ (.int .u64 (sr : Int))).drew from
    ⟨h2.1.beside hbe2 (by simp; exact hX.2.2.2.2.1), mat_no h2.2.1 hbe2 (by simp; exact hX.2.2.2.2.2.1), (h2.2.2.1.setK to _).below hdr, (hbe2.block b8 (Array.getElem?_eq_some_iff.1 h2.2.2.2.1).1 (by simp; have := HB8.out; have := HS.out.2.2.2.2.2; omega)).trans h2.2.2.2.1, h2.2.2.2.2.trans hbe2 fun k hk => .inl (by simp at hk; simp [hk])⟩)
  clear hdr hbe2 h2 hX c0 y0 ck yk htl
  generalize (w2.setCell ⟨tb, 3 + to, none⟩ (.int .u64 (sr : Int))).drew = w3 at H3 ⊢
  obtain ⟨h31, h32, h33, h34, h35⟩ := H3.out
  have RP := Lib.hid (report_t 1 g mb nd s N w3 h31 (fun W hW => HN2.out W (h35.trans hW fun k hk => .inl (by simp at hk; simp [hk]))) h32 HX.out.2.2.2.1 HX.out.1 HX.out.2.2.2.2.2.2 HX.out.2.1)
  clear h31 h32 h33 h34 h35
  go_wp2_with fail
  refine RP.out.mono ?_
  rintro e w4 ⟨A, n, c, A2, n2, c2, rfl, ⟨R', hM4, -⟩, hb4⟩
  obtain ⟨h31, h32, h33, h34, h35⟩ := H3.out
  have hl34 := hb4.size
  have hal := (Below.refl w4.heap.size w4).alloc (Nat.le_refl _) (.cells lzero 31)
  have Z4 := Lib.hid (heap_alloc_new w4 (.cells lzero 31))
  have H4 := Lib.hid (show StoAt (w4.alloc (.cells lzero 31)) g s ∧ MatAt mb R' (w4.alloc (.cells lzero 31)) ∧ TalkAt (w4.alloc (.cells lzero 31)) tb sr ∧ (w4.alloc (.cells lzero 31)).heap[b8]? = some (.cells lzero 31 (0, 0)) ∧ Beside [mb, tb] w1 (w4.alloc (.cells lzero 31)) from
    ⟨(h31.beside hb4 (by simp; exact HX.out.2.2.2.1)).below hal, hM4.below hal, (h33.beside hb4 (by simp; exact fun h => HX.out.2.2.2.2.2.1 h.symm)).below hal, (hal.block b8 (Nat.lt_of_lt_of_le (Array.getElem?_eq_some_iff.1 h34).1 hb4.size)).trans ((hb4.block b8 (Array.getElem?_eq_some_iff.1 h34).1 (by simp; have := HB8.out; have := HS.out.2.2.2.2.1; omega)).trans h34), (h35.trans hb4 fun k hk => .inl (by simp at hk; simp [hk])).trans (Beside.of_below hal [mb, tb]) fun k hk => .inl hk⟩)
  have HL4 := Lib.hid (show b8 < w4.heap.size ∧ g < w4.heap.size ∧ tb < w4.heap.size ∧ mb < w4.heap.size ∧ w.heap.size ≤ w4.heap.size from ⟨Nat.lt_of_lt_of_le (Array.getElem?_eq_some_iff.1 h34).1 hl34, Nat.lt_of_lt_of_le h31.lt hl34, Nat.lt_of_lt_of_le h33.lt hl34, hM4.lt, by have := h35.size; have := HB.out.size; omega⟩)
  clear h31 h32 h33 h34 h35 hal hM4 hb4 hl34 RP
  unfold lrow
  go_wp2_with (first
    | (refine wpList_putRow rfl 31 (.tmp 10) (.tmp 51) rfl w4.heap.size 31 lzero (lrow 1 0 0 false 0 (.slice A n c) (.slice A2 n2 c2)) rfl rfl Z4.out (by kernel_rfl) rfl (by simp [lrow, Value.oneCell']) ?_))
  intro w5 hW5 hbe5
  obtain ⟨b10, hb10⟩ : ∃ b10, b10 = w4.heap.size := ⟨_, rfl⟩
  have HW5 := Lib.hid hW5
  have H5 := Lib.hid (by
    obtain ⟨h41, -, h43, h44, h45⟩ := H4.out
    obtain ⟨l1, l2, l3, l4, l5⟩ := HL4.out
    have hub : Beside [mb, tb] w w1 := Beside.of_below HB.out [mb, tb]
    exact (show StoAt w5 g s ∧ TalkAt w5 tb sr ∧ w5.heap[b8]? = some (.cells lzero 31 (0, 0)) ∧ Beside [mb, tb] w w5 from
      ⟨h41.beside hbe5 (by simp; omega), h43.beside hbe5 (by simp; omega), (hbe5.block b8 (Array.getElem?_eq_some_iff.1 h44).1 (by simp; omega)).trans h44, (hub.trans h45 fun k hk => .inl (by simp at hk; simp [hk])).trans hbe5 fun k hk => by
        simp at hk
        exact .inr (by omega)⟩))
  rw [← hb10] at HW5 ⊢
  have HB10 := Lib.hid hb10
  clear hb10 hbe5 hW5
  obtain ⟨d0, z0⟩ := H5.out.2.1.c0
  obtain ⟨⟨x0, x1, x2, x3, x4, x5, x6⟩, -⟩ := box14 HW5.out
  have y1 : w5.frozen? ⟨b10, 1, none⟩ = false := frozen_row0 HW5.out
  have y2 : w5.frozen? ⟨b10, 2, none⟩ = false := frozen_row0 HW5.out
  have y3 : w5.frozen? ⟨b10, 3, none⟩ = false := frozen_row0 HW5.out
  have y4 : w5.frozen? ⟨b10, 4, none⟩ = false := frozen_row0 HW5.out
  have hbl : b10 < w5.heap.size := (Array.getElem?_eq_some_iff.1 HW5.out).1
  have hgb : ¬ g = b10 := by have := HL4.out; have := HB10.out; omega
  have htb : ¬ tb = b10 := by have := HL4.out; have := HB10.out; omega
  have hbt : ¬ b10 = tb := by omega
  have NODE5 := Lib.hid (fun W (hW : Beside [b10] w5 W) => ND.out W (H5.out.1.beside hW (by simpa using hgb)))
  clear x0 x5 x6 z0
  go_upto_region 12 with fail
  go_region_held3 (fun w' => w'.cell? ⟨tb, 0, none⟩ = some (.int .u64 (sr : Int))) (go_keep)
    (first
      | (go_at_call 33
         refine (NODE5.out _ ?h1).mono ?_
         case h1 => (repeat (first | exact Beside.refl _ _ | refine Beside.setCell ?_ (by simp) _ | exact Beside.of_below ((Below.refl _ _).drew) _))
         rintro e w6 ⟨rfl, rfl⟩))
  have hdr : ∀ W : World, Below W.heap.size W W.drew := fun W => (Below.refl _ _).drew
  have hbe : Beside [b10] w5 ((((w5.setCell ⟨b10, 1, none⟩ (.int .i64 (nd : Int))).setCell ⟨b10, 2, none⟩ (.int .i64 (to : Int))).setCell ⟨b10, 3, none⟩ (.bool true)).setCell ⟨b10, 4, none⟩ (.int .u64 (sr : Int))).drew :=
    (((((Beside.refl [b10] w5).setCell (by simp) _).setCell (by simp) _).setCell (by simp) _).setCell (by simp) _).trans (Beside.of_below (hdr _) [b10]) fun k hk => .inl hk
  have G7 := Lib.hid (show (((((w5.setCell ⟨b10, 1, none⟩ (.int .i64 (nd : Int))).setCell ⟨b10, 2, none⟩ (.int .i64 (to : Int))).setCell ⟨b10, 3, none⟩ (.bool true)).setCell ⟨b10, 4, none⟩ (.int .u64 (sr : Int))).drew).heap[b10]? = some (.cells (lrow 1 (nd : Int) (to : Int) true sr (.slice A n c) (.slice A2 n2 c2)) 31 (0, 0)) from
    (((hdr _).block b10 (by simpa [World.setCell] using hbl)).trans (heapSame (i := 4) (v := .int .u64 (sr : Int)) (heapSame (i := 3) (v := .bool true) (heapSame (i := 2) (v := .int .i64 (to : Int)) (heapSame (i := 1) (v := .int .i64 (nd : Int)) HW5.out))))).trans rfl)
  have H7 := Lib.hid (by
    obtain ⟨-, h43, h44, h45⟩ := H5.out
    obtain ⟨l1, l2, l3, l4, l5⟩ := HL4.out
    have e10 := HB10.out
    exact (show TalkAt (((((w5.setCell ⟨b10, 1, none⟩ (.int .i64 (nd : Int))).setCell ⟨b10, 2, none⟩ (.int .i64 (to : Int))).setCell ⟨b10, 3, none⟩ (.bool true)).setCell ⟨b10, 4, none⟩ (.int .u64 (sr : Int))).drew) tb sr ∧ (((((w5.setCell ⟨b10, 1, none⟩ (.int .i64 (nd : Int))).setCell ⟨b10, 2, none⟩ (.int .i64 (to : Int))).setCell ⟨b10, 3, none⟩ (.bool true)).setCell ⟨b10, 4, none⟩ (.int .u64 (sr : Int))).drew).heap[b8]? = some (.cells lzero 31 (0, 0)) ∧ Beside [mb, tb] w (((((w5.setCell ⟨b10, 1, none⟩ (.int .i64 (nd : Int))).setCell ⟨b10, 2, none⟩ (.int .i64 (to : Int))).setCell ⟨b10, 3, none⟩ (.bool true)).setCell ⟨b10, 4, none⟩ (.int .u64 (sr : Int))).drew) from
      ⟨h43.beside hbe (by simpa using htb), (hbe.block b8 (Array.getElem?_eq_some_iff.1 h44).1 (by simp; omega)).trans h44, h45.trans hbe fun k hk => by
        simp at hk
        exact .inr (by omega)⟩))
  clear hbe hdr d0 x1 x2 x3 x4 y1 y2 y3 y4 hbl NODE5
  generalize ((((w5.setCell ⟨b10, 1, none⟩ (.int .i64 (nd : Int))).setCell ⟨b10, 2, none⟩ (.int .i64 (to : Int))).setCell ⟨b10, 3, none⟩ (.bool true)).setCell ⟨b10, 4, none⟩ (.int .u64 (sr : Int))).drew = w7 at G7 H7 ⊢
  go_wp2_with (first
    | (refine wpList_getRow rfl 31 (.tmp 10) rfl b10 31 (lrow 1 (nd : Int) (to : Int) true sr (.slice A n c) (.slice A2 n2 c2)) (0, 0) _ rfl G7.out und_L und_row2 (by kernel_rfl) ?_)
    | (refine wpList_putRow rfl 31 (.tmp 8) (.tmp 63) rfl b8 31 lzero (lrow 1 (nd : Int) (to : Int) true sr (.slice A n c) (.slice A2 n2 c2)) rfl rfl H7.out.2.1 (by kernel_rfl) rfl (by simp [lrow, Value.oneCell']) ?_))
  intro w8 hW8 hbe8
  have FIN := Lib.hid (And.intro (H7.out.1.beside hbe8 (by simp; have := HB8.out; have := HS.out.2.2.2.2.2; omega)) (H7.out.2.2.trans hbe8 fun k hk => by
    simp at hk
    exact .inr (by have := HB8.out; omega)))
  unfold lrow at hW8
  obtain ⟨⟨k0, k1, k2, k3, k4, k5, k6⟩, k7, k8, k9, k10, k11, k12, k13⟩ := box14 hW8
  clear hW8 hbe8
  go_wp2
  refine bodyPost_ret (v := .tuple #[.agg (lrow 1 (nd : Int) (to : Int) true sr (.slice A n c) (.slice A2 n2 c2)), .int .i64 0]) ?_ rfl ⟨_, _, _, _, _, _, rfl, FIN.out⟩
  simp [results, lrow, Tryz.results8, go_sem, k0, k1, k2, k3, k4, k5, k6, k7, k8, k9, k10, k11, k12, k13]
end Go.Proofs.YtinjbdgjcadodaaGreatDoor.St
namespace Go.Proofs.YtinjbdgjcadodaaGreatDoor.St
open Go Go.RowKit Go.Proofs.YtinjbdgjcadodaaGreatDoor.Words Go.Proofs.YtinjbdgjcadodaaGreatDoor.Enc Go.Proofs.YtinjbdgjcadodaaGreatDoor.Made Go.Proofs.YtinjbdgjcadodaaGreatDoor.Dsk Go.Proofs.YtinjbdgjcadodaaGreatDoor.Seg
set_option linter.unusedVariables false
set_option linter.unusedSimpArgs false

set_option maxRecDepth 100000 in
theorem coming_nil (w : World) : Calls Tryz.prog 14 #[.pointer none] w fun e w' => e = .returned (.int .i64 0) ∧ w' = w := by
  go_enter Tryz.func14, Tryz.ntmps14
  go_wp2
  go_ret
  exact ⟨rfl, rfl⟩
set_option maxRecDepth 100000 in
theorem serial_nil (w : World) : Calls Tryz.prog 15 #[.pointer none] w fun e w' => e = .returned (.int .u64 0) ∧ w' = w := by
  go_enter Tryz.func15, Tryz.ntmps15
  go_wp2
  go_ret
  exact ⟨rfl, rfl⟩
set_option maxRecDepth 100000 in
theorem serial_t (tb ser : Nat) (w : World) (h : TalkAt w tb ser) : Calls Tryz.prog 15 #[.pointer (some ⟨tb, 0, none⟩)] w fun e w' => e = .returned (.int .u64 (ser : Int)) ∧ w' = w := by
  obtain ⟨c0, y0⟩ := h.c0
  clear h
  go_enter Tryz.func15, Tryz.ntmps15
  go_wp2
  go_ret
  exact ⟨rfl, rfl⟩
set_option maxRecDepth 100000 in
set_option maxHeartbeats 1000000 in
theorem hear_nilT (V M : Value) (X : Array Value) (w : World) (hX : X.all (·.oneCell') = true) (hX2 : X.size = 14) : Calls Tryz.prog 9 #[.pointer none, V, M, .agg X] w fun e w' => e = .returned (.tuple #[.slice none 0 0, .int .i64 2]) ∧ Below w.heap.size w w' := by
  have hbu := (Below.refl w.heap.size w).alloc (Nat.le_refl _) (.cells X 31)
  have HB := Lib.hid hbu
  clear hbu
  go_enter Tryz.func9, Tryz.ntmps9
  go_wp2
  refine bodyPost_ret (v := .tuple #[.slice none 0 0, .int .i64 2]) ?_ rfl ⟨rfl, HB.out⟩
  simp [results, Tryz.results9, go_sem]
set_option maxRecDepth 100000 in
set_option maxHeartbeats 1000000 in
theorem hear_nilS (tb : Nat) (M : Value) (X : Array Value) (w : World) (hX : X.all (·.oneCell') = true) (hX2 : X.size = 14) : Calls Tryz.prog 9 #[.pointer (some ⟨tb, 0, none⟩), .pointer none, M, .agg X] w fun e w' => e = .returned (.tuple #[.slice none 0 0, .int .i64 2]) ∧ Below w.heap.size w w' := by
  have hbu := (Below.refl w.heap.size w).alloc (Nat.le_refl _) (.cells X 31)
  have HB := Lib.hid hbu
  clear hbu
  go_enter Tryz.func9, Tryz.ntmps9
  go_wp2
  refine bodyPost_ret (v := .tuple #[.slice none 0 0, .int .i64 2]) ?_ rfl ⟨rfl, HB.out⟩
  simp [results, Tryz.results9, go_sem]
end Go.Proofs.YtinjbdgjcadodaaGreatDoor.St
