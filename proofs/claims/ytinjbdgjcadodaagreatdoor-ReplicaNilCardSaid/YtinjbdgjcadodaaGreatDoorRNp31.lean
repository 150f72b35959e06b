/- Texts of the law ReplicaNil, put together. -/
import Derived.Deep.RegionHeld3
import Derived.StillTailTactics
import Derived.Test.YtinjbdgjcadodaaGreatDoorRNp03
import Derived.Test.YtinjbdgjcadodaaGreatDoorRNp05
import Derived.Test.YtinjbdgjcadodaaGreatDoorRNp08
import Derived.Test.YtinjbdgjcadodaaGreatDoorRNp18
import Derived.Test.YtinjbdgjcadodaaGreatDoorRNp21
import Derived.Test.YtinjbdgjcadodaaGreatDoorRNp26
import Derived.Test.YtinjbdgjcadodaaGreatDoorRNp27
import Derived.Test.YtinjbdgjcadodaaGreatDoorRNp28
import Derived.Test.YtinjbdgjcadodaaGreatDoorRNp29
import Derived.Test.YtinjbdgjcadodaaGreatDoorRNp30
set_option linter.unusedVariables false
set_option linter.unusedSimpArgs false
set_option maxRecDepth 100000
namespace Go.Proofs.YtinjbdgjcadodaaGreatDoor.St
open Go Go.RowKit Words Enc Go.Proofs.YtinjbdgjcadodaaGreatDoor.Made Dsk Seg Fol
def stoZ (d : Nat) (sz : Int) : Sto := ⟨d, sz, 0, 0, .slice none 0 0, 0, ⟨#[]⟩, .pointer none, List.replicate 64 (.pointer none), 0, List.replicate 64 false, List.replicate 64 false⟩
def sto0 (d : Nat) (sz : Int) (nd db n : Nat) (F : List Value) : Sto := ⟨d, sz, (nd : Int), 1, .slice none 0 0, 0, ⟨#[]⟩, .pointer (some ⟨db, 0, none⟩), F, 0, (newF n).J, (newF n).R⟩
theorem stoZ_ok (d : Nat) (sz : Int) : (stoZ d sz).Ok := ⟨by simp [stoZ], by simp [stoZ], by simp [stoZ]⟩
theorem build_sto (d : Nat) (sz : Int) (W : World) : (Instr.build 92 #[(0, .pointer (some ⟨d, 0, none⟩)), (1, .int .i64 sz)]).run Tryz.prog W = .ok (.agg (stoZ d sz).row) W := by kernel_rfl
theorem mN_plain (nd : Nat) : Lib.hasSuffix (mfile nd).name [46, 110, 101, 119] = false ∧ Lib.hasPrefix (mfile nd).name [102, 111, 108, 100, 45] = false ∧ (mfile nd).name.length ≤ 100000 :=
 ⟨by show Lib.hasSuffix Man.mN _ = false; decide, by show Lib.hasPrefix Man.mN _ = false; decide, by show Man.mN.length ≤ 100000; decide⟩
theorem mN_feed (nd : Nat) : NoFeed [mfile nd] := by
 intro x _ f hf
 simp only [List.mem_singleton] at hf
 subst hf
 show Lib.hasPrefix Man.mN (beginL (x : Int)) = false
 unfold beginL
 rfl
structure New0 (w0 w : World) (d g nd n db C : Nat) (sz : Int) (S0 S : List Nat) (F : List Value) (B : Nat) : Prop where
 op : Opened B w g (sto0 d sz nd db n F) 64
 gB : g < B
 g0 : w0.heap.size ≤ g
 disk : Disk w d S [mfile nd] ⟨(C : Int), 4, -1, 0, false⟩
 new : ∀ k ∈ S, k ∈ S0 ∨ w0.heap.size ≤ k
 low : ∀ k ∈ S, k < B
 off : g ∉ S
 frame : Beside S0 w0 w
 fold : ∃ mb, FoldAt w [db, mb, g] db mb (newF n) ∧ db ∉ S ∧ mb ∉ S ∧ w0.heap.size ≤ db ∧ w0.heap.size ≤ mb
set_option maxHeartbeats 2000000 in
theorem open_0 (d nd n C : Nat) (sz : Int) (S0 : List Nat) (w : World) (hd : Disk w d S0 [] ⟨(C : Int), 0, -1, 0, false⟩) (T : TabsOn S0 w) (hnd : nd < 64) (hn : n ≤ 64) (hC : 10000 ≤ C ∧ C ≤ 1000000) :
  Calls Tryz.prog 31 #[.pointer (some ⟨d, 0, none⟩), .int .i64 (nd : Int), .int .i64 (n : Int), .int .i64 sz] w fun e w' => ∃ g db S F B, e = .returned (.tuple #[.pointer (some ⟨g, 0, none⟩), .int .i64 0]) ∧ New0 w w' d g nd n db C sz S0 S F B := by
 have d0 : decide ((nd : Int) < 0) = false := decide_eq_false (by omega)
 have d1 : decide ((64 : Int) ≤ (nd : Int)) = false := decide_eq_false (by omega)
 obtain ⟨R, hR⟩ : ∃ R, R = (stoZ d sz).row := ⟨_, rfl⟩
 have hbn := build_sto d sz w
 rw [← hR] at hbn
 have HBN := Lib.hid hbn
 have hb0 : Below w.heap.size w (w.alloc (.cells R 92)) := (Below.refl _ _).alloc (Nat.le_refl _) _
 have hs0 : StoAt (w.alloc (.cells R 92)) w.heap.size (stoZ d sz) := ⟨by rw [← hR]; exact heap_alloc_new w _, stoZ_ok d sz⟩
 have HID := Lib.hid (identify_0 w.heap.size nd C (stoZ d sz) S0 _ hs0 (hd.below hb0) (fun hm => by have := hd.lt _ hm; omega) (T.below hb0) hnd hC)
 have HB0 := Lib.hid hb0
 have HDL := Lib.hid hd.lt
 have HTT := Lib.hid (T.below hb0)
 have HC := Lib.hid hC
 have T0 := Lib.hid T
 clear hbn hR hb0 hs0 hd T hC
 go_enter Tryz.func31, Tryz.ntmps31
 go_wp2_with (first | (refine wpList_build2 rfl 92 0 1 (.tmp 21) (.tmp 22) rfl (.pointer (some ⟨d, 0, none⟩)) (.int .i64 sz) (.agg R) rfl rfl HBN.out ?_))
 refine HID.out.mono ?_
 rintro e w1 ⟨rfl, hs1, hb1, S1, hd1, hn1⟩
 have hg1 : w.heap.size ∉ S1 := fun hm => by
  rcases hn1 _ hm with h | h
  ·have := HDL.out _ h; omega
  ·simp at h; omega
 have HRF := Lib.hid (readFold_0 w.heap.size n _ w1 hs1 rfl rfl hn)
 have H1 := Lib.hid (And.intro hs1 (And.intro hb1 (And.intro hd1 (And.intro hn1 hg1))))
 have HLT := Lib.hid hd1.lt
 clear hs1 hb1 hd1 hn1 hg1 HID
 go_wp2_with fail
 refine HRF.out.mono ?_
 rintro e w2 ⟨rfl, db, mb, hF, hdb, hmb, hs2, hb2⟩
 have hg0 : w.heap.size < (w.alloc (.cells R 92)).heap.size := by simp
 obtain ⟨hs1, hb1, hd1, hn1, hg1⟩ := H1.out
 have hlt1 : w.heap.size < w1.heap.size := Nat.lt_of_lt_of_le hg0 hb1.size
 have hfr1 : Beside S0 w w1 := (Beside.of_below HB0.out S0).trans hb1 fun k hk => by
  rcases List.mem_cons.1 hk with rfl | h
  ·exact .inr (Nat.le_refl _)
  ·exact .inl h
 have hn1' : ∀ k ∈ S1, k ∈ S0 ∨ w.heap.size ≤ k := fun k hk => (hn1 k hk).imp id (fun h => by omega)
 have hd2 : Disk w2 d S1 [mfile nd] ⟨(C : Int), 4, -1, 0, false⟩ := hd1.beside hb2 (by simpa using hg1)
 have hfr2 : Beside S0 w w2 := hfr1.trans hb2 fun k hk => .inr (by simp at hk; omega)
 have HCL := Lib.hid (clean_0 w.heap.size _ S1 (mfile nd) _ w2 hs2 hd2 rfl (mN_plain nd).2.2 (mN_plain nd).1 (mN_plain nd).2.1)
 have H2 := Lib.hid (And.intro hs2 (And.intro hd2 (And.intro hfr2 (And.intro hF (And.intro hdb (And.intro hmb hn1'))))))
 have HL := Lib.hid (And.intro hlt1 (And.intro hg1 hb2.size))
 clear hs1 hb1 hd1 hn1 hg1 hlt1 hfr1 hn1' hd2 hfr2 hs2 hb2 hF hdb hmb HRF H1 hg0
 go_wp2_with fail
 refine HCL.out.mono ?_
 rintro e w3 ⟨rfl, hb3⟩
 obtain ⟨hs2, hd2, hfr2, hF, hdb, hmb, hn1⟩ := H2.out
 obtain ⟨hlt1, hg1, hl12⟩ := HL.out
 have hfr3 : Beside S0 w w3 := hfr2.trans (Beside.of_below hb3 []) fun k hk => by cases hk
 have hs3 := hs2.below hb3
 have hd3 := hd2.below hb3
 have hF3 := hF.below hb3
 have HOF := Lib.hid (openFeeds_0 w.heap.size _ S1 [mfile nd] _ w3 hs3 hd3 hg1 (T0.out.next hfr3 fun k hk => by
  rcases List.mem_append.1 hk with h | h
  ·exact hn1 k h
  ·simp at h; exact .inr (by omega)) rfl (by simp) (mN_feed nd) rfl rfl)
 have H3 := Lib.hid (And.intro hd3 (And.intro hfr3 (And.intro hF3 (And.intro hn1 hd3.lt))))
 have hl3 : w.heap.size < w3.heap.size := by have := hb3.size; omega
 clear hs2 hd2 hfr2 hF hn1 hfr3 hs3 hd3 hF3 hb3 HCL H2
 have HDB := Lib.hid (And.intro hlt1 (And.intro hdb hmb))
 clear hlt1 hdb hmb hl12
 go_wp2_with fail
 refine HOF.out.mono ?_
 rintro e w4 ⟨rfl, F, hop, hb4⟩
 obtain ⟨hd3, hfr3, hF3, hn1, hlow⟩ := H3.out
 have hne : w.heap.size ≠ db ∧ w.heap.size ≠ mb := by have := HDB.out; omega
 have hF4 := hF3.beside hb4 (fun x hx => by
  simp at hx
  subst hx
  exact .inl ⟨by simp, hne.1, hne.2⟩)
 have hd4 : Disk w4 d S1 [mfile nd] ⟨(C : Int), 4, -1, 0, false⟩ := hd3.beside hb4 (by simpa using hg1)
 have hfr4 : Beside S0 w w4 := hfr3.trans hb4 fun k hk => .inr (by simp at hk; omega)
 have HEX := Lib.hid (examine_0 w3.heap.size w.heap.size _ (newF n) [db, mb, w.heap.size] db mb w4 hop hl3 hF4 (by simp) hne.1 hne.2 rfl)
 have H4 := Lib.hid (And.intro hd4 (And.intro hfr4 (And.intro hn1 (And.intro hlow (And.intro hl3 hg1)))))
 have HFD := Lib.hid (And.intro hF4 (And.intro hne HDB.out))
 clear hd3 hfr3 hF3 hn1 hlow hF4 hd4 hfr4 hop hb4 HOF H3 hne hl3 hg1 HDB HL
 go_wp2_with fail
 refine HEX.out.mono ?_
 rintro e w5 ⟨rfl, hop, hb5⟩
 obtain ⟨hd4, hfr4, hn1, hlow, hl3, hg1⟩ := H4.out
 have FIN := Lib.hid (⟨hop, hl3, Nat.le_refl _, hd4.beside hb5 (by simpa using hg1), hn1, hlow, hg1, hfr4.trans hb5 fun k hk => .inr (by simp at hk; omega), mb, HFD.out.1.beside hb5 (fun x hx => by simp at hx; subst hx; exact .inl ⟨by simp, HFD.out.2.1.1, HFD.out.2.1.2⟩), fun hm => by have := HLT.out _ hm; have := HFD.out.2.2; omega, fun hm => by have := HLT.out _ hm; have := HFD.out.2.2; omega, by have := HFD.out.2.2; omega, by have := HFD.out.2.2; omega⟩ : New0 w w5 d w.heap.size nd n db C sz S0 S1 F w3.heap.size)
 clear hd4 hfr4 hn1 hlow hl3 hg1 hop hb5 HEX H4
 go_wp2
 go_ret2
 exact ⟨_, _, _, _, _, rfl, FIN.out⟩
end Go.Proofs.YtinjbdgjcadodaaGreatDoor.St
namespace Go.Proofs.YtinjbdgjcadodaaGreatDoor.St
open Go Go.RowKit Words Enc Go.Proofs.YtinjbdgjcadodaaGreatDoor.Made Dsk Seg
section
variable {P : Program} {ops : Array Oper} {rest : List Oper} {op : Oper} {a : Act} {w : World} {Q : Exit → Act → World → Prop}
theorem wpList_build3 (hgd : op.guard = none) (t : TypeId) (i j k : Nat) (x y z : Operand) (ho : op.op = .build t #[(i, x), (j, y), (k, z)]) (vx vy vz v : Value) (hx : a.eval x = vx) (hy : a.eval y = vy) (hz : a.eval z = vz)
  (hrun : (Instr.build t #[(i, vx), (j, vy), (k, vz)]).run P w = .ok v w) (h : wpList P ops Q rest (a.put op.dst v) w) : wpList P ops Q (op :: rest) a w := by
 refine wpList_plain hgd fun K hK => ?_
 unfold Oper.wp execOp
 simp only [ho, hx, hy, hz, List.map_toArray, List.map_cons, List.map_nil, Sem.run_bind, Sem.run_pure, Result.andThen_ok, hrun]
 exact hK _ _ h
end
def tkCells (a : Nat) (b c : Int) : List Value := [.int .u64 (a : Int), .int .i64 b, .int .i64 c] ++ (List.replicate 64 (.int .u64 0) ++ (List.replicate 64 (.int .u64 0) ++ [.pointer none]))
def tkRow (a : Nat) (b c : Int) : Array Value := (tkCells a b c).toArray
theorem build_tk (a : Nat) (b c : Int) (W : World) : (Instr.build 98 #[(0, .int .u64 (a : Int)), (1, .int .i64 b), (2, .int .i64 c)]).run Tryz.prog W = .ok (.agg (tkRow a b c)) W := by kernel_rfl
structure TalkAt (w : World) (tb ser : Nat) : Prop where
 row : ∃ cur : Array Value, w.heap[tb]? = some (.cells cur 98 (0, 0)) ∧ cur.size = 132 ∧ cur[0]? = some (.int .u64 (ser : Int))
theorem TalkAt.lt {w : World} {tb ser : Nat} (h : TalkAt w tb ser) : tb < w.heap.size := by obtain ⟨_, h, _⟩ := h; exact (Array.getElem?_eq_some_iff.1 h).1
theorem TalkAt.beside {w w' : World} {tb ser : Nat} {S : List Nat} (h : TalkAt w tb ser) (hb : Beside S w w') (hs : tb ∉ S) : TalkAt w' tb ser := by
 have hl := h.lt
 obtain ⟨c, h1, h2⟩ := h
 exact ⟨c, (hb.block tb hl hs).trans h1, h2⟩
theorem TalkAt.below {w w' : World} {tb ser : Nat} (h : TalkAt w tb ser) (hb : Below w.heap.size w w') : TalkAt w' tb ser := h.beside (Beside.of_below hb []) (by simp)
theorem newT_t (a : Nat) (b c : Int) (w : World) : Calls Tryz.prog 10 #[.int .u64 (a : Int), .int .i64 b, .int .i64 c] w fun e w' => e = .returned (.pointer (some ⟨w.heap.size, 0, none⟩)) ∧ TalkAt w' w.heap.size a ∧ Below w.heap.size w w' := by
 have HB := build_tk a b c w
 obtain ⟨R, hR⟩ : ∃ R, R = tkRow a b c := ⟨_, rfl⟩
 rw [← hR] at HB
 have HB := Lib.hid HB
 have FIN : Hid (TalkAt (w.alloc (.cells R 98)) w.heap.size a ∧ Below w.heap.size w (w.alloc (.cells R 98))) := Lib.hid ⟨⟨R, heap_alloc_new w _, by rw [hR]; simp [tkRow, tkCells], by rw [hR]; rfl⟩, (Below.refl _ _).alloc (Nat.le_refl _) _⟩
 clear hR
 go_enter Tryz.func10, Tryz.ntmps10
 go_wp2_with (first | (refine wpList_build3 rfl 98 0 1 2 (.tmp 7) (.tmp 8) (.tmp 9) rfl (.int .u64 (a : Int)) (.int .i64 b) (.int .i64 c) (.agg R) rfl rfl rfl HB.out ?_))
 go_ret
 exact ⟨rfl, FIN.out⟩
end Go.Proofs.YtinjbdgjcadodaaGreatDoor.St
namespace Go.Proofs.YtinjbdgjcadodaaGreatDoor.Rp
open Go Go.RowKit Words Enc Go.Proofs.YtinjbdgjcadodaaGreatDoor.Made Dsk Seg Evt St
def cfgRow (n c r b k : Int) : Array Value := #[.int .i64 n, .int .i64 c, .int .i64 r, .int .i64 b, .int .i64 k]
theorem cells5 {w : World} {b : Nat} {v0 v1 v2 v3 v4 : Value} {T : TypeId} {f : Nat × Nat} (h : w.heap[b]? = some (.cells #[v0, v1, v2, v3, v4] T f)) : w.cell? ⟨b, 0, none⟩ = some v0 ∧ w.cell? ⟨b, 1, none⟩ = some v1 ∧ w.cell? ⟨b, 2, none⟩ = some v2 ∧ w.cell? ⟨b, 3, none⟩ = some v3 ∧ w.cell? ⟨b, 4, none⟩ = some v4 := by
 refine ⟨?_, ?_, ?_, ?_, ?_⟩ <;> (rw [cell_of_row w b _ _ _ _ h]; rfl)
theorem config_019 (w : World) : Calls Tryz.prog 24 #[.int .u8 0, .int .u8 1, .int .u8 9] w fun e w' => e = .returned (.agg (cfgRow 1 100 262144 2 10)) ∧ Below w.heap.size w w' := by
 have G4 := Lib.hid (heap_alloc_new w (.cells (cfgRow 0 0 0 0 0) 73))
 have HB := Lib.hid ((Below.refl w.heap.size w).alloc (Nat.le_refl _) (.cells (cfgRow 0 0 0 0 0) 73))
 unfold cfgRow at G4 HB
 go_enter Tryz.func24, Tryz.ntmps24
 go_wp2_with (first
  | (refine wpList_putRow rfl 73 (.tmp 6) (.tmp 19) rfl w.heap.size 73 _ (cfgRow 1 100 262144 2 10) rfl rfl G4.out (by kernel_rfl) rfl (by simp [cfgRow, Value.oneCell']) ?_))
 intro w3 hW3 hbe3
 have BEL := Lib.hid (Below.beside HB.out hbe3 HB.out.size (by simp))
 unfold cfgRow at hW3
 obtain ⟨k0, k1, k2, k3, k4⟩ := cells5 hW3
 clear hW3 hbe3
 go_wp2
 refine bodyPost_ret (v := .agg (cfgRow 1 100 262144 2 10)) ?_ rfl ⟨rfl, BEL.out⟩
 simp [results, cfgRow, Tryz.results24, go_sem, k0, k1, k2, k3, k4]
theorem config_111 (w : World) : Calls Tryz.prog 24 #[.int .u8 1, .int .u8 1, .int .u8 1] w fun e w' => e = .returned (.agg (cfgRow 2 100 262144 2 2)) ∧ Below w.heap.size w w' := by
 have G4 := Lib.hid (heap_alloc_new w (.cells (cfgRow 0 0 0 0 0) 73))
 have HB := Lib.hid ((Below.refl w.heap.size w).alloc (Nat.le_refl _) (.cells (cfgRow 0 0 0 0 0) 73))
 unfold cfgRow at G4 HB
 go_enter Tryz.func24, Tryz.ntmps24
 go_wp2_with (first
  | (refine wpList_putRow rfl 73 (.tmp 6) (.tmp 19) rfl w.heap.size 73 _ (cfgRow 2 100 262144 2 2) rfl rfl G4.out (by kernel_rfl) rfl (by simp [cfgRow, Value.oneCell']) ?_))
 intro w3 hW3 hbe3
 have BEL := Lib.hid (Below.beside HB.out hbe3 HB.out.size (by simp))
 unfold cfgRow at hW3
 obtain ⟨k0, k1, k2, k3, k4⟩ := cells5 hW3
 clear hW3 hbe3
 go_wp2
 refine bodyPost_ret (v := .agg (cfgRow 2 100 262144 2 2)) ?_ rfl ⟨rfl, BEL.out⟩
 simp [results, cfgRow, Tryz.results24, go_sem, k0, k1, k2, k3, k4]
theorem openR_arg (D : Value) (nd : Int) (n c r b k : Int) (q : Nat) (w : World) (hq : q = 0 ∨ 1073741824 ≤ q) :
  Calls Tryz.prog 22 #[D, .int .i64 nd, .agg (cfgRow n c r b k), .int .u64 (q : Int)] w fun e w' => e = .returned (.tuple #[.pointer none, .int .i64 1]) ∧ Below w.heap.size w w' := by
 have HB := Lib.hid ((Below.refl w.heap.size w).alloc (Nat.le_refl _) (.cells (cfgRow n c r b k) 73))
 unfold cfgRow at HB ⊢
 go_enter Tryz.func22, Tryz.ntmps22
 rcases hq with rfl | hq
 ·go_wp2
  go_ret2
  exact ⟨rfl, HB.out⟩
 ·have h0 : ((q : Int) == 0) = false := by rw [beq_eq_false_iff_ne]; omega
  have h1 : decide ((1073741824 : Int) ≤ (q : Int)) = true := decide_eq_true (by omega)
  clear hq
  go_wp2
  go_ret2
  exact ⟨rfl, HB.out⟩
theorem openS_no (D : Value) (nd : Int) (n sz : Int) (w : World) (h : nd < 0 ∨ 64 ≤ nd) :
  Calls Tryz.prog 31 #[D, .int .i64 nd, .int .i64 n, .int .i64 sz] w fun e w' => e = .returned (.tuple #[.pointer none, .int .i64 1]) ∧ w' = w := by
 go_enter Tryz.func31, Tryz.ntmps31
 by_cases h0 : nd < 0
 ·have d0 : decide (nd < 0) = true := decide_eq_true h0
  clear h h0
  go_wp2
  go_ret2
  exact ⟨rfl, rfl⟩
 ·have d0 : decide (nd < 0) = false := decide_eq_false h0
  have d1 : decide ((64 : Int) ≤ nd) = true := decide_eq_true (by omega)
  clear h h0
  go_wp2
  go_ret2
  exact ⟨rfl, rfl⟩
theorem openR_no (D : Value) (nd : Int) (n c r b k : Int) (q : Nat) (w : World) (h : nd < 0 ∨ 64 ≤ nd) (hq : 0 < q ∧ q < 1073741824) :
  Calls Tryz.prog 22 #[D, .int .i64 nd, .agg (cfgRow n c r b k), .int .u64 (q : Int)] w fun e w' => e = .returned (.tuple #[.pointer none, .int .i64 1]) ∧ Below w.heap.size w w' := by
 have HB := Lib.hid ((Below.refl w.heap.size w).alloc (Nat.le_refl _) (.cells (cfgRow n c r b k) 73))
 have hc := cells5 (heap_alloc_new w (.cells (cfgRow n c r b k) 73))
 have NO := Lib.hid (fun W => openS_no D nd n c W h)
 unfold cfgRow at HB hc ⊢
 obtain ⟨k0, k1, k2, k3, k4⟩ := hc
 have h0 : ((q : Int) == 0) = false := by rw [beq_eq_false_iff_ne]; omega
 have h1 : decide ((1073741824 : Int) ≤ (q : Int)) = false := decide_eq_false (by omega)
 clear hq h
 go_enter Tryz.func22, Tryz.ntmps22
 go_wp2_with fail
 refine (NO.out _).mono ?_
 rintro e w1 ⟨rfl, rfl⟩
 go_wp2
 go_ret2
 exact ⟨rfl, HB.out⟩
end Go.Proofs.YtinjbdgjcadodaaGreatDoor.Rp
namespace Go.Proofs.YtinjbdgjcadodaaGreatDoor.St
open Go Go.RowKit Words Enc Go.Proofs.YtinjbdgjcadodaaGreatDoor.Made Evt
def asOwn (ev : Ev) (nd nx tm : Nat) : Ev := ⟨(nd : Int), nx, tm, ev.kind, ev.key, ev.text, ev.num, ev.node⟩
theorem own_fit {ev : Ev} {nd nx tm : Nat} (h : ev.Fit) (hn : nd < 64) (h1 : nx < 18446744073709551616) (h2 : tm < 18446744073709551616) : (asOwn ev nd nx tm).Fit :=
 ⟨by show _ ≤ (nd : Int); omega, by show (nd : Int) ≤ _; omega, h1, h2, h.k, h.q, h.n1, h.n2⟩
end Go.Proofs.YtinjbdgjcadodaaGreatDoor.St
namespace Go.Proofs.YtinjbdgjcadodaaGreatDoor.St
open Go Go.RowKit Words Enc Go.Proofs.YtinjbdgjcadodaaGreatDoor.Made Dsk Seg Evt
open Go.Proofs.YtinjbdgjcadodaaGreatDoor.Fd (XS xsX xsO xsC Feed FeedAt FNext Part SegS blk bx hdA Rise evsP)
open Sht (headL headL_len titleL_len)
abbrev xsS (X : List Nat) (nd C : Nat) (hnd : nd < 64) (hC : C ≤ 1000000) : XS where
 X := X
 O := fun _ => [mfile nd]
 no := fun x f hf => by
  simp only [List.mem_singleton] at hf
  subst hf
  show Lib.hasPrefix Man.mN (beginL (x : Int)) = false
  unfold beginL
  rfl
 few := fun x => ⟨by have := mbytes_len hnd; simp [sumA, mfile]; omega, by simp⟩
 cap := C
 capOk := hC
abbrev ixS (X : List Nat) (nd C : Nat) (hnd : nd < 64) (hC : C ≤ 1000000) : Inhabited XS := ⟨xsS X nd C hnd hC⟩
theorem head1 {x : Nat} (hx : x < 64) : (headL 115 x 1).length ≤ 60 := by
 have h := headL_len (k := 115) (a := x) (b := 1) (by omega) (by omega)
 have h3 := (titleL_len (k := 115) (a := x) (b := 1) (by omega) (by omega)).2
 omega
theorem feed_beside [Inhabited XS] {w w' : World} {d f x : Nat} {sz : Int} {floor time : Nat} {P : List Part} {safe : Nat} {O : List Nat} {h : Hd} (F : Feed w d f x sz floor time P safe O h) {D : List Nat} (hb : Beside D w w') (hD : ∀ k ∈ D, k ∈ xsX) (hO : ∀ k ∈ D, k ∉ O) : Feed w' d f x sz floor time P safe O h := by
 obtain ⟨R, A, c, S, hR, hOe, F⟩ := F
 have hS : ∀ k ∈ D, k ∉ S := fun k hk hm => hO k hk (by rw [hOe]; exact List.mem_append.2 (.inl hm))
 have hf : f ∉ D := fun hm => hO f hm (by rw [hOe]; simp)
 have hA : ∀ g ∈ blk A, g ∉ D := fun g hg hm => hO g hm (by rw [hOe]; simp [hg])
 refine ⟨R, A, c, S, hR, hOe, ⟨F.disk.beside hb hS, (hb.block f (Array.getElem?_eq_some_iff.1 F.box).1 hf).trans F.box, Fd.own_kept F.row fun g hg => hb.block g (Fd.own_blk F.row g hg).2 (hA g hg), fun r hr => ?_, F.fS, F.aS, fun k hk => Nat.lt_of_lt_of_le (F.xl k hk) hb.size⟩⟩
 exact (F.evs r hr).next (hb.wider fun k hk => .inl (List.mem_append.2 (.inr (List.mem_append.2 (.inr (hD k hk)))))) fun k hk => .inl hk
def part1 (x : Nat) (ev : Ev) : Part := ⟨1, [plainE ev], (headL 115 x 1).length⟩
theorem wrap_small {ev : Ev} (hr : Right ev) (htx : ev.text.length ≤ 500) : (wrap (evL ev)).length ≤ 700 := by
 have h1 := wrap_length (evL ev)
 have h2 := evL_len hr
 have h3 := enc_ten (n := (evL ev).length) (by omega)
 omega
theorem part1_z {x : Nat} {ev : Ev} (hr : Right ev) : (part1 x ev).z x = (headL 115 x 1).length + (wrap (evL ev)).length := by
 simp [part1, Part.z, Sht.wraps, plain_evL hr.k1]
set_option maxHeartbeats 1000000 in
theorem feedAdd_0 (X : List Nat) (d f x nd C : Nat) (sz : Int) (S : List Nat) (ev : Ev) (Be : Option Addr) (me ke : Nat) (w : World) (hnd : nd < 64) (hC : C ≤ 1000000) (hC0 : 10000 ≤ C) (hf : Bare w d f x sz) (hd : Disk w d S [mfile nd] ⟨(C : Int), 4, -1, 0, false⟩) (hfS : f ∉ S) (hg : ∀ k ∈ X, k < w.heap.size)
  (T : TabsOn (S ++ [f]) w) (hs : Sees w Be me ev.text) (hout : Out (S ++ [f]) Be me) (hr : Right ev) (hfit : ev.Fit) (htx : ev.text.length ≤ 500) (hkey : ev.key.size ≤ 1048576) (hx : x < 64) (hwr : ev.writer = (x : Int)) (hsq : ev.seq = 1) :
  Calls Tryz.prog 68 #[.pointer (some ⟨f, 0, none⟩), ev.val Be me ke] w fun e w' => e = .returned (.int .i64 0) ∧ ∃ acts', acts' ≤ 7 ∧ @FNext (ixS X nd C hnd hC) (S ++ [f]) w d f x sz 0 0 [part1 x ev] 0 acts' w' := by
 letI : Inhabited XS := ixS X nd C hnd hC
 have F : Feed w d f x sz 0 0 [] 0 (S ++ [f]) (hdA 4) := ⟨[], none, 0, S, rfl, rfl, ⟨hd, hf, World.ownsRow_nil _ _ _ _, fun r hr => (by cases hr), hfS, fun k hk => (by simp [blk] at hk), fun k hk => hg k hk⟩⟩
 have G : Fd.Good x 0 1 [] := ⟨trivial, by omega, by simp [evsP], by omega, by simp [evsP]⟩
 have hsum : sumA (xsO x) = (mbytes nd).length := by show sumA [mfile nd] = _; simp [sumA, mfile]
 have hml := mbytes_len hnd
 have hwl := wrap_small hr htx
 have hhl := head1 hx
 have hxc : xsC = C := rfl
 have hla := fun W (hW : Below w.heap.size w W) => Fd.lastF_none d f x sz 0 0 [] 0 (S ++ [f]) (hdA 4) 1 W (F.below hW) G (by simp [evsP])
 refine (Fd.add_at f x 1 0 true ev Be me ke w (fun W w' => ∃ acts', acts' ≤ 7 ∧ FNext (S ++ [f]) W d f x sz 0 0 [part1 x ev] 0 acts' w')
  (fun W hW => by rw [cell_of_row W f _ _ _ _ (hf.below hW)]; rfl)
  (fun W hW => Fd.sealed_none _ W (hla W hW))
  (fun W hW => Fd.next_bare d f (x : Int) sz 0 0 none 0 0 W (hf.below hW) (by omega))
  (fun W hW => Fd.time_none f 0 W (fun W2 hW2 => by rw [cell_of_row W2 f _ _ _ _ ((hf.below hW).below hW2)]; rfl) (hla W hW))
  (fun W hW => Fd.full_none d f x sz 0 0 0 (S ++ [f]) (hdA 4) W (F.below hW))
  (fun _ W hW => ?_) (fun h => by cases h) hwr hsq (by have := hr.t1; omega) (Array.getElem?_eq_some_iff.1 hf).1).mono ?_
 ·refine (Fd.begin_gen d f x sz 0 0 [] 0 4 (S ++ [f]) ev Be me ke W (F.below hW) (T.below hW) ⟨List.Pairwise.nil, fun p hp => (by cases hp)⟩ hx (by simp) (by simp) (by omega) (fun p hp => (by cases hp)) (fun p hp => (by simp at hp)) (hs.below hW) hout hr hfit (by omega) hkey hwr (by omega) (fun p hp => (by cases hp)) ?_).mono ?_
  ·rw [hsum, hxc, hsq]; simp; omega
  ·rintro e w' ⟨rfl, acts', ha, hN⟩
   rw [hsq] at hN
   exact ⟨rfl, acts', by simpa using ha, hN⟩
 ·rintro e w' ⟨rfl, W, hW, acts', ha, O', h1, h2, h3⟩
  exact ⟨rfl, acts', ha, O', h1, (Beside.of_below hW _).trans h2 fun k hk => .inl hk, fun k hk => (h3 k hk).imp id (fun h => Nat.le_trans hW.size h)⟩
end Go.Proofs.YtinjbdgjcadodaaGreatDoor.St
namespace Go.Proofs.YtinjbdgjcadodaaGreatDoor.St
open Go Go.RowKit Words Enc Go.Proofs.YtinjbdgjcadodaaGreatDoor.Made Evt
def noteS (s : Sto) (e : Ev) : Sto := { s with ck := e.time, J := if e.kind = 5 then s.J.set e.node.toNat true else s.J, R := if e.kind = 6 then s.R.set e.writer.toNat true else s.R }
set_option maxHeartbeats 1000000 in
theorem note_any (g : Nat) (s : Sto) (wr : Int) (sq tm kd : Nat) (key : ByteArray) (tx : List UInt8) (A : Option Addr) (n c num : Nat) (node : Int) (w : World) (hs : StoAt w g s) (hck : s.ck ≤ tm) (h5 : kd = 5 → 0 ≤ node ∧ node < 64) (h6 : kd = 6 → 0 ≤ wr ∧ wr < 64) :
  Calls Tryz.prog 69 #[.pointer (some ⟨g, 0, none⟩), Ev.val ⟨wr, sq, tm, kd, key, tx, num, node⟩ A n c] w fun e w' => e = .returned (.tuple #[]) ∧ StoAt w' g (noteS s ⟨wr, sq, tm, kd, key, tx, num, node⟩) ∧ Beside [g] w w' := by
 have hsf := store_float Tryz.prog
 obtain ⟨u, hu⟩ : ∃ u, u = w.alloc (.cells #[.int .i64 wr, .int .u64 (sq : Int), .int .u64 (tm : Int), .int .u8 (kd : Int), .string key, .slice A n c, .float .f64 num, .int .i64 node] 38) := ⟨_, rfl⟩
 have hb : Below w.heap.size w u := by rw [hu]; exact (Below.refl _ _).alloc (Nat.le_refl _) _
 have hgl := hs.lt
 have g3 : u.heap[w.heap.size]? = some (.cells #[.int .i64 wr, .int .u64 (sq : Int), .int .u64 (tm : Int), .int .u8 (kd : Int), .string key, .slice A n c, .float .f64 num, .int .i64 node] 38 (0, 0)) := by rw [hu]; exact heap_alloc_new w _
 obtain ⟨b, hbb⟩ : ∃ b, b = w.heap.size := ⟨_, rfl⟩
 rw [← hbb] at g3
 have hgb : g ≠ b := by omega
 obtain ⟨e0, e1, e2, e3, e4, e5, e6, e7⟩ := box8 g3
 have hs1 := hs.below hb
 have c72 := hs1.cC
 have y72 := hs1.frozen 72
 have hgu := hs1.lt
 have hmx : max (s.ck : Int) (tm : Int) = (tm : Int) := by omega
 have H2 := Lib.hid ((hs1.setC tm).below ((Below.refl _ _).drew))
 have G2 := Lib.hid (show (u.setCell ⟨g, 72, none⟩ (.int .u64 (tm : Int))).drew.heap[b]? = some (.cells #[.int .i64 wr, .int .u64 (sq : Int), .int .u64 (tm : Int), .int .u8 (kd : Int), .string key, .slice A n c, .float .f64 num, .int .i64 node] 38 (0, 0)) from (heapOther (w := u) hgb.symm).trans g3)
 have B2 := Lib.hid (show Beside [g] w (u.setCell ⟨g, 72, none⟩ (.int .u64 (tm : Int))).drew from ((Beside.of_below hb [g]).trans ((Beside.refl _ _).setCell (by simp) _) fun k hk => .inl hk).trans (Beside.of_below ((Below.refl _ _).drew) [g]) fun k hk => .inl hk)
 have HU := Lib.hid hu
 have HB := Lib.hid hbb
 have H5 := Lib.hid h5
 have H6 := Lib.hid h6
 clear hs hb hu hbb g3 hs1 hck h5 h6 hgl
 unfold Ev.val
 go_enter Tryz.func69, Tryz.ntmps69
 go_wp2_with fail
 rw [← HU.out, ← HB.out]
 go_still_tail 10, (by kernel_rfl)
 change wpList _ _ _ _ _ u.drew
 go_upto_region 2 with fail
 generalize (u.setCell ⟨g, 72, none⟩ (.int .u64 (tm : Int))).drew = w2 at H2 G2 B2 ⊢
 clear e0 e1 e2 e3 e4 e5 e6 e7 c72 y72 hgu hmx
 obtain ⟨e0, e1, e2, e3, e4, e5, e6, e7⟩ := box8 G2.out
 have HS3 := Lib.hid (fun (W : World) (hW : Below w2.heap.size w2 W) => H2.out.below hW)
 have hgw2 := H2.out.lt
 have fin : ∀ x, noteS s ⟨wr, sq, tm, kd, key, tx, num, node⟩ = x → noteS s ⟨wr, sq, tm, kd, key, tx, num, node⟩ = x := fun _ h => h
 by_cases k5 : kd = 5
 ·obtain ⟨h50, h51⟩ := H5.out k5
  subst k5
  obtain ⟨nd, hnd⟩ : ∃ nd : Nat, node = (nd : Int) := ⟨node.toNat, by omega⟩
  subst hnd
  have hn64 : nd < 64 := by omega
  have hn64' : (nd : Int) < 64 := by omega
  have hn0 : (0 : Int) ≤ (nd : Int) := by omega
  have cJ := H2.out.cJ hn64
  have yJ := H2.out.frozen (73 + nd)
  have FIN := Lib.hid (And.intro ((H2.out.setJ hn64 true).below ((Below.refl _ _).drew)) (B2.out.trans (((Beside.refl [g] w2).setCell (p := ⟨g, 73 + nd, none⟩) (by simp) (.bool true)).trans (Beside.of_below ((Below.refl _ _).drew) [g]) fun k hk => .inl hk) fun k hk => .inl hk))
  clear fin HS3 hn64
  go_wp2
  go_still_tail 6, (by kernel_rfl)
  change wpList _ _ _ _ _ w2.drew
  go_wp2
  go_returns
  exact ⟨rfl, FIN.out.1, FIN.out.2⟩
 ·by_cases k6 : kd = 6
  ·obtain ⟨h60, h61⟩ := H6.out k6
   subst k6
   obtain ⟨nd, hnd⟩ : ∃ nd : Nat, wr = (nd : Int) := ⟨wr.toNat, by omega⟩
   subst hnd
   have hn64 : nd < 64 := by omega
   have hn64' : (nd : Int) < 64 := by omega
   have hn0 : (0 : Int) ≤ (nd : Int) := by omega
   have cR := H2.out.cR hn64
   have yR := H2.out.frozen (137 + nd)
   have FIN := Lib.hid (And.intro ((H2.out.setR hn64 true).below ((Below.refl _ _).drew)) (B2.out.trans (((Beside.refl [g] w2).setCell (p := ⟨g, 137 + nd, none⟩) (by simp) (.bool true)).trans (Beside.of_below ((Below.refl _ _).drew) [g]) fun k hk => .inl hk) fun k hk => .inl hk))
   clear fin HS3 hn64 k5
   go_wp2
   go_still_tail 6, (by kernel_rfl)
   change wpList _ _ _ _ _ w2.drew
   go_wp2
   go_returns
   exact ⟨rfl, FIN.out.1, FIN.out.2⟩
  ·have q5 : ((kd : Int) == 5) = false := by rw [beq_eq_false_iff_ne]; omega
   have q6 : ((kd : Int) == 6) = false := by rw [beq_eq_false_iff_ne]; omega
   have hn : noteS s ⟨wr, sq, tm, kd, key, tx, num, node⟩ = { s with ck := tm } := by simp [noteS, k5, k6]
   have FIN : Hid (StoAt w2 g (noteS s ⟨wr, sq, tm, kd, key, tx, num, node⟩)) := Lib.hid (by rw [hn]; exact H2.out)
   clear fin HS3 hn k5 k6
   go_wp2
   go_returns
   exact ⟨rfl, FIN.out, B2.out⟩
end Go.Proofs.YtinjbdgjcadodaaGreatDoor.St
namespace Go.Proofs.YtinjbdgjcadodaaGreatDoor.St
open Go Go.RowKit Words Enc Go.Proofs.YtinjbdgjcadodaaGreatDoor.Made Dsk Seg Evt
open Go.Proofs.YtinjbdgjcadodaaGreatDoor.Fd (XS xsX xsO xsC Feed FeedAt FNext Part SegS blk bx hdA Rise evsP)
open Sht (headL headL_len titleL_len)
def Adds (X : List Nat) (d f x g nd C : Nat) (sz : Int) (hnd : nd < 64) (hC : C ≤ 1000000) (S : List Nat) (s : Sto) (ev : Ev) (p : Part) (w w' : World) : Prop :=
 StoAt w' g (noteS s ev) ∧ ∃ acts' O', acts' ≤ 10 ∧ @Feed (ixS X nd C hnd hC) w' d f x sz 0 0 [p] 0 O' (@hdA (ixS X nd C hnd hC) acts') ∧ (∀ k ∈ O', k ∈ S ++ [f] ∨ w.heap.size ≤ k) ∧ Beside (g :: (S ++ [f])) w w'
set_option maxHeartbeats 1000000 in
theorem add_0 (X : List Nat) (d f x g nd C : Nat) (sz : Int) (S : List Nat) (s : Sto) (ev : Ev) (Be : Option Addr) (me ke : Nat) (w : World) (hnd : nd < 64) (hC : C ≤ 1000000) (hC0 : 10000 ≤ C) (hst : StoAt w g s) (hF : s.F[x]? = some (.pointer (some ⟨f, 0, none⟩))) (hf : Bare w d f x sz) (hd : Disk w d S [mfile nd] ⟨(C : Int), 4, -1, 0, false⟩) (hfS : f ∉ S) (hgS : g ∉ S ++ [f]) (hgX : g ∈ X) (hX : ∀ k ∈ X, k < w.heap.size)
  (T : TabsOn (S ++ [f]) w) (hs : Sees w Be me ev.text) (hout : Out (S ++ [f]) Be me) (hr : Right ev) (hfit : ev.Fit) (htx : ev.text.length ≤ 500) (hkey : ev.key.size ≤ 1048576) (hx : x < 64) (hwr : ev.writer = (x : Int)) (hsq : ev.seq = 1) (hck : s.ck ≤ ev.time) :
  Calls Tryz.prog 37 #[.pointer (some ⟨g, 0, none⟩), ev.val Be me ke] w fun e w' => e = .returned (.int .i64 0) ∧ Adds X d f x g nd C sz hnd hC S s ev (part1 x ev) w w' := by
 have hsf := store_float Tryz.prog
 obtain ⟨u, hu⟩ : ∃ u, u = w.alloc (.cells (ev.row Be me ke) 38) := ⟨_, rfl⟩
 have hb : Below w.heap.size w u := by rw [hu]; exact (Below.refl _ _).alloc (Nat.le_refl _) _
 have g3 : u.heap[w.heap.size]? = some (.cells (ev.row Be me ke) 38 (0, 0)) := by rw [hu]; exact heap_alloc_new w _
 have hfl := (Array.getElem?_eq_some_iff.1 hf).1
 have hbS : w.heap.size ∉ S ++ [f] := fun hm => by
  rcases List.mem_append.1 hm with h | h
  ·have := hd.lt _ h; omega
  ·simp at h; omega
 have hs1 := hst.below hb
 have cF := hs1.cF hx hF
 have hud : Below w.heap.size w u.drew := hb.drew
 have ADD := (feedAdd_0 X d f x nd C sz S ev Be me ke u.drew hnd hC hC0 (hf.below hud) (hd.below hud) hfS (fun k hk => Nat.lt_of_lt_of_le (hX k hk) hud.size) (T.below hud) (hs.below hud) hout hr hfit htx hkey hx hwr hsq)
 unfold Ev.val at ADD
 rw [hwr] at ADD
 have ADD := Lib.hid ADD
 have HG3 := Lib.hid g3
 have HST := Lib.hid (hst.below hud)
 have HUD := Lib.hid hud
 have HX := Lib.hid (And.intro hbS hgS)
 have HR := Lib.hid hr
 have HCK := Lib.hid hck
 have hx64 : (x : Int) < 64 := by omega
 have HBL := Lib.hid (show w.heap.size < u.drew.heap.size from (Array.getElem?_eq_some_iff.1 g3).1)
 unfold Ev.row at g3 hu
 obtain ⟨e0, e1, e2, e3, e4, e5, e6, e7⟩ := box8 g3
 rw [hwr] at e0
 have HU := Lib.hid hu
 have HWR := Lib.hid hwr
 have HGX := Lib.hid hgX
 clear hgX hX hst hF hf hd hfS hgS T hs hout hfit htx hkey hsq hck hb hfl hbS hs1 hud g3 hu hr hwr
 unfold Ev.val
 go_enter Tryz.func37, Tryz.ntmps37
 go_wp2_with fail
 rw [← HU.out]
 go_still_tail 8, (by kernel_rfl)
 change wpList _ _ _ _ _ u.drew
 go_wp2_with fail
 refine ADD.out.mono ?_
 rintro e w2 ⟨rfl, acts', ha, O', hF2, hb2, hk2⟩
 have G2 := (hb2.block w.heap.size HBL.out HX.out.1).trans (show u.drew.heap[w.heap.size]? = _ from HG3.out)
 have hst2 := HST.out.beside hb2 HX.out.2
 have hev : (⟨(x : Int), ev.seq, ev.time, ev.kind, ev.key, ev.text, ev.num, ev.node⟩ : Ev) = ev := by rw [← HWR.out]
 have NOTE := note_any g s (x : Int) ev.seq ev.time ev.kind ev.key ev.text Be me ke ev.num ev.node w2 hst2 HCK.out (fun h => by have := HR.out.n h; omega) (fun h => by omega)
 rw [hev] at NOTE
 unfold Ev.val at NOTE
 rw [HWR.out] at NOTE
 have NOTE := Lib.hid NOTE
 have H2 := Lib.hid (And.intro hF2 (And.intro hb2 hk2))
 have HGL := Lib.hid HST.out.lt
 unfold Ev.row at G2
 obtain ⟨e0, e1, e2, e3, e4, e5, e6, e7⟩ := box8 G2
 rw [HWR.out] at e0
 clear ADD G2 hst2 hev hF2 hb2 hk2
 go_wp2_with fail
 refine NOTE.out.mono ?_
 rintro e w3 ⟨rfl, hs3, hb3⟩
 obtain ⟨hF2, hb2, hk2⟩ := H2.out
 have hgO : g ∉ O' := fun hm => (hk2 g hm).elim HX.out.2 (fun h => by have := HGL.out; omega)
 have hF3 := @feed_beside (ixS X nd C hnd hC) _ _ _ _ _ _ _ _ _ _ _ _ hF2 _ hb3 (fun k hk => by
  simp at hk
  subst hk
  exact HGX.out) (fun k hk => by
  simp at hk
  subst hk
  exact hgO)
 have FIN : Hid (Adds X d f x g nd C sz hnd hC S s ev (part1 x ev) w w3) := Lib.hid ⟨hs3, acts', O', by omega, hF3, fun k hk => (hk2 k hk).imp id (fun h => Nat.le_trans HUD.out.size h), ((Beside.of_below HUD.out (g :: (S ++ [f]))).trans hb2 fun k hk => .inl (List.mem_cons.2 (.inr hk))).trans hb3 fun k hk => .inl (by simp at hk; simp [hk])⟩
 clear hs3 hb3 hF2 hb2 hk2 hF3 hgO e0 e1 e2 e3 e4 e5 e6 e7
 go_wp2
 go_ret
 exact ⟨rfl, FIN.out⟩
end Go.Proofs.YtinjbdgjcadodaaGreatDoor.St
