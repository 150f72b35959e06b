/- feed: a file is taken, or removed, when a feed is opened. -/
import Derived.Test.YtkphklmgbdljiaaGreatDoorFdBare
import Derived.Deep.AppendLies
namespace Go.Proofs.YtkphklmgbdljiaaGreatDoor.Fd
open Go Go.RowKit Go.Proofs.YtkphklmgbdljiaaGreatDoor.Words Go.Proofs.YtkphklmgbdljiaaGreatDoor.Enc Go.Proofs.YtkphklmgbdljiaaGreatDoor.Evt Go.Proofs.YtkphklmgbdljiaaGreatDoor.Made Go.Proofs.YtkphklmgbdljiaaGreatDoor.Dsk Go.Proofs.YtkphklmgbdljiaaGreatDoor.Sht Go.Proofs.YtkphklmgbdljiaaGreatDoor.Seg
set_option linter.unusedVariables false
set_option linter.unusedSimpArgs false

/-- A feed that is being opened: what the disk has, and what was taken. -/
structure Opn [Inhabited XS] (w : World) (d f x : Nat) (sz : Int) (floor time : Nat) (Q : List Part) (R : List SegS) (A : Option Addr) (c : Nat) (S : List Nat) (acts : Nat) : Prop where
  disk : Disk w d S (Q.map (Part.file x)) (hdA acts)
  bare : FeedB w d f x sz floor time R 0 A c
  evs : ∀ r ∈ R, SeesEv (S ++ bx f A) w r.A r.p.L.length r.p.L
  fS : f ∉ S
  aS : ∀ g ∈ blk A, g ∉ S ∧ g ≠ f
  xl : ∀ k ∈ xsX, k < w.heap.size
theorem Opn.below [Inhabited XS] {w w' : World} {d f x : Nat} {sz : Int} {floor time : Nat} {Q : List Part} {R : List SegS} {A : Option Addr} {c : Nat} {S : List Nat} {acts : Nat} (s : Opn w d f x sz floor time Q R A c S acts) (hb : Below w.heap.size w w') : Opn w' d f x sz floor time Q R A c S acts :=
  ⟨s.disk.below hb, s.bare.below hb, fun r hr => (s.evs r hr).below hb, s.fS, s.aS, fun k hk => Nat.lt_of_lt_of_le (s.xl k hk) hb.size⟩
/-- Behind a file that was taken or removed. -/
def OpnNext [Inhabited XS] (w : World) (d f x : Nat) (sz : Int) (floor time : Nat) (Q : List Part) (P : List Part) (own : List Nat) (acts : Nat) (w' : World) : Prop :=
  ∃ R A c S, R.map SegS.p = P ∧ Opn w' d f x sz floor time Q R A c S acts ∧ Beside own w w' ∧ ∀ k ∈ S ++ f :: blk A, k ∈ own ∨ w.heap.size ≤ k

set_option maxRecDepth 100000 in
set_option maxHeartbeats 4000000 in
theorem take_keep [Inhabited XS] (d f x : Nat) (sz : Int) (floor time : Nat) (Q : List Part) (R : List SegS) (A : Option Addr) (c : Nat) (S : List Nat) (acts : Nat) (p : Part) (last : Bool) (w : World) (s : Opn w d f x sz floor time Q R A c S acts) (T : TabsOn S w) (hR : Rise Q) (hp : p ∈ Q) (hx : x < 64) (hu : p.u < 100000) (hr : Runs (x : Int) p.u p.L) (hL : p.L.length ≤ 1000) (hac : acts ≤ 50000) (hsum : (Q.map (Part.z x)).sum ≤ 1000000) (hn : R.length ≤ 1000)
    (hab : floor < p.u + p.L.length - 1) (hl0 : 0 < p.L.length)
    (FOL : ∀ (Ap : Option Addr) (W : World), FeedB W d f x sz floor time R 0 A c → Calls Tryz.prog 44 #[.pointer (some ⟨f, 0, none⟩), segV (x : Int) p.u Ap p.L.length p.L.length (p.z x)] W fun e w' => e = .returned (.bool true) ∧ Below W.heap.size W w') :
    Calls Tryz.prog 26 #[.pointer (some ⟨f, 0, none⟩), .string ⟨(nameL (x : Int) p.u).toArray⟩, .bool last] w fun e w' => e = .returned (.int .i64 0) ∧ OpnNext w d f x sz floor time Q (R.map SegS.p ++ [p]) (S ++ f :: blk A) acts w' := by
  have OPEN := open_part (bx f A) d S x acts Q p w (fun k hk => by
    rcases List.mem_append.1 hk with h | h
    · exact s.bare.lt k h
    · exact s.xl k h) T s.disk hR hp hx hu hr hL hac hsum
  obtain ⟨n, hn0⟩ : ∃ n, n = R.length := ⟨_, rfl⟩
  obtain ⟨m, hm0⟩ : ∃ m, m = p.L.length := ⟨_, rfl⟩
  obtain ⟨z, hz0⟩ : ∃ z, z = p.z x := ⟨_, rfl⟩
  obtain ⟨u, hu0⟩ : ∃ u, u = p.u := ⟨_, rfl⟩
  have hab' : decide (floor < u + m - 1) = true := by simp; omega
  have hl0' : 0 < m := by omega
  have hum : u + m < 18446744073709551616 := by omega
  unfold AddGivesB at OPEN
  rw [← hm0, ← hz0, ← hu0] at FOL
  rw [← hu0]
  rw [← hm0, ← hz0, ← hu0] at OPEN
  unfold segV at OPEN FOL
  have HS := Lib.hid s
  have hflt : f < w.heap.size := s.bare.lt f (by simp)
  have c0 : w.cell? ⟨f, 0, none⟩ = some (.pointer (some ⟨d, 0, none⟩)) := s.bare.cells.1
  have HM := Lib.hid hm0
  have HZ := Lib.hid hz0
  have HU := Lib.hid hu0
  have HNN := Lib.hid hn0
  have HPQ := Lib.hid hp
  have HFOL := Lib.hid FOL
  have HOP := Lib.hid OPEN
  clear s T hp hr hm0 hz0 hu0 hn0 FOL OPEN
  go_enter Tryz.func26, Tryz.ntmps26
  go_wp2_with fail
  refine HOP.out.mono ?_
  rintro e w1 ⟨Ap, S1, rfl, hd1, hb1, hk1, hse1⟩
  have hlt := HS.out.bare.lt
  have hfAS : ∀ k ∈ f :: blk A, k ∉ S := fun k hk => by
    rcases List.mem_cons.1 hk with rfl | hk
    · exact HS.out.fS
    · exact (HS.out.aS k hk).1
  have B1 := HS.out.bare.keeps (w' := w1) fun k hk => hb1.block k (hlt k hk) (hfAS k hk)
  have hfS1 : ∀ k ∈ f :: blk A, k ∉ S1 := fun k hk hm => (hk1 k hm).elim (hfAS k hk) (fun h => by have := hlt k hk; omega)
  have HD1 := Lib.hid (And.intro hd1 (And.intro hb1 (And.intro hk1 hse1)))
  have HB1 := Lib.hid B1
  have hl1 := hb1.size
  obtain ⟨b6, hb6⟩ : ∃ b6, b6 = w1.heap.size := ⟨_, rfl⟩
  have g1 := heap_alloc_new w1 (.cells #[.int .i64 0, .int .u64 0, .slice none 0 0, .int .i64 0] 65)
  have G1 := Lib.hid g1
  clear g1 hd1 hb1 hk1 hse1 B1 c0
  go_wp2_with (first | (refine wpList_putRow rfl 65 (.tmp 7) (.tmp 16) rfl w1.heap.size 65 #[.int .i64 0, .int .u64 0, .slice none 0 0, .int .i64 0] #[.int .i64 (x : Int), .int .u64 (u : Int), .slice Ap m m, .int .i64 (z : Int)] rfl rfl ?g1 (by kernel_rfl) rfl (by simp [Value.oneCell']) ?_))
  case g1 => exact G1.out
  intro W2 hW2 hbe2
  rw [← hb6] at hW2 hbe2 ⊢
  have hbw2 : Below w1.heap.size w1 W2 := Below.beside ((Below.refl w1.heap.size w1).alloc (Nat.le_refl _) _) hbe2 (by simp) (by simp [hb6])
  have HW2 := Lib.hid hW2
  have HBW2 := Lib.hid hbw2
  have HB6 := Lib.hid hb6
  obtain ⟨q0, q1, q2, q3⟩ := b4cells hW2
  have hl6 : b6 < W2.heap.size := (Array.getElem?_eq_some_iff.1 hW2).1
  clear hW2 hbe2 hbw2 hb6 G1
  go_wp2_with fail
  refine (HFOL.out Ap W2 (HB1.out.below HBW2.out)).mono ?_
  rintro e w3 ⟨rfl, hb3⟩
  have g3 := (hb3.block b6 hl6).trans HW2.out
  obtain ⟨q0, q1, q2, q3⟩ := b4cells g3
  have hb13 := HBW2.out.trans (hb3.mono HBW2.out.size)
  have c3 : ∀ W, Below w3.heap.size w3 W → W.cell? ⟨f, 3, none⟩ = some (.int .u64 (floor : Int)) := fun W hW => (HB1.out.below (hb13.trans (hW.mono hb13.size))).cells.2.2.2.1
  have HB13 := Lib.hid hb13
  have G3 := Lib.hid g3
  have C3 := Lib.hid c3
  have hl63 : b6 < w3.heap.size := (Array.getElem?_eq_some_iff.1 g3).1
  clear hb3 g3 hb13 c3 hl6
  have ABV := Lib.hid (above_any f floor x u Ap m z w3 C3.out hl0' hum)
  unfold segV at ABV
  go_wp2_with fail
  refine ABV.out.mono ?_
  rintro e W9 ⟨rfl, hb9⟩
  rw [hab']
  have g69 := (hb9.block b6 hl63).trans G3.out
  have b19 := HB13.out.trans (hb9.mono HB13.out.size)
  have hw9 := b19.size
  have F9 := HB1.out.below b19
  obtain ⟨hd1, hb1, hk1, hse1⟩ := HD1.out
  have hd9 := hd1.below b19
  have hse9 := hse1.below b19
  have hbs9 : Beside S w W9 := (hb1).trans (Beside.of_below b19 S) (fun k hk => .inl hk)
  have evs9 : ∀ r ∈ R, SeesEv (S1 ++ bx f A) W9 r.A r.p.L.length r.p.L := fun r hr => ((HS.out.evs r hr).next (hb1.wider fun k hk => .inl (List.mem_append.2 (.inl hk))) (fun k hk => by
    rcases List.mem_append.1 hk with h | h
    · exact (hk1 k h).imp (fun h => List.mem_append.2 (.inl h)) id
    · exact .inl (List.mem_append.2 (.inr h)))).below b19
  have box9 := F9.box
  have row9 := F9.row
  rw [← HNN.out] at box9 row9
  have hlt9 : ∀ k ∈ f :: blk A, k < W9.heap.size := F9.lt
  have hfA : ∀ k, (Value.slice A n c).ownBlock = some k → k ∈ blk A := fun k hk => by
    cases A with
    | none => cases hk
    | some a => injection hk with hk; subst hk; simp [blk]
  have hfb2 : f ∉ blk A := fun h => (HS.out.aS f h).2 rfl
  have hb6b : b6 ∉ blk A := fun h => by have := hlt b6 (by simp [h]); have := HB6.out; omega
  have hl69 : b6 < W9.heap.size := (Array.getElem?_eq_some_iff.1 g69).1
  have hfb6 : f < b6 := by have := HB6.out; omega
  have KEEP : ∀ W' w', Below W9.heap.size W9 W' → W'.grownBy w' (Value.slice A n c).ownBlock → w'.heap[f]? = some (.cells (Fd.cells d (x : Int) sz floor time (.slice A n c) ((0 : Nat) : Int)) 60 (0, 0)) ∧ w'.heap[b6]? = some (.cells #[.int .i64 (x : Int), .int .u64 (u : Int), .slice Ap m m, .int .i64 (z : Int)] 65 (0, 0)) := fun W' w' hW hg =>
    ⟨(hg.block f (by have := hW.size; have := hlt9 f (by simp); omega) (fun h => hfb2 (hfA f h.symm))).trans ((hW.block f (hlt9 f (by simp))).trans box9), (hg.block b6 (by have := hW.size; omega) (fun h => hb6b (hfA b6 h.symm))).trans ((hW.block b6 hl69).trans g69)⟩
  have ROW9 : ∀ W', Below W9.heap.size W9 W' → W'.ownsRow 0 65 4 (.slice A n c) n (rowsS x R) := fun W' hW => own_below8 row9 hW (Nat.le_refl _)
  obtain ⟨i, hi, hz, hsz, hby⟩ := info_parts infoG
  have hnl : n ≤ 1000 := by have := HNN.out; omega
  have hmx : n + 1 ≤ maxLen := by unfold maxLen; omega
  have c5 : W9.cell? ⟨f, 5, none⟩ = some (.slice A n c) := by rw [cell_of_row W9 f _ _ _ _ box9]; rfl
  obtain ⟨r0, r1, r2, r3⟩ := b4cells g69
  have y5 : W9.frozen? ⟨f, 5, none⟩ = false := frozen_row0 box9
  have c5a : (W9.alloc (.cells #[.int .i64 (x : Int), .int .u64 (u : Int), .slice Ap m m, .int .i64 (z : Int)] 65)).cell? ⟨f, 5, none⟩ = some (.slice A n c) := by
    rw [World.cell?_of_block (((Below.refl W9.heap.size W9).alloc (Nat.le_refl _) (.cells #[.int .i64 (x : Int), .int .u64 (u : Int), .slice Ap m m, .int .i64 (z : Int)] 65)).block f (hlt9 f (by simp)))]
    exact c5
  have GROW : ∀ W' w', Below W9.heap.size W9 W' → W'.grownBy w' (Value.slice A n c).ownBlock → ∀ g', ((Value.slice A n c).ownBlock = some g' ∨ g' = W'.heap.size) → Beside (blk A) W9 w' ∧ (g' ∈ blk A ∨ W9.heap.size ≤ g') := fun W' w' hW hg g' hat =>
    ⟨(Beside.of_below hW (blk A)).grown hg (fun k hk => .inl (hfA k hk)), hat.imp (fun h => hfA g' h) (fun h => by rw [h]; exact hW.size)⟩
  have FIN : ∀ (g' cap' : Nat) (w10 : World), w10.ownsRow 0 65 4 (.slice (some ⟨g', 0, none⟩) (n + 1) cap') (n + 1) (rowsS x R ++ (#[.int .i64 (x : Int), .int .u64 (u : Int), .slice Ap m m, .int .i64 (z : Int)] : Array Value).toList) → Beside (blk A) W9 w10 → (g' ∈ blk A ∨ W9.heap.size ≤ g') → g' < w10.heap.size → OpnNext w d f x sz floor time Q (R.map SegS.p ++ [p]) (S ++ f :: blk A) acts (w10.setCell ⟨f, 5, none⟩ (.slice (some ⟨g', 0, none⟩) (n + 1) cap')) := by
    intro g' cap' w10 hown hb10 hg' hl10
    have hf9 : f < W9.heap.size := hlt9 f (by simp)
    have hgf : g' ≠ f := fun h => by
      rcases hg' with h1 | h1
      · exact hfb2 (h ▸ h1)
      · omega
    have hgS1 : g' ∉ S1 := fun hm => hg'.elim (fun h => hfS1 g' (by simp [h]) hm) (fun h => by have := hd9.lt g' hm; omega)
    have hb11 : Beside [f] w10 (w10.setCell ⟨f, 5, none⟩ (.slice (some ⟨g', 0, none⟩) (n + 1) cap')) := (Beside.refl [f] w10).setCell (p := ⟨f, 5, none⟩) (by simp) _
    have hB9 : Beside (f :: blk A) W9 (w10.setCell ⟨f, 5, none⟩ (.slice (some ⟨g', 0, none⟩) (n + 1) cap')) := (hb10.wider fun k hk => .inl (by simp [hk])).trans hb11 fun k hk => by simp at hk; subst hk; exact .inl (by simp)
    have hnew : ∀ k ∈ S1 ++ f :: [g'], k ∈ S1 ++ f :: blk A ∨ W9.heap.size ≤ k := fun k hk => by
      rcases List.mem_append.1 hk with h | h
      · exact .inl (List.mem_append.2 (.inl h))
      · rcases List.mem_cons.1 h with rfl | h
        · exact .inl (by simp)
        · simp at h; subst h
          rcases hg' with h | h
          · exact .inl (by simp [h])
          · exact .inr h
    have hnewx : ∀ k ∈ S1 ++ bx f (some ⟨g', 0, none⟩), k ∈ S1 ++ bx f A ∨ W9.heap.size ≤ k := fun k hk => by
      rcases List.mem_append.1 hk with h | h
      · exact .inl (List.mem_append.2 (.inl h))
      · rcases List.mem_append.1 h with h | h
        · exact (hnew k (List.mem_append.2 (.inr (by simpa [blk] using h)))).imp bx_in id
        · exact .inl (List.mem_append.2 (.inr (List.mem_append.2 (.inr h))))
    have box10 := (hb10.block f hf9 hfb2).trans box9
    have box11 := heapSame (i := 5) (v := .slice (some ⟨g', 0, none⟩) (n + 1) cap') box10
    have hrow : rowsS x (R ++ [(⟨p, Ap⟩ : SegS)]) = rowsS x R ++ (#[.int .i64 (x : Int), .int .u64 (u : Int), .slice Ap m m, .int .i64 (z : Int)] : Array Value).toList := by
      rw [rowsS_append, HU.out, HM.out, HZ.out]
      simp [rowsS, SegS.cells]
    have hln : (R ++ [(⟨p, Ap⟩ : SegS)]).length = n + 1 := by simp [HNN.out]
    have hB : Beside (S1 ++ f :: blk A) W9 (w10.setCell ⟨f, 5, none⟩ (.slice (some ⟨g', 0, none⟩) (n + 1) cap')) := hB9.wider fun k hk => .inl (List.mem_append.2 (.inr hk))
    refine ⟨R ++ [⟨p, Ap⟩], some ⟨g', 0, none⟩, cap', S1, by simp, ⟨hd9.beside hB9 fun k hk => hfS1 k hk, ⟨?_, ?_⟩, fun r hr => ?_, hfS1 f (by simp), fun k hk => ?_, fun k hk => Nat.lt_of_lt_of_le (HS.out.xl k hk) (Nat.le_trans (Nat.le_trans hb1.size hw9) hB.size)⟩, ?_, fun k hk => ?_⟩
    · rw [hln]; exact box11.trans rfl
    · rw [hln, hrow]
      exact own_kept hown fun k hk => hb11.block k (by simp [blk] at hk; subst hk; exact hl10) (by simp [blk] at hk ⊢; subst hk; exact hgf)
    · rcases List.mem_append.1 hr with h | h
      · exact (evs9 r h).next (B' := S1 ++ bx f (some ⟨g', 0, none⟩)) (hB.wider fun k hk => .inl (bx_in hk)) hnewx
      · simp at h; subst h
        have := hse9.next (B' := S1 ++ bx f (some ⟨g', 0, none⟩)) (hB.wider fun k hk => .inl (bx_in hk)) hnewx
        rw [HM.out] at this
        exact this
    · simp [blk] at hk; subst hk; exact ⟨hgS1, hgf⟩
    · exact (hbs9.wider fun k hk => .inl (List.mem_append.2 (.inl hk))).trans hB9 fun k hk => .inl (List.mem_append.2 (.inr hk))
    · rcases hnew k hk with h | h
      · rcases List.mem_append.1 h with h | h
        · rcases hk1 k h with h | h
          · exact .inl (List.mem_append.2 (.inl h))
          · exact .inr h
        · exact .inl (List.mem_append.2 (.inr h))
      · exact .inr (by omega)
  have hlf9 : f < W9.heap.size := hlt9 f (by simp)
  have HFA := Lib.hid hfA
  have FINH := Lib.hid FIN
  have HB9 := Lib.hid hb9
  clear hd9 hbs9 hse9 evs9 box9 row9 g69 hlt9 hsum FIN hb9 F9 hd1 hb1 hk1 hse1 b19 hlt hfAS hfS1 hw9 q0 q1 q2 q3
  go_upto_region 8 with fail
  have nf1 : ¬ f = W9.heap.size := by omega
  have nf2 : ¬ W9.heap.size = f := by omega
  have nb1 : ¬ b6 = W9.heap.size := by omega
  have nb2 : ¬ W9.heap.size = b6 := by omega
  go_region_law
   (first
    | (refine step_append_lies _ rfl (.tmp 53) (.tmp 55) 58 rfl 0 65 i zeroSeg 4 48 Tryz.underlying58 hi hz hsz hby zeroSeg_cells (by decide) (.slice A n c) n (rowsS x R) (by simp [Act.eval, Act.put]) (ROW9 _ (by first | exact (Below.refl _ _).alloc (Nat.le_refl _) _ | exact (Below.refl _ _).drew.alloc (Nat.le_refl _) _ | exact ((Below.refl _ _).alloc (Nat.le_refl _) _).drew)) ⟨W9.heap.size, 0, none⟩ 1 1 (#[.int .i64 (x : Int), .int .u64 (u : Int), .slice Ap m m, .int .i64 (z : Int)] : Array Value).toList (by simp [Act.eval, Act.put]) rfl (World.news_of_block (by first | exact heap_alloc_new _ _ | exact heap_alloc_new W9 _)) (by simp [Value.oneCell']) (by decide) hmx (by omega) (Nat.zero_le _) _ rfl ?_
       intro g' cap' w10 hown10 hgrow hat hlt10
       have hkp := KEEP _ w10 (by first | exact (Below.refl _ _).alloc (Nat.le_refl _) _ | exact (Below.refl _ _).drew.alloc (Nat.le_refl _) _ | exact ((Below.refl _ _).alloc (Nat.le_refl _) _).drew) hgrow
       have hbg := GROW _ w10 (by first | exact (Below.refl _ _).alloc (Nat.le_refl _) _ | exact (Below.refl _ _).drew.alloc (Nat.le_refl _) _ | exact ((Below.refl _ _).alloc (Nat.le_refl _) _).drew) hgrow g' hat
       have c5x : w10.cell? ⟨f, 5, none⟩ = some (.slice A n c) := by rw [cell_of_row w10 f _ _ _ _ hkp.1]; rfl
       have y5x : w10.frozen? ⟨f, 5, none⟩ = false := frozen_row0 hkp.1
       have FN := Lib.hid (FINH.out g' cap' w10 hown10 hbg.1 hbg.2 hlt10)
       clear hown10 hgrow hat hlt10 hkp hbg))
  all_goals go_wp2
  all_goals go_ret
  all_goals exact ⟨rfl, FN.out⟩

set_option maxRecDepth 100000 in
set_option maxHeartbeats 4000000 in
theorem take_drop [Inhabited XS] (d f x : Nat) (sz : Int) (floor time : Nat) (p : Part) (Q : List Part) (A : Option Addr) (c : Nat) (S : List Nat) (acts : Nat) (last : Bool) (w : World) (s : Opn w d f x sz floor time (p :: Q) [] A c S acts) (T : TabsOn S w) (hR : Rise (p :: Q)) (hx : x < 64) (hu : p.u < 100000) (hr : Runs (x : Int) p.u p.L) (hL : p.L.length ≤ 1000) (hac : acts ≤ 50000) (hsum : ((p :: Q).map (Part.z x)).sum ≤ 1000000)
    (hab : ¬ floor < p.u + p.L.length - 1) (hl0 : 0 < p.L.length) (hup : p.u ≤ floor) (hfl : floor < 18446744073709551615) :
    Calls Tryz.prog 26 #[.pointer (some ⟨f, 0, none⟩), .string ⟨(nameL (x : Int) p.u).toArray⟩, .bool last] w fun e w' => e = .returned (.int .i64 0) ∧ OpnNext w d f x sz floor time Q [] (S ++ f :: blk A) (acts + 1) w' := by
  have OPEN := open_part [] d S x acts (p :: Q) p w (fun k hk => by cases hk) T s.disk hR (by simp) hx hu hr hL hac hsum
  have hlook := look_part (x := x) hR (p := p) (by simp)
  have hsm : sumA ((p :: Q).map (Part.file x)) = ((p :: Q).map (Part.z x)).sum := by
    have := sumA_files x ((p :: Q).map fun p => (⟨p, none⟩ : SegS))
    simpa [List.map_map, Function.comp_def] using this
  have hnl := name_len (n := x) (u := p.u) (by omega)
  have hdf := drop_first x p Q hR
  have REM : ∀ (S' : List Nat) (W : World), Disk W d S' ((p :: Q).map (Part.file x)) (hdA acts) → Hid (Calls Tryz.prog 46 #[.pointer (some ⟨d, 0, none⟩), .string ⟨(nameL (x : Int) p.u).toArray⟩] W fun e w' => e = .returned (.int .i64 0) ∧ ∃ S'', Disk w' d S'' (Q.map (Part.file x)) (hdA (acts + 1)) ∧ Beside S' W w' ∧ ∀ k ∈ S'', k ∈ S' ∨ W.heap.size ≤ k) := fun S' W hD => Lib.hid (by
    have hc := removeC d S' _ (hdA acts) (nameL (x : Int) p.u) W hD (hdA_fits (by omega)) (by omega) (by omega)
    refine hc.mono ?_
    rintro e w' ⟨rfl, S'', hd2, hb2, hk2⟩
    refine ⟨?_, S'', ?_, hb2, hk2⟩
    · unfold thereE
      rw [hdA_may, if_pos rfl, hlook]
      rfl
    · unfold removeF at hd2
      rw [hdA_may, if_pos rfl, hdf, hdA_act] at hd2
      exact hd2)
  obtain ⟨m, hm0⟩ : ∃ m, m = p.L.length := ⟨_, rfl⟩
  obtain ⟨z, hz0⟩ : ∃ z, z = p.z x := ⟨_, rfl⟩
  obtain ⟨u, hu0⟩ : ∃ u, u = p.u := ⟨_, rfl⟩
  have hab' : decide (floor < u + m - 1) = false := by simp; omega
  have hl0' : 0 < m := by omega
  have hm1 : ¬ m = 0 := by omega
  have hmb : ((m : Int) == 0) = false := by rw [beq_eq_false_iff_ne]; omega
  have hum : u + m < 18446744073709551616 := by omega
  unfold AddGivesB at OPEN
  rw [← hu0] at REM hup ⊢
  rw [← hm0, ← hz0, ← hu0] at OPEN
  unfold segV at OPEN
  have HS := Lib.hid s
  have hflt : f < w.heap.size := s.bare.lt f (by simp)
  have c0 : w.cell? ⟨f, 0, none⟩ = some (.pointer (some ⟨d, 0, none⟩)) := s.bare.cells.1
  have HOP := Lib.hid OPEN
  have HREM := Lib.hid REM
  clear s T hr hm0 hz0 hu0 OPEN REM hR hL hsum hlook hsm hdf hnl
  go_enter Tryz.func26, Tryz.ntmps26
  go_wp2_with fail
  refine HOP.out.mono ?_
  rintro e w1 ⟨Ap, S1, rfl, hd1, hb1, hk1, hse1⟩
  have hlt := HS.out.bare.lt
  have hfAS : ∀ k ∈ f :: blk A, k ∉ S := fun k hk => by
    rcases List.mem_cons.1 hk with rfl | hk
    · exact HS.out.fS
    · exact (HS.out.aS k hk).1
  have B1 := HS.out.bare.keeps (w' := w1) fun k hk => hb1.block k (hlt k hk) (hfAS k hk)
  have hfS1 : ∀ k ∈ f :: blk A, k ∉ S1 := fun k hk hm => (hk1 k hm).elim (hfAS k hk) (fun h => by have := hlt k hk; omega)
  have HD1 := Lib.hid (And.intro hd1 (And.intro hb1 hk1))
  have HFS1 := Lib.hid hfS1
  have HB1 := Lib.hid B1
  have hl1 := hb1.size
  obtain ⟨b6, hb6⟩ : ∃ b6, b6 = w1.heap.size := ⟨_, rfl⟩
  have g1 := heap_alloc_new w1 (.cells #[.int .i64 0, .int .u64 0, .slice none 0 0, .int .i64 0] 65)
  have G1 := Lib.hid g1
  clear g1 hd1 hb1 hk1 hse1 B1 c0 hfS1 hfAS
  go_wp2_with (first | (refine wpList_putRow rfl 65 (.tmp 7) (.tmp 16) rfl w1.heap.size 65 #[.int .i64 0, .int .u64 0, .slice none 0 0, .int .i64 0] #[.int .i64 (x : Int), .int .u64 (u : Int), .slice Ap m m, .int .i64 (z : Int)] rfl rfl ?g1 (by kernel_rfl) rfl (by simp [Value.oneCell']) ?_))
  case g1 => exact G1.out
  intro W2 hW2 hbe2
  rw [← hb6] at hW2 hbe2 ⊢
  have hbw2 : Below w1.heap.size w1 W2 := Below.beside ((Below.refl w1.heap.size w1).alloc (Nat.le_refl _) _) hbe2 (by simp) (by simp [hb6])
  have HW2 := Lib.hid hW2
  have HBW2 := Lib.hid hbw2
  have HB6 := Lib.hid hb6
  obtain ⟨q0, q1, q2, q3⟩ := b4cells hW2
  have hl6 : b6 < W2.heap.size := (Array.getElem?_eq_some_iff.1 hW2).1
  have F2 := HB1.out.below hbw2
  have FOL := follows_first f x u floor c Ap A m z W2 hup (fun W hW => (F2.below hW).cells.2.2.2.1) (fun W hW => (F2.below hW).cells.2.2.2.2.2.1) (fun W hW => next_bare d f (x : Int) sz floor time A c 0 W (F2.below hW).box hfl)
  unfold segV at FOL
  clear hW2 hbe2 hbw2 hb6 G1 F2
  go_wp2_with fail
  refine FOL.mono ?_
  rintro e w3 ⟨rfl, hb3⟩
  have g3 := (hb3.block b6 hl6).trans HW2.out
  obtain ⟨q0, q1, q2, q3⟩ := b4cells g3
  have hb13 := HBW2.out.trans (hb3.mono HBW2.out.size)
  have c3 : ∀ W, Below w3.heap.size w3 W → W.cell? ⟨f, 3, none⟩ = some (.int .u64 (floor : Int)) := fun W hW => (HB1.out.below (hb13.trans (hW.mono hb13.size))).cells.2.2.2.1
  have HB13 := Lib.hid hb13
  have G3 := Lib.hid g3
  have C3 := Lib.hid c3
  have hl63 : b6 < w3.heap.size := (Array.getElem?_eq_some_iff.1 g3).1
  clear hb3 g3 hb13 c3 hl6 FOL
  have ABV := Lib.hid (above_any f floor x u Ap m z w3 C3.out hl0' hum)
  unfold segV at ABV
  go_wp2_with fail
  refine ABV.out.mono ?_
  rintro e W9 ⟨rfl, hb9⟩
  rw [hab']
  have b19 := HB13.out.trans (hb9.mono HB13.out.size)
  have g69 := (hb9.block b6 hl63).trans G3.out
  have c0 : W9.cell? ⟨f, 0, none⟩ = some (.pointer (some ⟨d, 0, none⟩)) := (HB1.out.below b19).cells.1
  obtain ⟨q0, q1, q2, q3⟩ := b4cells g69
  obtain ⟨hd1, hb1, hk1⟩ := HD1.out
  have REM9 := HREM.out S1 W9 (hd1.below b19)
  have HB19 := Lib.hid b19
  clear g69 b19 hd1 hb1 hk1 hb9
  cases last
  all_goals
    go_wp2_with fail
    refine REM9.out.mono ?_
    rintro e w10 ⟨rfl, S2, hd2, hb2, hk2⟩
    have hlt9 := (HB1.out.below HB19.out).lt
    have F10 := (HB1.out.below HB19.out).keeps (w' := w10) fun k hk => hb2.block k (hlt9 k hk) (HFS1.out k hk)
    obtain ⟨hd1, hb1, hk1⟩ := HD1.out
    have hS2 : ∀ k ∈ S2, k ∈ S ∨ w.heap.size ≤ k := fun k hk => by
      have h1 := hb1.size
      have h2 := HB19.out.size
      rcases hk2 k hk with h | h
      · exact (hk1 k h)
      · exact .inr (by omega)
    have hbS : Beside S w w10 := (hb1.trans (Beside.of_below HB19.out S) (fun k hk => .inl hk)).trans hb2 hk1
    have hfS2 : ∀ k ∈ f :: blk A, k ∉ S2 := fun k hk hm => (hk2 k hm).elim (HFS1.out k hk) (fun h => by have := hlt9 k hk; omega)
    have FN : OpnNext w d f x sz floor time Q [] (S ++ f :: blk A) (acts + 1) w10 := ⟨[], A, c, S2, rfl, ⟨hd2, F10, (fun r hr => by cases hr), hfS2 f (by simp), fun g hg => ⟨hfS2 g (by simp [hg]), (HS.out.aS g hg).2⟩, fun k hk => Nat.lt_of_lt_of_le (HS.out.xl k hk) hbS.size⟩, hbS.wider fun k hk => .inl (List.mem_append.2 (.inl hk)), fun k hk => by
      rcases List.mem_append.1 hk with h | h
      · exact (hS2 k h).imp (fun h => List.mem_append.2 (.inl h)) id
      · exact .inl (List.mem_append.2 (.inr h))⟩
    have HFN := Lib.hid FN
    clear hd2 hb2 hk2 hlt9 F10 hd1 hb1 hk1 hS2 hbS hfS2 FN
    go_wp2
    go_ret
    exact ⟨rfl, HFN.out⟩
end Go.Proofs.YtkphklmgbdljiaaGreatDoor.Fd
