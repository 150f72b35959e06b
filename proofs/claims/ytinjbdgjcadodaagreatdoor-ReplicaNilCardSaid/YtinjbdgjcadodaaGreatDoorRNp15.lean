/- Texts of the law ReplicaNil, put together. -/
import Derived.Test.YtinjbdgjcadodaaGreatDoorRNp03
import Derived.Test.YtinjbdgjcadodaaGreatDoorRNp04
import Derived.Test.YtinjbdgjcadodaaGreatDoorRNp05
import Derived.Test.YtinjbdgjcadodaaGreatDoorRNp09
import Derived.Test.YtinjbdgjcadodaaGreatDoorRNp13
import Derived.Test.YtinjbdgjcadodaaGreatDoorRNp14
set_option linter.unusedVariables false
set_option linter.unusedSimpArgs false
set_option maxRecDepth 100000
namespace Go.Proofs.YtinjbdgjcadodaaGreatDoor.Seg
open Go Go.RowKit Words Enc Evt Go.Proofs.YtinjbdgjcadodaaGreatDoor.Made Dsk Sht
theorem own_beside8 {w w' : World} {base size : Nat} {S : List Nat} {e : TypeId} {v : Value} {n : Nat} {xs : List Value} (h : w.ownsRow base e size v n xs) (hb : Beside S w w') (hS : ∀ x ∈ S, x < base) : w'.ownsRow base e size v n xs := by
 refine ⟨h.1, ?_⟩
 rcases h.2 with hn | ⟨g, cap, cur, hv, hg, hh, r⟩
 ·exact .inl hn
 ·exact .inr ⟨g, cap, cur, hv, hg, by rw [hb.block g (Array.getElem?_eq_some_iff.1 hh).1 (fun hm => by have := hS g hm; omega)]; exact hh, r⟩
def TextNew (b : Nat) (v : Value) (W : World) (r : EvS) : Prop := Sees W r.A r.n r.e.text ∧ r.n ≤ r.c ∧ r.c ≤ 9223372036854775807 ∧ Fresh b r.A r.n ∧ Out v.ownBlock.toList r.A r.n
structure WithInv (w : World) (x : Int) (u z j : Nat) (T : List EvS) (A : Option Addr) (c : Nat) (W : World) : Prop where
 box : W.heap[w.heap.size]? = some (.cells #[.int .i64 x, .int .u64 (u : Int), .slice A j c, .int .i64 (z : Int)] 134 (0, 0))
 res : W.heap[w.heap.size + 1]? = some (.cells #[.int .i64 0, .int .u64 0, .slice none 0 0, .int .i64 0] 134 (0, 0))
 own : W.ownsRow (w.heap.size + 2) 38 8 (.slice A j c) j (rowsL T)
 text : ∀ r ∈ T, TextNew (w.heap.size + 2) (.slice A j c) W r
 below : Below w.heap.size w W
theorem WithInv.size {w : World} {x : Int} {u z j : Nat} {T : List EvS} {A : Option Addr} {c : Nat} {W : World} (h : WithInv w x u z j T A c W) : w.heap.size + 2 ≤ W.heap.size := (Array.getElem?_eq_some_iff.1 h.res).1
theorem not_dst {l : List Oper} {N t : Nat} (h : (l.take N).all (fun o => !(o.dst == some t)) = true) : ∀ i : Nat, i < N → (l.toArray[i]?).bind (·.dst) ≠ some t := by
 intro i hi e
 rw [List.getElem?_toArray] at e
 cases hl : l[i]? with
 | none => rw [hl] at e; cases e
 | some o =>
   rw [hl] at e
   have hm : o ∈ l.take N := by
    rw [List.mem_iff_getElem?]
    exact ⟨i, by rw [List.getElem?_take, if_pos hi, hl]⟩
   have := List.all_eq_true.1 h o hm
   simp at this
   exact this e
theorem size_wrap (l : List UInt8) (w : World) (h : l.length ≤ 1000000000) : Calls Tryz.prog 255 #[.int .i64 (l.length : Int)] w fun e w' => e = .returned (.int .i64 ((wrap l).length : Int)) ∧ Below w.heap.size w w' := by
 refine (Chk.sizeOk (l.length : Int) w (by omega) (by omega)).mono ?_
 rintro e w' ⟨rfl, hb⟩
 have := wrap_length l
 exact ⟨by rw [Int.toNat_natCast, wrap_length], hb⟩
def PT (ev : Ev) (B : Nat) (r : EvS) (w : World) : Prop := r.e = plainE ev ∧ Sees w r.A r.n r.e.text ∧ r.n ≤ r.c ∧ r.c ≤ 9223372036854775807 ∧ Fresh B r.A r.n
theorem PT.below {ev : Ev} {B : Nat} {r : EvS} {w w' : World} (h : PT ev B r w) (hb : Below w.heap.size w w') : PT ev B r w' := ⟨h.1, h.2.1.below hb, h.2.2⟩
def Pred.plain (ev : Ev) (B : Nat) : Facts.Pred := ⟨fun v w => ∃ r : EvS, v = r.e.val r.A r.n r.c ∧ PT ev B r w, fun _ _ _ ⟨r, h, hp⟩ hb => ⟨r, h, hp.below hb⟩⟩
def Pred.one (ev : Ev) (B : Nat) : Facts.Pred := ⟨fun v w => ∃ (g : Nat) (r : EvS), v = .slice (some ⟨g, 0, none⟩) 1 1 ∧ RawEv w (some ⟨g, 0, none⟩) [r] ∧ PT ev B r w, fun _ _ _ ⟨g, r, h, hr, hp⟩ hb => ⟨g, r, h, hr.below hb, hp.below hb⟩⟩
def Pred.two (ev : Ev) (B : Nat) (S1 : List EvS) : Facts.Pred := ⟨fun v w => ∃ (g : Nat) (r : EvS), v = .slice (some ⟨g, 0, none⟩) 2 2 ∧ TwoEv w (some ⟨g, 0, none⟩) S1 [r] ∧ PT ev B r w, fun _ _ _ ⟨g, r, h, hr, hp⟩ hb => ⟨g, r, h, hr.below hb, hp.below hb⟩⟩
def Pred.cat (ev : Ev) (B : Nat) (S1 : List EvS) (n : Nat) : Facts.Pred := ⟨fun v w => ∃ (A : Option Addr) (c : Nat) (r : EvS), v = .slice A (n + 1) c ∧ w.ownsRow B 38 8 (.slice A (n + 1) c) (n + 1) (rowsL (S1 ++ [r])) ∧ PT ev B r w, fun _ _ _ ⟨A, c, r, h, hr, hp⟩ hb => ⟨A, c, r, h, own_below8 hr hb (Nat.le_refl _), hp.below hb⟩⟩
def Pred.clip (ev : Ev) (B : Nat) (S1 : List EvS) (n : Nat) : Facts.Pred := ⟨fun v w => ∃ (A : Option Addr) (c : Nat) (r : EvS), v = .slice A (n + 1) (n + 1) ∧ w.ownsRow B 38 8 (.slice A (n + 1) c) (n + 1) (rowsL (S1 ++ [r])) ∧ PT ev B r w, fun _ _ _ ⟨A, c, r, h, hr, hp⟩ hb => ⟨A, c, r, h, own_below8 hr hb (Nat.le_refl _), hp.below hb⟩⟩
theorem own_lower8 {w : World} {base base' size : Nat} {e : TypeId} {v : Value} {n : Nat} {xs : List Value} (h : w.ownsRow base e size v n xs) (hb : base' ≤ base) : w.ownsRow base' e size v n xs := by
 refine ⟨h.1, ?_⟩
 rcases h.2 with hn | ⟨g, cap, cur, hv, hg, r⟩
 ·exact .inl hn
 ·exact .inr ⟨g, cap, cur, hv, Nat.le_trans hb hg, r⟩
theorem raw_new (W : World) (r : EvS) : RawEv (W.alloc (.cells (r.e.row r.A r.n r.c) 38)) (some ⟨W.heap.size, 0, none⟩) [r] := by
 intro _
 refine ⟨W.heap.size, 0, rfl, fun j v hv => ?_⟩
 rw [Nat.zero_add, cell_of_row _ _ _ _ _ _ (heap_alloc_new W _), ← hv, ← Array.getElem?_toList]
 simp [rowsL, EvS.cells, Ev.row]
theorem two_new (W : World) (S1 S2 : List EvS) (A1 A2 : Option Addr) (n1 n2 c1 c2 : Nat) (h1 : S1.length = n1) (h2 : S2.length = n2) (r1 : RawEv W A1 S1) (r2 : RawEv W A2 S2) :
  TwoEv (W.alloc (.cells #[.slice A1 n1 c1, .slice A2 n2 c2] 26)) (some ⟨W.heap.size, 0, none⟩) S1 S2 := by
 subst h1
 subst h2
 have hb : Below W.heap.size W (W.alloc (.cells #[.slice A1 S1.length c1, .slice A2 S2.length c2] 26)) := (Below.refl _ _).alloc (Nat.le_refl _) _
 refine ⟨W.heap.size, 0, A1, c1, A2, c2, rfl, ?_, ?_, r1.below hb, r2.below hb⟩
 ·rw [cell_of_row _ _ _ _ _ _ (heap_alloc_new W _)]; rfl
 ·rw [cell_of_row _ _ _ _ _ _ (heap_alloc_new W _)]; rfl
theorem three_boxes (a b c : Array Value) (TA TB TC : TypeId) (w : World) :
  (((w.alloc (.cells a TA)).alloc (.cells b TB)).alloc (.cells c TC)).heap[w.heap.size]? = some (.cells a TA (0, 0)) ∧ (((w.alloc (.cells a TA)).alloc (.cells b TB)).alloc (.cells c TC)).heap[w.heap.size + 1]? = some (.cells b TB (0, 0)) ∧ (((w.alloc (.cells a TA)).alloc (.cells b TB)).alloc (.cells c TC)).heap[w.heap.size + 1 + 1]? = some (.cells c TC (0, 0)) ∧
    Below w.heap.size w (((w.alloc (.cells a TA)).alloc (.cells b TB)).alloc (.cells c TC)) ∧ (((w.alloc (.cells a TA)).alloc (.cells b TB)).alloc (.cells c TC)).heap.size = w.heap.size + 3 := by
 refine ⟨?_, ?_, ?_, (((Below.refl w.heap.size w).alloc (Nat.le_refl _) _).alloc (by simp) _).alloc (by simp; omega) _, by simp⟩
 ·rw [Below.heap_alloc _ _ _ (by simp; omega), Below.heap_alloc _ _ _ (by simp)]
  exact heap_alloc_new w _
 ·rw [Below.heap_alloc _ _ _ (by simp)]
  have := heap_alloc_new (w.alloc (.cells a TA)) (.cells b TB)
  simpa using this
 ·have := heap_alloc_new ((w.alloc (.cells a TA)).alloc (.cells b TB)) (.cells c TC)
  simpa using this
def AddGivesB (B : List Nat) (S : List Nat) (d : Nat) (files : List File) (h : Hd) (x u n z : Nat) (R : List Ev) (w : World) (e : Ending) (w' : World) : Prop :=
 ∃ A S', e = .returned (.tuple #[segV (x : Int) u A n n z, .int .i64 0]) ∧ Disk w' d S' files h ∧ Beside S w w' ∧ (∀ k ∈ S', k ∈ S ∨ w.heap.size ≤ k) ∧ SeesEv (S' ++ B) w' A n R
set_option maxHeartbeats 4000000 in
theorem addS_okB (B : List Nat) (d : Nat) (S : List Nat) (files : List File) (h : Hd) (x u : Nat) (A : Option Addr) (n c z : Nat) (R : List Ev) (ev : Ev) (Be : Option Addr) (me ke : Nat) (w : World) (TT : TabsOn S w) (hd : Disk w d S files h)
  (hsee : SeesEv (S ++ B) w A n R) (hB : ∀ k ∈ B, k < w.heap.size) (hs : Sees w Be me ev.text) (hout : Out S Be me) (hf : h.fits) (hac : h.acts < 1000000000000) (ht : sumA files ≤ 1000000000000) (hfs : files.length < 1000000000000)
  (hx : x < 64) (hu : u + n < 9223372036854775808) (hn : n ≤ 10000000) (hz : z ≤ 1000000000000) (hr : Right ev) (hfit : ev.Fit) (htx : ev.text.length ≤ 1048576) (hkey : ev.key.size ≤ 1048576) (hfo : ev.writer = (x : Int) ∧ ev.seq = u + n) (happ : appE h (nameL (x : Int) u) (wrap (evL ev)) files = 0) :
  Calls Tryz.prog 191 #[segV (x : Int) u A n c z, .pointer (some ⟨d, 0, none⟩), ev.val Be me ke] w (AddGivesB B S d (appF h (nameL (x : Int) u) (wrap (evL ev)) files) h.act x u (n + 1) (z + (wrap (evL ev)).length) (R ++ [plainE ev]) w) := by
 have hel : (evL ev).length ≤ 2097152 := by have := evL_len hr; omega
 have hme := hs.1
 have hRr := fun W => right_any ev Be me ke W hfit hme.symm (by omega) (by omega)
 rw [(right_iff ev).2 hr] at hRr
 simp only [show ((0 : Nat) : Int) = 0 from rfl] at hRr
 have hwf : ∀ W, Calls Tryz.prog 252 #[segV (x : Int) u A n c z, ev.val Be me ke] W fun e' w' => e' = .returned (.bool true) ∧ Below W.heap.size W w' := fun W => by
  have := follows_any (x : Int) u A n c z ev Be me ke W (by omega)
  rwa [decide_eq_true hfo] at this
 have henc := fun W (hT : Sees W Be me ev.text) => encode_any ev Be me ke W hT hfit.q hr
 have hname := fun W hT => name_any (x : Int) u (by omega) (by omega) (by omega) W hT
 have hadd := fun W (A1 : Option Addr) (c1 : Nat) hT hd' hc hS => Sht.add_any d S files h (nameL (x : Int) u) A1 (evL ev).length c1 (evL ev) W hT hd' hf hac (name_ok (by omega)) ht hfs hel hc hS
 rw [happ] at hadd
 have HFO := Lib.hid hfo
 generalize nameL (x : Int) u = NM at hname hadd ⊢
 generalize hF' : appF h NM (wrap (evL ev)) files = F' at hadd ⊢
 generalize hH' : h.act = H' at hadd ⊢
 obtain ⟨g0, g1, g2, hb0, hz0⟩ := three_boxes #[.int .i64 (x : Int), .int .u64 (u : Int), .slice A n c, .int .i64 (z : Int)] #[.int .i64 ev.writer, .int .u64 (ev.seq : Int), .int .u64 (ev.time : Int), .int .u8 (ev.kind : Int), .string ev.key, .slice Be me ke, .float .f64 ev.num, .int .i64 ev.node] #[.int .i64 0, .int .u64 0, .slice none 0 0, .int .i64 0] 134 38 134 w
 have hsf := store_float Tryz.prog
 have HR := Lib.hid hr
 have HSL : Hid (∀ k ∈ S, k < w.heap.size) := Lib.hid hd.lt
 obtain ⟨LE, hLE⟩ : ∃ LE, LE = (evL ev).length := ⟨_, rfl⟩
 clear hfo hF' hH' happ hfs ht hac hf
 unfold segV at hwf ⊢
 have hvv : ∀ A' n' c', ev.val A' n' c' = .agg #[.int .i64 ev.writer, .int .u64 (ev.seq : Int), .int .u64 (ev.time : Int), .int .u8 (ev.kind : Int), .string ev.key, .slice A' n' c', .float .f64 ev.num, .int .i64 ev.node] := fun _ _ _ => rfl
 rw [hvv] at hwf ⊢
 simp only [hvv] at hRr henc
 clear hvv
 -- what holds at any world behind the boxes
 have K0 : Hid (∀ W, Beside S (((w.alloc (.cells #[.int .i64 (x : Int), .int .u64 (u : Int), .slice A n c, .int .i64 (z : Int)] 134)).alloc (.cells #[.int .i64 ev.writer, .int .u64 (ev.seq : Int), .int .u64 (ev.time : Int), .int .u8 (ev.kind : Int), .string ev.key, .slice Be me ke, .float .f64 ev.num, .int .i64 ev.node] 38)).alloc (.cells #[.int .i64 0, .int .u64 0, .slice none 0 0, .int .i64 0] 134)) W →
   W.heap[w.heap.size]? = some (.cells #[.int .i64 (x : Int), .int .u64 (u : Int), .slice A n c, .int .i64 (z : Int)] 134 (0, 0)) ∧ W.heap[w.heap.size + 1]? = some (.cells #[.int .i64 ev.writer, .int .u64 (ev.seq : Int), .int .u64 (ev.time : Int), .int .u8 (ev.kind : Int), .string ev.key, .slice Be me ke, .float .f64 ev.num, .int .i64 ev.node] 38 (0, 0)) ∧ W.heap[w.heap.size + 1 + 1]? = some (.cells #[.int .i64 0, .int .u64 0, .slice none 0 0, .int .i64 0] 134 (0, 0)) ∧
   Beside S w W ∧ w.heap.size + 3 ≤ W.heap.size ∧ Sees W Be me ev.text) := Lib.hid (by
  intro W hW
  have hns : ∀ i, w.heap.size + i ∉ S := fun i hm => by have := HSL.out _ hm; omega
  refine ⟨(hW.block _ (by rw [hz0]; omega) (hns 0)).trans g0, (hW.block _ (by rw [hz0]; omega) (hns 1)).trans g1, (hW.block _ (by rw [hz0]; omega) (hns 2)).trans g2, (Beside.of_below hb0 S).trans hW fun k hk => .inl hk, by have := hW.size; omega, (hs.below hb0).beside hW hout⟩)
 clear g0 g1 g2
 go_enter Tryz.func191, Tryz.ntmps191
 go_wp2_with fail
 generalize hW0 : (((w.alloc (.cells #[.int .i64 (x : Int), .int .u64 (u : Int), .slice A n c, .int .i64 (z : Int)] 134)).alloc (.cells #[.int .i64 ev.writer, .int .u64 (ev.seq : Int), .int .u64 (ev.time : Int), .int .u8 (ev.kind : Int), .string ev.key, .slice Be me ke, .float .f64 ev.num, .int .i64 ev.node] 38)).alloc (.cells #[.int .i64 0, .int .u64 0, .slice none 0 0, .int .i64 0] 134)) = W0 at K0 hb0 hz0 ⊢
 clear hW0
 have hd0 := hd.below hb0
 have hsee0 : SeesEv (S ++ (B ++ [w.heap.size, w.heap.size + 1, w.heap.size + 1 + 1])) W0 A n R := hsee.next (Beside.of_below hb0 (S ++ B)) fun k hk => by
  rcases List.mem_append.1 hk with hk | hk
  ·exact .inl (List.mem_append_left _ hk)
  ·rcases List.mem_append.1 hk with hk | hk
   ·exact .inl (List.mem_append_right _ hk)
   ·refine .inr ?_
    simp at hk
    omega
 have HSEE0 := Lib.hid hsee0
 have HD0 := Lib.hid hd0
 clear hd0 hsee0 hsee hd hs hout
 refine (hRr W0).mono ?_
 rintro e w1 ⟨rfl, hb1⟩
 have B1 := Lib.hid hb1
 obtain ⟨g0, g1, _, _, hz1, _⟩ := K0.out w1 (Beside.of_below hb1 S)
 obtain ⟨s0, s1, s2, s3⟩ := b4cells g0
 obtain ⟨k0, k1, k2, k3, k4, k5, k6, k7⟩ := box8 g1
 clear hRr hb1 g0 g1
 go_wp2_with fail
 refine (hwf w1).mono ?_
 rintro e w2 ⟨rfl, hb2⟩
 have B2 : Hid (Below W0.heap.size W0 w2) := Lib.hid (B1.out.trans (hb2.mono B1.out.size))
 obtain ⟨g0, g1, _, _, hz2, hs2⟩ := K0.out w2 (Beside.of_below B2.out S)
 clear s0 s1 s2 s3 k0 k1 k2 k3 k4 k5 k6 k7 hwf hb2
 obtain ⟨k0, k1, k2, k3, k4, k5, k6, k7⟩ := box8 g1
 clear g0 g1
 go_wp2_with fail
 refine (henc w2 hs2).mono ?_
 rintro e w3 ⟨A1, c1, rfl, hown1, hb3⟩
 have B3 : Hid (Below W0.heap.size W0 w3) := Lib.hid (B2.out.trans (hb3.mono B2.out.size))
 obtain ⟨g0, g1, _, hbw3, hz3, _⟩ := K0.out w3 (Beside.of_below B3.out S)
 have hcap1 := Own.cap hown1
 have hs1' := Sees.of_own hown1
 clear k0 k1 k2 k3 k4 k5 k6 k7 henc hb3 hown1
 obtain ⟨s0, s1, s2, s3⟩ := b4cells g0
 have ST3 := (TT w3 hbw3).2
 clear g0 g1 hbw3
 go_wp2_with fail
 refine (hname w3 ST3).mono ?_
 rintro e w4 ⟨rfl, hb4⟩
 have B4 : Hid (Below W0.heap.size W0 w4) := Lib.hid (B3.out.trans (hb4.mono B3.out.size))
 obtain ⟨_, _, _, hbw4, hz4, _⟩ := K0.out w4 (Beside.of_below B4.out S)
 have T4 := (TT w4 hbw4).1
 have hs4 := hs1'.below hb4
 have hd4 := HD0.out.below B4.out
 clear hname ST3 hb4 hs1' s0 s1 s2 s3 hbw4
 go_wp2_with fail
 refine (hadd w4 A1 c1 T4 hd4 hcap1.1 hs4).mono ?_
 rintro e w5 ⟨rfl, S5, hd5, hb5, hs5⟩
 have B5 : Beside S W0 w5 := (Beside.of_below B4.out S).trans hb5 fun k hk => .inl hk
 have hS5 : ∀ k ∈ S5, k ∈ S ∨ W0.heap.size ≤ k := fun k hk => (hs5 k hk).imp id fun h => Nat.le_trans B4.out.size h
 obtain ⟨g0, g1, g2, hbw5, hz5, htx5⟩ := K0.out w5 B5
 have hsee5 : SeesEv (S5 ++ (B ++ [w.heap.size, w.heap.size + 1, w.heap.size + 1 + 1])) w5 A n R := HSEE0.out.next (B5.wider fun k hk => .inl (List.mem_append_left _ hk)) fun k hk => by
  rcases List.mem_append.1 hk with hk | hk
  ·rcases hS5 k hk with h | h
   ·exact .inl (List.mem_append_left _ h)
   ·exact .inr h
  ·exact .inl (List.mem_append_right _ hk)
 obtain ⟨S1, hS1e, hS1n, hraw, houtA, htext⟩ := hsee5
 have HC : Hid (∀ W, Below w5.drew.heap.size w5.drew W → (W.cell? ⟨w.heap.size, 0, none⟩ = some (.int .i64 (x : Int)) ∧ W.cell? ⟨w.heap.size, 1, none⟩ = some (.int .u64 (u : Int)) ∧ W.cell? ⟨w.heap.size, 2, none⟩ = some (.slice A n c) ∧ W.cell? ⟨w.heap.size, 3, none⟩ = some (.int .i64 (z : Int))) ∧
   (W.cell? ⟨w.heap.size + 1, 0, none⟩ = some (.int .i64 ev.writer) ∧ W.cell? ⟨w.heap.size + 1, 1, none⟩ = some (.int .u64 (ev.seq : Int)) ∧ W.cell? ⟨w.heap.size + 1, 2, none⟩ = some (.int .u64 (ev.time : Int)) ∧ W.cell? ⟨w.heap.size + 1, 3, none⟩ = some (.int .u8 (ev.kind : Int)) ∧ W.cell? ⟨w.heap.size + 1, 4, none⟩ = some (.string ev.key) ∧ W.cell? ⟨w.heap.size + 1, 5, none⟩ = some (.slice Be me ke) ∧ W.cell? ⟨w.heap.size + 1, 6, none⟩ = some (.float .f64 ev.num) ∧ W.cell? ⟨w.heap.size + 1, 7, none⟩ = some (.int .i64 ev.node)) ∧
   RawEv W A S1 ∧ Sees W Be me ev.text) := Lib.hid fun W hW => by
  have hW' : Below w5.heap.size w5 W := (Below.refl _ _).drew.trans hW
  exact ⟨b4cells ((hW'.block _ (by omega)).trans g0), box8 ((hW'.block _ (by omega)).trans g1), hraw.below hW', htx5.below hW'⟩
 have HG0 := Lib.hid g0
 have HG2 := Lib.hid g2
 have HD5 := Lib.hid hd5
 have HB5 := Lib.hid hbw5
 have HS5 := Lib.hid hS5
 have HTX := Lib.hid htext
 have HS1 : Hid (S1.map EvS.e = R) := Lib.hid hS1e
 clear hadd T4 hs4 hd4 hb5 hs5 B5 g0 g1 g2 hd5 hbw5 hS5 hraw houtA htext htx5 hS1e K0 HSEE0 HD0 B1 B2 B3 B4 hb0
 go_wp2_with fail
 refine Facts.wp_region_tail 9 (n := 53) (by kernel_rfl) (by kernel_rfl) (by kernel_rfl) rfl [Facts.Pred.is (Value.pointer (some ⟨w.heap.size, 2, none⟩)), Facts.Pred.is (Value.slice A n c), Facts.Pred.is (ev.val Be me ke), Pred.plain ev w5.heap.size, Pred.one ev w5.heap.size, Pred.two ev w5.heap.size S1, Pred.cat ev w5.heap.size S1 n, Pred.clip ev w5.heap.size S1 n, Facts.Pred.is (Value.pointer (some ⟨w.heap.size, 2, none⟩))] ?_ ?_
 ·refine ⟨?_, ?_, ?_, ?_, ?_, ?_, ?_, ?_, ?_, trivial⟩
  ·refine Facts.step_is (Value.pointer (some ⟨w.heap.size, 2, none⟩)) fun a W hR hold hnew => ?_
   have f3 : a.tmps.getD 3 undef = Value.pointer (some ⟨w.heap.size, 0, none⟩) := hold 3 (by kernel_rfl)
   refine ⟨Facts.wanted_free rfl, ?_, fun _ => rfl⟩; simp [go_sem, Act.eval, f3]
  ·refine Facts.step_is (Value.slice A n c) fun a W hR hold hnew => ?_
   have f36 : a.tmps.getD 36 undef = Value.pointer (some ⟨w.heap.size, 2, none⟩) := hnew 0 36 (by kernel_rfl)
   obtain ⟨s0, s1, s2, s3⟩ := (HC.out W hR).1
   refine ⟨Facts.wanted_free rfl, ?_, fun _ => rfl⟩; simp [go_sem, Act.eval, f36, s2]
  ·refine Facts.step_is (ev.val Be me ke) fun a W hR hold hnew => ?_
   have f5 : a.tmps.getD 5 undef = Value.pointer (some ⟨w.heap.size + 1, 0, none⟩) := hold 5 (by kernel_rfl)
   obtain ⟨k0, k1, k2, k3, k4, k5, k6, k7⟩ := (HC.out W hR).2.1
   refine ⟨Facts.wanted_free rfl, ?_, fun _ => rfl⟩; simp [go_sem, Act.eval, f5, k0, k1, k2, k3, k4, k5, k6, k7, Ev.val]
  ·-- 3: Op.call { value (Operand.func 51), args := #[t38], argTypes
   refine Facts.step_call fun a W hR hold hnew => ?_
   have f38 : a.tmps.getD 38 undef = ev.val Be me ke := hnew 2 38 (by kernel_rfl)
   refine ⟨Facts.wanted_free rfl, 39, #[ev.val Be me ke], by simp [go_sem, Act.eval, f38], ?_⟩
   refine (plain_new ev Be me ke W (HC.out W hR).2.2.2 (by omega)).mono ?_
   rintro e' w7 ⟨A7, n7, c7, rfl, hs7, h71, h72, hb7, hf7⟩
   exact ⟨_, rfl, hb7, ⟨plainE ev, A7, n7, c7⟩, rfl, rfl, hs7, h71, h72, fun h0 a ha => Nat.le_trans hR.size (hf7 h0 a ha)⟩
  ·-- 4: Op.buildSlice 27 1 #[(0, t39)]
   refine Facts.step_new fun a W hR hold hnew => ?_
   have h39 : ∃ r : EvS, a.tmps.getD 39 undef = r.e.val r.A r.n r.c ∧ PT ev w5.heap.size r W := hnew 3 39 (by kernel_rfl)
   obtain ⟨r, f39, hp⟩ := h39
   refine ⟨Facts.wanted_free rfl, .slice (some ⟨W.heap.size, 0, none⟩) 1 1, W.alloc (.cells (r.e.row r.A r.n r.c) 38), by rw [Array.getD_eq_getD_getElem?] at f39; simp [go_sem, Act.eval, f39, Ev.val, Ev.row], (Below.refl _ _).alloc (Nat.le_refl _) _, ?_⟩
   exact ⟨W.heap.size, r, rfl, raw_new W r, hp.below ((Below.refl _ _).alloc (Nat.le_refl _) _)⟩
  ·-- 5: Op.buildSlice 133 2 #[(0, t37), (1, t40)]
   refine Facts.step_new fun a W hR hold hnew => ?_
   have f37 : a.tmps.getD 37 undef = Value.slice A n c := hnew 1 37 (by kernel_rfl)
   have h40 : ∃ (g : Nat) (r : EvS), a.tmps.getD 40 undef = .slice (some ⟨g, 0, none⟩) 1 1 ∧ RawEv W (some ⟨g, 0, none⟩) [r] ∧ PT ev w5.heap.size r W := hnew 4 40 (by kernel_rfl)
   obtain ⟨g, r, f40, hra, hp⟩ := h40
   refine ⟨Facts.wanted_free rfl, .slice (some ⟨W.heap.size, 0, none⟩) 2 2, W.alloc (.cells #[.slice A n c, .slice (some ⟨g, 0, none⟩) 1 1] 26), by rw [Array.getD_eq_getD_getElem?] at f37 f40; simp [go_sem, Act.eval, f37, f40], (Below.refl _ _).alloc (Nat.le_refl _) _, ?_⟩
   exact ⟨W.heap.size, r, rfl, two_new W S1 [r] A _ n 1 c 1 hS1n rfl (HC.out W hR).2.2.1 hra, hp.below ((Below.refl _ _).alloc (Nat.le_refl _) _)⟩
  ·-- 6: Op.call { value (Operand.func 50), args := #[t41], argTypes
   refine Facts.step_call fun a W hR hold hnew => ?_
   have h41 : ∃ (g : Nat) (r : EvS), a.tmps.getD 41 undef = .slice (some ⟨g, 0, none⟩) 2 2 ∧ TwoEv W (some ⟨g, 0, none⟩) S1 [r] ∧ PT ev w5.heap.size r W := hnew 5 41 (by kernel_rfl)
   obtain ⟨g, r, f41, htw, hp⟩ := h41
   refine ⟨Facts.wanted_free rfl, 254, #[.slice (some ⟨g, 0, none⟩) 2 2], by simp [go_sem, Act.eval, f41], ?_⟩
   refine (concatE (some ⟨g, 0, none⟩) 2 S1 [r] W htw (by omega) (by simp)).mono ?_
   rintro e' w7 ⟨A7, c7, he7, hown7, hb7⟩
   have hl : (S1 ++ [r]).length = n + 1 := by simp [hS1n]
   rw [hl] at he7 hown7
   subst he7
   exact ⟨_, rfl, hb7, A7, c7, r, rfl, own_lower8 hown7 hR.size, hp.below hb7⟩
  ·-- 7: Op.call { value (Operand.func 49), args := #[t42], argTypes
   refine Facts.step_call fun a W hR hold hnew => ?_
   have h42 : ∃ (A : Option Addr) (c : Nat) (r : EvS), a.tmps.getD 42 undef = .slice A (n + 1) c ∧ W.ownsRow w5.heap.size 38 8 (.slice A (n + 1) c) (n + 1) (rowsL (S1 ++ [r])) ∧ PT ev w5.heap.size r W := hnew 6 42 (by kernel_rfl)
   obtain ⟨A7, c7, r, f42, hown7, hp⟩ := h42
   refine ⟨Facts.wanted_free rfl, 201, #[.slice A7 (n + 1) c7], by simp [go_sem, Act.eval, f42], ?_⟩
   refine (clipE A7 (n + 1) c7 W (own_cap8 hown7).1).mono ?_
   rintro e' w7 ⟨rfl, rfl⟩
   exact ⟨_, rfl, Below.refl _ _, A7, c7, r, rfl, hown7, hp⟩
  ·refine Facts.step_is (Value.pointer (some ⟨w.heap.size, 2, none⟩)) fun a W hR hold hnew => ?_
   have f3 : a.tmps.getD 3 undef = Value.pointer (some ⟨w.heap.size, 0, none⟩) := hold 3 (by kernel_rfl)
   refine ⟨Facts.wanted_free rfl, ?_, fun _ => rfl⟩; simp [go_sem, Act.eval, f3]
 ·intro a w6 hR' hsize hdef hnew hold
  have h43 : ∃ (A : Option Addr) (c : Nat) (r : EvS), a.tmps.getD 43 undef = .slice A (n + 1) (n + 1) ∧ w6.ownsRow w5.heap.size 38 8 (.slice A (n + 1) c) (n + 1) (rowsL (S1 ++ [r])) ∧ PT ev w5.heap.size r w6 := hnew 7 43 (by omega) (by kernel_rfl)
  obtain ⟨A6, c6, r6, v43, hown6, hp6⟩ := h43
  have f3 : a.tmps.getD 3 undef = Value.pointer (some ⟨w.heap.size, 0, none⟩) := hold 3 (not_dst (by kernel_rfl))
  have f6 : a.tmps.getD 6 undef = Value.pointer (some ⟨w.heap.size + 1 + 1, 0, none⟩) := hold 6 (not_dst (by kernel_rfl))
  have f7 : a.tmps.getD 7 undef = Value.int .i64 0 := hold 7 (not_dst (by kernel_rfl))
  have f9 : a.tmps.getD 9 undef = Value.slice A1 (evL ev).length c1 := hold 9 (not_dst (by kernel_rfl))
  have f43 : a.tmps.getD 43 undef = Value.slice A6 (n + 1) (n + 1) := v43
  have f44 : a.tmps.getD 44 undef = Value.pointer (some ⟨w.heap.size, 2, none⟩) := hnew 8 44 (by omega) (by kernel_rfl)
  obtain ⟨tm, df⟩ := a
  simp only [] at hdef hsize f3 f6 f7 f9 f43 f44
  obtain ⟨xq, hxq, hlit⟩ := Facts.lits tm hsize Facts.idx53 Facts.idx53_eq
  rw [hxq] at f3 f6 f7 f9 f43 f44
  simp only [Facts.idx53, List.map_cons, List.map_nil, f3, f6, f7, f9, f43, f44] at hlit
  clear f3 f6 f7 f9 f43 f44 hsize hnew hold hxq
  subst hlit
  subst hdef
  try simp only []
  simp only [List.drop_succ_cons, List.drop_zero]
  have hb6 : Below w5.heap.size w5 w6 := (Below.refl _ _).drew.trans hR'
  have G0 := (hb6.block w.heap.size (by omega)).trans HG0.out
  have G2 := (hb6.block (w.heap.size + 1 + 1) (by omega)).trans HG2.out
  obtain ⟨s0, s1, s2, s3⟩ := b4cells G0
  have f2 := frozen_row0 (i := 2) G0
  have HB6 := Lib.hid hb6
  have HO6 := Lib.hid hown6
  have HP6 := Lib.hid hp6
  have HG0' := Lib.hid G0
  have HG2' := Lib.hid G2
  clear G0 G2 hb6 hown6 hp6 hR' HC
  go_wp2_with fail
  have bx : Beside [w.heap.size] w6 (w6.setCell ⟨w.heap.size, 2, none⟩ (.slice A6 (n + 1) (n + 1))) := (Beside.refl _ _).setCell (by simp) _
  have hbS : w.heap.size ∉ S5 := fun hm => by
   rcases HS5.out _ hm with h | h
   ·have := HSL.out _ h; omega
   ·omega
  have hbS2 : w.heap.size + 1 + 1 ∉ S5 := fun hm => by
   rcases HS5.out _ hm with h | h
   ·have := HSL.out _ h; omega
   ·omega
  have G0 : (w6.setCell ⟨w.heap.size, 2, none⟩ (.slice A6 (n + 1) (n + 1))).heap[w.heap.size]? = some (.cells #[.int .i64 (x : Int), .int .u64 (u : Int), .slice A6 (n + 1) (n + 1), .int .i64 (z : Int)] 134 (0, 0)) := by rw [heapSame HG0'.out]; rfl
  have hw6 := HB6.out.size
  have G2 := (bx.block (w.heap.size + 1 + 1) (by omega) (by simp; omega)).trans HG2'.out
  have hlt5 : ∀ k ∈ S5, k < w5.heap.size := HD5.out.lt
  have HSE : Hid (SeesEv (S5 ++ (B ++ [w.heap.size, w.heap.size + 1, w.heap.size + 1 + 1])) (w6.setCell ⟨w.heap.size, 2, none⟩ (.slice A6 (n + 1) (n + 1))) A6 (n + 1) (R ++ [plainE ev])) := Lib.hid (by
   have hlt : ∀ k ∈ S5 ++ (B ++ [w.heap.size, w.heap.size + 1, w.heap.size + 1 + 1]), k < w5.heap.size := fun k hk => by
    rcases List.mem_append.1 hk with h | h
    ·exact hlt5 k h
    ·rcases List.mem_append.1 h with h | h
     ·have := hB k h; omega
     ·simp at h; omega
   have h1 := SeesEv.of_own HO6.out hlt (fun r hr => by
    rcases List.mem_append.1 hr with h | h
    ·exact (HTX.out r h).next (Beside.of_below HB6.out _) fun k hk => .inl hk
    ·simp at h
     subst h
     have hp := HP6.out
     exact ⟨hp.2.1, hp.2.2.1, hp.2.2.2.1, hp.2.2.2.2.out hlt⟩)
   have he : (S1 ++ [r6]).map EvS.e = R ++ [plainE ev] := by rw [List.map_append, HS1.out, List.map_cons, List.map_nil, HP6.out.1]
   rw [he] at h1
   exact h1.next (bx.wider fun k hk => .inl (by simp at hk; simp [hk])) fun k hk => .inl hk)
  have HD7 : Hid (Disk (w6.setCell ⟨w.heap.size, 2, none⟩ (.slice A6 (n + 1) (n + 1))) d S5 F' H') := Lib.hid (disk_box (HD5.out.below HB6.out) _ hbS)
  have HB7 : Hid (Beside S w (w6.setCell ⟨w.heap.size, 2, none⟩ (.slice A6 (n + 1) (n + 1)))) := Lib.hid ((HB5.out.below HB6.out).setNew (by simp) _)
  generalize w6.setCell ⟨w.heap.size, 2, none⟩ (.slice A6 (n + 1) (n + 1)) = w7 at G0 G2 HSE HD7 HB7 ⊢
  have HC7 : Hid (∀ W, Below w7.drew.heap.size w7.drew W → W.cell? ⟨w.heap.size, 3, none⟩ = some (.int .i64 (z : Int))) := Lib.hid fun W hW => (b4cells ((((Below.refl w7.heap.size w7).drew.trans hW).block w.heap.size (Array.getElem?_eq_some_iff.1 G0).1).trans G0)).2.2.2
  have HG7 := Lib.hid G0
  have HG72 := Lib.hid G2
  have hsum : IntKind.i64.wrap ((z : Int) + ((wrap (evL ev)).length : Int)) = (z : Int) + ((wrap (evL ev)).length : Int) := by
   have := wrap_length (evL ev)
   have := enc_ten (n := (evL ev).length) (by omega)
   rw [IntKind.wrap_i64]
   omega
  clear bx G0 G2 s0 s1 s2 s3 f2 HG0' HG2' HG0 HG2 HO6 HP6 HTX HD5 HB5
  refine Facts.wp_region_tail 7 (n := 53) (by kernel_rfl) (by kernel_rfl) (by kernel_rfl) rfl [Facts.Pred.is (Value.pointer (some ⟨w.heap.size, 3, none⟩)), Facts.Pred.is (Value.int .i64 (z : Int)), Facts.Pred.is (Value.slice A1 (evL ev).length c1), Facts.Pred.is (Value.int .i64 ((evL ev).length : Int)), Facts.Pred.is (Value.int .i64 ((wrap (evL ev)).length : Int)), Facts.Pred.is (Value.int .i64 ((z + (wrap (evL ev)).length : Nat) : Int)), Facts.Pred.is (Value.pointer (some ⟨w.heap.size, 3, none⟩))] ?_ ?_
  ·refine ⟨?_, ?_, ?_, ?_, ?_, ?_, ?_, trivial⟩
   ·refine Facts.step_is (Value.pointer (some ⟨w.heap.size, 3, none⟩)) fun a W hR hold hnew => ?_
    have f3 : a.tmps.getD 3 undef = Value.pointer (some ⟨w.heap.size, 0, none⟩) := hold 3 (by kernel_rfl)
    refine ⟨Facts.wanted_free rfl, ?_, fun _ => rfl⟩; simp [go_sem, Act.eval, f3]
   ·refine Facts.step_is (Value.int .i64 (z : Int)) fun a W hR hold hnew => ?_
    have f45 : a.tmps.getD 45 undef = Value.pointer (some ⟨w.heap.size, 3, none⟩) := hnew 0 45 (by kernel_rfl)
    have s3 := HC7.out W hR
    refine ⟨Facts.wanted_free rfl, ?_, fun _ => rfl⟩; simp [go_sem, Act.eval, f45, s3]
   ·refine Facts.step_is (Value.slice A1 (evL ev).length c1) fun a W hR hold hnew => ?_
    have f9 : a.tmps.getD 9 undef = Value.slice A1 (evL ev).length c1 := hold 9 (by kernel_rfl)
    refine ⟨Facts.wanted_free rfl, ?_, fun _ => rfl⟩; simp [go_sem, Act.eval, f9]
   ·refine Facts.step_is (Value.int .i64 ((evL ev).length : Int)) fun a W hR hold hnew => ?_
    have f47 : a.tmps.getD 47 undef = Value.slice A1 (evL ev).length c1 := hnew 2 47 (by kernel_rfl)
    refine ⟨Facts.wanted_free rfl, ?_, fun _ => rfl⟩; simp [go_sem, Act.eval, f47]
   ·-- 4: Op.call { value (Operand.func 52), args := #[t48], argTypes
    refine Facts.step_call fun a W hR hold hnew => ?_
    have f48 : a.tmps.getD 48 undef = Value.int .i64 ((evL ev).length : Int) := hnew 3 48 (by kernel_rfl)
    refine ⟨Facts.wanted_free rfl, 255, #[Value.int .i64 ((evL ev).length : Int)], by simp [go_sem, Act.eval, f48], ?_⟩
    refine (size_wrap (evL ev) W (by omega)).mono ?_
    rintro e' w9 ⟨rfl, hb9⟩
    exact ⟨_, rfl, hb9, rfl⟩
   ·refine Facts.step_is (Value.int .i64 ((z + (wrap (evL ev)).length : Nat) : Int)) fun a W hR hold hnew => ?_
    have f46 : a.tmps.getD 46 undef = Value.int .i64 (z : Int) := hnew 1 46 (by kernel_rfl)
    have f49 : a.tmps.getD 49 undef = Value.int .i64 ((wrap (evL ev)).length : Int) := hnew 4 49 (by kernel_rfl)
    refine ⟨Facts.wanted_free rfl, ?_, fun _ => rfl⟩; simp [go_sem, Act.eval, f46, f49, hsum]
   ·refine Facts.step_is (Value.pointer (some ⟨w.heap.size, 3, none⟩)) fun a W hR hold hnew => ?_
    have f3 : a.tmps.getD 3 undef = Value.pointer (some ⟨w.heap.size, 0, none⟩) := hold 3 (by kernel_rfl)
    refine ⟨Facts.wanted_free rfl, ?_, fun _ => rfl⟩; simp [go_sem, Act.eval, f3]
  ·intro a w8 hR' hsize hdef hnew hold
   have f3 : a.tmps.getD 3 undef = Value.pointer (some ⟨w.heap.size, 0, none⟩) := hold 3 (not_dst (by kernel_rfl))
   have f6 : a.tmps.getD 6 undef = Value.pointer (some ⟨w.heap.size + 1 + 1, 0, none⟩) := hold 6 (not_dst (by kernel_rfl))
   have f7 : a.tmps.getD 7 undef = Value.int .i64 0 := hold 7 (not_dst (by kernel_rfl))
   have f50 : a.tmps.getD 50 undef = Value.int .i64 ((z + (wrap (evL ev)).length : Nat) : Int) := hnew 5 50 (by omega) (by kernel_rfl)
   have f51 : a.tmps.getD 51 undef = Value.pointer (some ⟨w.heap.size, 3, none⟩) := hnew 6 51 (by omega) (by kernel_rfl)
   obtain ⟨tm, df⟩ := a
   simp only [] at hdef hsize f3 f6 f7 f50 f51
   obtain ⟨xq, hxq, hlit⟩ := Facts.lits tm hsize Facts.idx53 Facts.idx53_eq
   rw [hxq] at f3 f6 f7 f50 f51
   simp only [Facts.idx53, List.map_cons, List.map_nil, f3, f6, f7, f50, f51] at hlit
   clear f3 f6 f7 f50 f51 hsize hnew hold hxq
   subst hlit
   subst hdef
   try simp only []
   simp only [List.drop_succ_cons, List.drop_zero]
   have hb8 : Below w7.heap.size w7 w8 := (Below.refl _ _).drew.trans hR'
   have G0 := (hb8.block w.heap.size (Array.getElem?_eq_some_iff.1 HG7.out).1).trans HG7.out
   have G2 := (hb8.block (w.heap.size + 1 + 1) (Array.getElem?_eq_some_iff.1 HG72.out).1).trans HG72.out
   obtain ⟨s0, s1, s2, s3⟩ := b4cells G0
   obtain ⟨r0, r1, r2, r3⟩ := b4cells G2
   have f3 := frozen_row0 (i := 3) G0
   have e0 := frozen_row0 (i := 0) G2
   have e1 := frozen_row0 (i := 1) G2
   have e2 := frozen_row0 (i := 2) G2
   have e3 := frozen_row0 (i := 3) G2
   have HB8 := Lib.hid hb8
   clear G0 G2 hb8 hR' HC7 HG7 HG72
   go_wp2
   refine bodyPost_ret (v := .tuple #[segV (x : Int) u A6 (n + 1) (n + 1) (z + (wrap (evL ev)).length), .int .i64 0]) (by simp [results, Tryz.results191, go_sem, segV, s0, s1, s2, s3, r0, r1, r2, r3]) rfl ?_
   have hbx : Beside (S5 ++ (B ++ [w.heap.size, w.heap.size + 1, w.heap.size + 1 + 1])) w8 (((((w8.setCell ⟨w.heap.size, 3, none⟩ (.int .i64 ((z : Int) + ((wrap (evL ev)).length : Int)))).setCell ⟨w.heap.size + 1 + 1, 0, none⟩ (.int .i64 (x : Int))).setCell ⟨w.heap.size + 1 + 1, 1, none⟩ (.int .u64 (u : Int))).setCell ⟨w.heap.size + 1 + 1, 2, none⟩ (.slice A6 (n + 1) (n + 1))).setCell ⟨w.heap.size + 1 + 1, 3, none⟩ (.int .i64 ((z : Int) + ((wrap (evL ev)).length : Int)))) :=
    (((((Beside.refl _ w8).setCell (by simp) _).setCell (by simp) _).setCell (by simp) _).setCell (by simp) _).setCell (by simp) _
   refine ⟨A6, S5, rfl, ?_, ?_, fun k hk => (HS5.out k hk).imp id fun h => by omega, ?_⟩
   ·exact disk_box (disk_box (disk_box (disk_box (disk_box (HD7.out.below HB8.out) _ hbS) _ hbS2) _ hbS2) _ hbS2) _ hbS2
   ·exact (((((HB7.out.below HB8.out).setNew (by simp) _).setNew (by simp; omega) _).setNew (by simp; omega) _).setNew (by simp; omega) _).setNew (by simp; omega) _
   ·exact ((HSE.out.below HB8.out).next hbx fun k hk => .inl hk).next (Beside.refl _ _) fun k hk => .inl (by simp only [List.mem_append] at hk ⊢; exact hk.imp id .inl)
def zeroSeg : Value := .agg #[.int .i64 0, .int .u64 0, .slice none 0 0, .int .i64 0]
def Runs (x : Int) : Nat → List Ev → Prop
 | _, [] => True
 | q, e :: r => (e.writer = x ∧ e.seq = q ∧ Right e ∧ e.num < 18446744073709551616 ∧ plainE e = e ∧ e.text.length ≤ 29) ∧ Runs x (q + 1) r
end Go.Proofs.YtinjbdgjcadodaaGreatDoor.Seg
