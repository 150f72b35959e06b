/- Texts of the law ReplicaNil, put together. -/
import Derived.Test.YtinjbdgjcadodaaGreatDoorRNp27
import Derived.Test.YtinjbdgjcadodaaGreatDoorRNp28
set_option linter.unusedVariables false
set_option linter.unusedSimpArgs false
set_option maxRecDepth 100000
namespace Go.Proofs.YtinjbdgjcadodaaGreatDoor.Fd
open Go Go.RowKit Words Enc Evt Go.Proofs.YtinjbdgjcadodaaGreatDoor.Made Dsk Sht Seg
theorem wp_then {P : Program} {c : Code} {K K' : Act → World → Prop} {Q' : Exit → Act → World → Prop} {a : Act} {w : World} (hq : ∀ a w, K a w → K' a w) (h : c.wp P (Exit.then K Q') a w) : c.wp P (Exit.then K' Q') a w :=
 Code.wp_mono (fun e a w he => by cases e <;> first | exact hq _ _ he | exact he) h
structure ExtSt (w : World) (d : Nat) (S : List Nat) (files : List File) (h : Hd) (B : List Nat) (A8 : Option Addr) (m : Nat) (L : List Ev) (S9 : List Nat) (W : World) : Prop where
 disk : Disk W d S9 files h
 bes : Beside S w W
 sub : ∀ k ∈ S9, k ∈ S ∨ w.heap.size ≤ k
 sees : SeesEv (S9 ++ B) W A8 m L
theorem set_four (T : TypeId) (W : World) (b : Nat) (z0 z1 z2 z3 v0 v1 v2 v3 : Value) (hz : W.heap[b]? = some (.cells #[z0, z1, z2, z3] T (0, 0))) :
  ((((W.setCell ⟨b, 0, none⟩ v0).setCell ⟨b, 1, none⟩ v1).setCell ⟨b, 2, none⟩ v2).setCell ⟨b, 3, none⟩ v3).heap[b]? = some (.cells #[v0, v1, v2, v3] T (0, 0)) ∧ Beside [b] W ((((W.setCell ⟨b, 0, none⟩ v0).setCell ⟨b, 1, none⟩ v1).setCell ⟨b, 2, none⟩ v2).setCell ⟨b, 3, none⟩ v3) :=
 ⟨(heapSame (heapSame (heapSame (heapSame hz)))).trans rfl, ((((Beside.refl _ _).setCell (by simp) _).setCell (by simp) _).setCell (by simp) _).setCell (by simp) _⟩
theorem put_last (x : Nat) (q : List UInt8) : ∀ (I : List Part) (p : Part), Rise (I ++ [p]) → put (nameL (x : Int) p.u) q ((I ++ [p]).map (Part.file x)) = (I.map (Part.file x)) ++ [⟨nameL (x : Int) p.u, (p.file x).p ++ q, p.N⟩]
 | [], p, _ => by simp [put, Part.file]
 | a :: I, p, h => by
   have h1 := List.pairwise_cons.1 h.1
   have hne : ¬ (a.file x).name = nameL (x : Int) p.u := fun he => by
    have h3 := h1.1 p (by simp)
    have := nameL_inj (h.2 a (by simp)) (h.2 p (by simp)) he
    omega
   rw [List.cons_append, List.map_cons, put, if_neg hne, put_last x q I p ⟨h1.2, fun b hb => h.2 b (List.mem_cons_of_mem _ hb)⟩]
   rfl
set_option maxHeartbeats 1000000 in
theorem add_at (f x nx tm : Nat) (full : Bool) (ev : Ev) (Be : Option Addr) (me ke : Nat) (w : World) (Q : World → World → Prop)
  (c1 : ∀ W, Below w.heap.size w W → W.cell? ⟨f, 1, none⟩ = some (.int .i64 (x : Int)))
  (hse : ∀ W, Below w.heap.size w W → Calls Tryz.prog 121 #[.pointer (some ⟨f, 0, none⟩)] W fun e w' => e = .returned (.bool false) ∧ Below W.heap.size W w')
  (hnx : ∀ W, Below w.heap.size w W → Calls Tryz.prog 35 #[.pointer (some ⟨f, 0, none⟩)] W fun e w' => e = .returned (.int .u64 (nx : Int)) ∧ Below W.heap.size W w')
  (htm : ∀ W, Below w.heap.size w W → Calls Tryz.prog 122 #[.pointer (some ⟨f, 0, none⟩)] W fun e w' => e = .returned (.int .u64 (tm : Int)) ∧ Below W.heap.size W w')
  (hfu : ∀ W, Below w.heap.size w W → Calls Tryz.prog 123 #[.pointer (some ⟨f, 0, none⟩)] W fun e w' => e = .returned (.bool full) ∧ Below W.heap.size W w')
  (hbe : full = true → ∀ W, Below w.heap.size w W → Calls Tryz.prog 124 #[.pointer (some ⟨f, 0, none⟩), ev.val Be me ke] W fun e w' => e = .returned (.int .i64 0) ∧ Q W w')
  (hex : full = false → ∀ W, Below w.heap.size w W → Calls Tryz.prog 125 #[.pointer (some ⟨f, 0, none⟩), ev.val Be me ke] W fun e w' => e = .returned (.int .i64 0) ∧ Q W w')
  (hw : ev.writer = (x : Int)) (hq : ev.seq = nx) (ht : tm < ev.time) (hfl : f < w.heap.size) :
  Calls Tryz.prog 68 #[.pointer (some ⟨f, 0, none⟩), ev.val Be me ke] w fun e w' => e = .returned (.int .i64 0) ∧ ∃ W, Below w.heap.size w W ∧ Q W w' := by
 have hsf := store_float Tryz.prog
 have hb0 := (Below.refl w.heap.size w).alloc (Nat.le_refl _) (.cells (ev.row Be me ke) 38)
 have g3 := heap_alloc_new w (.cells (ev.row Be me ke) 38)
 have HSE := Lib.hid hse
 have HNX := Lib.hid hnx
 have HTM := Lib.hid htm
 have HFU := Lib.hid hfu
 have HBE := Lib.hid hbe
 have HEX := Lib.hid hex
 have HC1 := Lib.hid c1
 have HW := Lib.hid hw
 have HQ := Lib.hid hq
 clear hse hnx htm hfu hbe hex c1 hw hq
 unfold Ev.row at hb0 g3
 unfold Ev.val at HBE HEX ⊢
 go_enter Tryz.func68, Tryz.ntmps68
 go_wp2_with fail
 generalize w.alloc (.cells #[.int .i64 ev.writer, .int .u64 (ev.seq : Int), .int .u64 (ev.time : Int), .int .u8 (ev.kind : Int), .string ev.key, .slice Be me ke, .float .f64 ev.num, .int .i64 ev.node] 38) = w0 at hb0 g3 ⊢
 refine (HSE.out w0 hb0).mono ?_
 rintro e w1 ⟨rfl, hb1⟩
 have b1 := hb0.trans (hb1.mono hb0.size)
 have g31 := (hb1.block w.heap.size (Array.getElem?_eq_some_iff.1 g3).1).trans g3
 have hl1 := (Array.getElem?_eq_some_iff.1 g31).1
 obtain ⟨e0, e1, e2, e3, e4, e5, e6, e7⟩ := box8 g31
 have cf1 := HC1.out w1 b1
 have B1 := Lib.hid b1
 have G31 := Lib.hid g31
 have hwx : ((ev.writer : Int) == (x : Int)) = true := by rw [HW.out]; simp
 have hwx2 : ((ev.writer : Int) != (x : Int)) = false := by rw [HW.out]; simp
 have hqn : ((ev.seq : Int) != (nx : Int)) = false := by rw [HQ.out]; simp
 have N1 : ∀ W, Below w1.heap.size w1 W → Calls Tryz.prog 35 #[.pointer (some ⟨f, 0, none⟩)] W fun e w' => e = .returned (.int .u64 (nx : Int)) ∧ Hid (Below w1.heap.size w1 w') ∧ w'.cell? ⟨f, 1, none⟩ = some (.int .i64 (x : Int)) ∧ w'.cell? ⟨w.heap.size, 0, none⟩ = some (.int .i64 ev.writer) ∧ w'.cell? ⟨w.heap.size, 1, none⟩ = some (.int .u64 (ev.seq : Int)) := fun W hW => by
  refine (HNX.out W (B1.out.trans (hW.mono B1.out.size))).mono ?_
  rintro e w' ⟨rfl, hb⟩
  have hb' := hW.trans (hb.mono hW.size)
  have h8 := box8 ((hb'.block w.heap.size hl1).trans G31.out)
  exact ⟨rfl, Lib.hid hb', HC1.out w' (B1.out.trans (hb'.mono B1.out.size)), h8.1, h8.2.1⟩
 clear hb0 g3 hb1 b1 g31 e2 e3 e4 e5 e6 e7 hfl
 go_wp2_with fail
 go_region_held3 (fun w' => w'.cell? ⟨f, 1, none⟩ = some (.int .i64 (x : Int)) ∧ w'.cell? ⟨w.heap.size, 0, none⟩ = some (.int .i64 ev.writer) ∧ w'.cell? ⟨w.heap.size, 1, none⟩ = some (.int .u64 (ev.seq : Int))) (go_keep)
  (first
   | (go_at_call 35
      refine (N1 _ ?h0).mono ?_
      case h0 => first | exact Below.refl _ _ | exact (Below.refl _ _).drew
      rintro e w6 ⟨rfl, HN1, cf1, e0, e1⟩))
 have hl6 : w.heap.size < w6.heap.size := Nat.lt_of_lt_of_le hl1 HN1.out.size
 have g36 := (HN1.out.block w.heap.size hl1).trans G31.out
 obtain ⟨_, _, e2, e3, e4, e5, e6, e7⟩ := box8 g36
 have T1 : ∀ W, Below w6.heap.size w6 W → Calls Tryz.prog 122 #[.pointer (some ⟨f, 0, none⟩)] W fun e w' => e = .returned (.int .u64 (tm : Int)) ∧ Hid (Below w6.heap.size w6 w') ∧ w'.cell? ⟨w.heap.size, 2, none⟩ = some (.int .u64 (ev.time : Int)) := fun W hW => by
  refine (HTM.out W (B1.out.trans ((HN1.out.trans (hW.mono HN1.out.size)).mono B1.out.size))).mono ?_
  rintro e w' ⟨rfl, hb⟩
  have hb' := hW.trans (hb.mono hW.size)
  have h8 := box8 ((hb'.block w.heap.size hl6).trans g36)
  exact ⟨rfl, Lib.hid hb', h8.2.2.1⟩
 have G36 := Lib.hid g36
 have htt : ¬ ev.time ≤ tm := by omega
 clear N1 cf1 e0 e1 e3 e4 e5 e6 e7 g36
 go_wp2_with fail
 go_region_held3 (fun w' => w'.cell? ⟨w.heap.size, 2, none⟩ = some (.int .u64 (ev.time : Int))) (go_keep)
  (first
   | (go_at_call 122
      refine (T1 _ ?h0).mono ?_
      case h0 => first | exact Below.refl _ _ | exact (Below.refl _ _).drew
      rintro e w7 ⟨rfl, HN2, e2⟩))
 have B7 := Lib.hid (B1.out.trans ((HN1.out.trans (HN2.out.mono HN1.out.size)).mono B1.out.size))
 have g37 := (HN2.out.block w.heap.size hl6).trans G36.out
 have hl7 : w.heap.size < w7.heap.size := Nat.lt_of_lt_of_le hl6 HN2.out.size
 clear T1 e2 htt
 go_wp2_with fail
 refine (HFU.out w7 B7.out).mono ?_
 rintro e w8 ⟨rfl, hb8⟩
 have b8 := B7.out.trans (hb8.mono B7.out.size)
 have g38 := (hb8.block w.heap.size hl7).trans g37
 obtain ⟨e0, e1, e2, e3, e4, e5, e6, e7⟩ := box8 g38
 have B8 := Lib.hid b8
 clear hb8 b8 g37 g38
 cases hfull : full with
 | true =>
   have HB9 := Lib.hid (HBE.out hfull w8 B8.out)
   clear hfull HBE HEX
   go_wp2_with fail
   refine HB9.out.mono ?_
   rintro e w9 ⟨rfl, hQ⟩
   go_wp2
   go_ret
   exact ⟨rfl, w8, B8.out, hQ⟩
 | false =>
   have HB9 := Lib.hid (HEX.out hfull w8 B8.out)
   clear hfull HBE HEX
   go_wp2_with fail
   refine HB9.out.mono ?_
   rintro e w9 ⟨rfl, hQ⟩
   go_wp2
   go_ret
   exact ⟨rfl, w8, B8.out, hQ⟩
theorem all_anyB [Inhabited XS] (d f x : Nat) (sz : Int) (floor time : Nat) (P : List Part) (safe : Nat) (O : List Nat) (h : Hd) (u0 : Nat) (w : World) (F : Feed w d f x sz floor time P safe O h) (G : Good x floor u0 P) (B : List Nat) (w0 : World) (F0 : Feed w0 d f x sz floor time P safe O h) (hw0 : Below w0.heap.size w0 w) (hB : ∀ k ∈ B, w0.heap.size ≤ k ∧ k < w.heap.size) :
  Calls Tryz.prog 158 #[.pointer (some ⟨f, 0, none⟩)] w fun e w' => ∃ A n c, e = .returned (.slice A n c) ∧ SeesEv (O ++ B) w' A n ((evsP P).drop (floor + 1 - u0)) ∧ (n ≤ c ∧ c ≤ 9223372036854775807) ∧ Below w.heap.size w w' := by
 have hfew := G.few
 have hlo := G.lo
 have hhi := G.hi
 obtain ⟨q, hq⟩ : ∃ q, q = floor + 1 := ⟨_, rfl⟩
 obtain ⟨nx, hnx⟩ : ∃ nx, nx = u0 + (evsP P).length := ⟨_, rfl⟩
 obtain ⟨a, ha⟩ : ∃ a, a = nx - floor := ⟨_, rfl⟩
 obtain ⟨m, hm⟩ : ∃ m, m = a - 1 := ⟨_, rfl⟩
 have c3 : ∀ W, Below w.heap.size w W → W.cell? ⟨f, 3, none⟩ = some (.int .u64 (floor : Int)) := fun W hW => by
  obtain ⟨A, c, _, _, _, c3, _⟩ := (F.below hW).box
  exact c3
 have NX := Lib.hid (fun W (hW : Below w.heap.size w W) => nextF_any d f x sz floor time P safe O h u0 W (F.below hW) G)
 have FR := Lib.hid (fun W (hW : Below w.heap.size w W) => from_anyC d f x sz floor time P safe O h u0 q m B w0 W F0 (hw0.trans (hW.mono hw0.size)) (fun k hk => ⟨(hB k hk).1, Nat.lt_of_lt_of_le (hB k hk).2 hW.size⟩) G.chain G.few (by omega) (by omega) (by omega))
 have hcut : cutL (evsP P) (q - u0) m = (evsP P).drop (floor + 1 - u0) := by
  unfold cutL
  rw [hq, List.take_of_length_le (by rw [List.length_drop]; omega)]
 rw [hcut] at FR
 rw [← hnx] at NX
 have N1 : ∀ W, Below w.heap.size w W → Calls Tryz.prog 35 #[.pointer (some ⟨f, 0, none⟩)] W fun e w' => e = .returned (.int .u64 (nx : Int)) ∧ Hid (Below w.heap.size w w') ∧ w'.cell? ⟨f, 3, none⟩ = some (.int .u64 (floor : Int)) := fun W hW => by
  refine (NX.out W hW).mono ?_
  rintro e w' ⟨rfl, hb⟩
  have b := hW.trans (hb.mono hW.size)
  exact ⟨rfl, Lib.hid b, c3 w' b⟩
 have R1 : ∀ W, Below w.heap.size w W → Calls Tryz.prog 221 #[.pointer (some ⟨f, 0, none⟩), .int .u64 (q : Int), .int .i64 (m : Int)] W fun e w' => ∃ A n c, e = .returned (.slice A n c) ∧ Hid (SeesEv (O ++ B) w' A n ((evsP P).drop (floor + 1 - u0)) ∧ (n ≤ c ∧ c ≤ 9223372036854775807) ∧ Below w.heap.size w w') ∧ w'.cell? ⟨f, 3, none⟩ = some (.int .u64 (floor : Int)) := fun W hW => by
  refine (FR.out W hW).mono ?_
  rintro e w' ⟨A, n, c, rfl, hs, hc, hb⟩
  have b := hW.trans (hb.mono hW.size)
  exact ⟨A, n, c, rfl, Lib.hid ⟨hs, hc, b⟩, c3 w' b⟩
 have hw1 : IntKind.u64.wrap ((floor : Int) + 1) = (q : Int) := by rw [IntKind.wrap_u64]; omega
 have hw2 : IntKind.u64.wrap ((nx : Int) - (floor : Int)) = (a : Int) := by rw [IntKind.wrap_u64]; omega
 have hw3 : IntKind.u64.wrap ((a : Int) - 1) = (m : Int) := by rw [IntKind.wrap_u64]; omega
 have hw4 : IntKind.i64.wrap (m : Int) = (m : Int) := by rw [IntKind.wrap_i64]; omega
 have k3 := c3 w (Below.refl _ _)
 clear hq hnx ha hm NX FR hcut c3 F G hfew hlo hhi F0 hw0 hB
 go_enter Tryz.func158, Tryz.ntmps158
 go_upto_region 3 with fail
 go_region_held3 (fun w' => w'.cell? ⟨f, 3, none⟩ = some (.int .u64 (floor : Int))) (go_keep)
  (first
   | (go_at_call 35
      refine (N1 _ ?h1).mono ?_
      case h1 => first | exact Below.refl _ _ | exact (Below.refl _ _).drew
      rintro e w6 ⟨rfl, HN, k3⟩)
   | (go_at_call 221
      refine (R1 _ ?h2).mono ?_
      case h2 => first | exact HN.out | exact HN.out.drew
      rintro e w7 ⟨A7, n7, c7, rfl, HF, k3⟩))
 go_wp2
 go_ret
 exact ⟨A7, n7, c7, rfl, HF.out⟩
end Go.Proofs.YtinjbdgjcadodaaGreatDoor.Fd
