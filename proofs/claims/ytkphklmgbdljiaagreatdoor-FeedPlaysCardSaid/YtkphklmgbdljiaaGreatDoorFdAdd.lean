/- feed: Add. -/
import Derived.Test.YtkphklmgbdljiaaGreatDoorFdExt
namespace Go.Proofs.YtkphklmgbdljiaaGreatDoor.Fd
open Go Go.RowKit Go.Proofs.YtkphklmgbdljiaaGreatDoor.Words Go.Proofs.YtkphklmgbdljiaaGreatDoor.Enc Go.Proofs.YtkphklmgbdljiaaGreatDoor.Evt Go.Proofs.YtkphklmgbdljiaaGreatDoor.Made Go.Proofs.YtkphklmgbdljiaaGreatDoor.Dsk Go.Proofs.YtkphklmgbdljiaaGreatDoor.Sht Go.Proofs.YtkphklmgbdljiaaGreatDoor.Seg
set_option linter.unusedVariables false
set_option linter.unusedSimpArgs false

/-- What `begin` does. -/
def BeginSaid [Inhabited XS] : Prop := ∀ (d f x : Nat) (sz : Int) (floor time : Nat) (P : List Part) (safe acts : Nat) (O : List Nat) (ev : Ev) (Be : Option Addr) (me ke : Nat) (w : World) (F : Feed w d f x sz floor time P safe O (hdA acts)) (T : TabsOn O w) (hR : Rise P) (hx : x < 64) (hn : P.length ≤ 1000) (hsf : safe ≤ P.length) (hac : acts ≤ 40000) (h1 : ∀ p ∈ P, p.N ≤ p.z x) (h2 : ∀ p ∈ P.take safe, p.N = p.z x)
    (hs : Sees w Be me ev.text) (hout : Out O Be me) (hr : Right ev) (hfit : ev.Fit) (htx : ev.text.length ≤ 1048576) (hkey : ev.key.size ≤ 1048576) (hwr : ev.writer = (x : Int)) (hpl : plainE ev = ev) (hu : 1 ≤ ev.seq ∧ ev.seq < 100000) (hup : ∀ p ∈ P, p.u < ev.seq) (hsum : (P.map (Part.z x)).sum + (headL 115 x ev.seq).length + (wrap (evL ev)).length ≤ 65536),
    Calls Tryz.prog 28 #[.pointer (some ⟨f, 0, none⟩), ev.val Be me ke] w fun e w' => e = .returned (.int .i64 0) ∧ ∃ acts', acts' ≤ acts + P.length + 3 ∧ FNext O w d f x sz floor time (P.map (Part.full x) ++ [⟨ev.seq, [ev], (headL 115 x ev.seq).length⟩]) (P.length - 1) acts' w'

theorem extend_any [Inhabited XS] (d f x : Nat) (sz : Int) (floor time : Nat) (I : List Part) (p : Part) (safe acts : Nat) (O : List Nat) (ev : Ev) (Be : Option Addr) (me ke : Nat) (w : World) (F : Feed w d f x sz floor time (I ++ [p]) safe O (hdA acts)) (T : TabsOn O w) (hR : Rise (I ++ [p])) (hx : x < 64) (hl : I.length ≤ 1000) (hac : acts ≤ 50000)
    (hs : Sees w Be me ev.text) (hout : Out O Be me) (hr : Right ev) (hfit : ev.Fit) (htx : ev.text.length ≤ 1048576) (hkey : ev.key.size ≤ 1048576) (hfo : ev.writer = (x : Int) ∧ ev.seq = p.u + p.L.length) (hpl : plainE ev = ev) (hu : p.u + p.L.length < 100000) (hsum : ((I ++ [p]).map (Part.z x)).sum + (wrap (evL ev)).length ≤ 65536) :
    Calls Tryz.prog 29 #[.pointer (some ⟨f, 0, none⟩), ev.val Be me ke] w fun e w' => e = .returned (.int .i64 0) ∧ FNext O w d f x sz floor time (I ++ [⟨p.u, p.L ++ [ev], p.N⟩]) safe (acts + 1) w' := by
  obtain ⟨R, A, c, S, hRP, hO, F⟩ := F
  have hSO : ∀ k ∈ S, k ∈ O := fun k hk => by rw [hO]; exact List.mem_append.2 (.inl hk)
  have hne : R ≠ [] := fun h => by rw [h] at hRP; simp at hRP
  obtain ⟨J, r, rfl⟩ := list_last hne
  rw [List.map_append, List.map_singleton] at hRP
  obtain ⟨h1, h2⟩ := List.append_inj' hRP rfl
  have h3 : r.p = p := by simpa using h2
  subst h3
  subst h1
  have hJ : ((J ++ [r]).map SegS.p) = J.map SegS.p ++ [r.p] := by rw [List.map_append]; rfl
  refine (extend_at d f x sz floor time J r safe acts A c S ev Be me ke w F (TabsOn.sub T hSO) (by rw [hJ]; exact hR) hx (by simpa using hl) hac hs (fun h0 a ha hm => hout h0 a ha (hSO _ hm)) hr hfit htx hkey hfo hpl hu (by rw [hJ]; exact hsum)).mono ?_
  rintro e w' ⟨rfl, A8, S', F', hb, hk⟩
  refine ⟨rfl, S' ++ f :: blk A, ⟨_, A, c, S', by simp, rfl, F'⟩, by rw [hO]; exact hb, fun k hk' => ?_⟩
  rcases List.mem_append.1 hk' with h | h
  · exact (hk k h).imp (hSO k) id
  · exact .inl (by rw [hO]; exact List.mem_append.2 (.inr h))

set_option maxRecDepth 100000 in
set_option maxHeartbeats 1000000 in
/-- Add, where the next event fits: whichever way it goes on. -/
theorem add_at (f x nx tm : Nat) (full : Bool) (ev : Ev) (Be : Option Addr) (me ke : Nat) (w : World) (Q : World → World → Prop)
    (c1 : ∀ W, Below w.heap.size w W → W.cell? ⟨f, 1, none⟩ = some (.int .i64 (x : Int)))
    (hse : ∀ W, Below w.heap.size w W → Calls Tryz.prog 23 #[.pointer (some ⟨f, 0, none⟩)] W fun e w' => e = .returned (.bool false) ∧ Below W.heap.size W w')
    (hnx : ∀ W, Below w.heap.size w W → Calls Tryz.prog 17 #[.pointer (some ⟨f, 0, none⟩)] W fun e w' => e = .returned (.int .u64 (nx : Int)) ∧ Below W.heap.size W w')
    (htm : ∀ W, Below w.heap.size w W → Calls Tryz.prog 21 #[.pointer (some ⟨f, 0, none⟩)] W fun e w' => e = .returned (.int .u64 (tm : Int)) ∧ Below W.heap.size W w')
    (hfu : ∀ W, Below w.heap.size w W → Calls Tryz.prog 27 #[.pointer (some ⟨f, 0, none⟩)] W fun e w' => e = .returned (.bool full) ∧ Below W.heap.size W w')
    (hbe : full = true → ∀ W, Below w.heap.size w W → Calls Tryz.prog 28 #[.pointer (some ⟨f, 0, none⟩), ev.val Be me ke] W fun e w' => e = .returned (.int .i64 0) ∧ Q W w')
    (hex : full = false → ∀ W, Below w.heap.size w W → Calls Tryz.prog 29 #[.pointer (some ⟨f, 0, none⟩), ev.val Be me ke] W fun e w' => e = .returned (.int .i64 0) ∧ Q W w')
    (hw : ev.writer = (x : Int)) (hq : ev.seq = nx) (ht : tm < ev.time) (hfl : f < w.heap.size) :
    Calls Tryz.prog 10 #[.pointer (some ⟨f, 0, none⟩), ev.val Be me ke] w fun e w' => e = .returned (.int .i64 0) ∧ ∃ W, Below w.heap.size w W ∧ Q W w' := by
  have hsf := store_float Tryz.prog
  have hb0 := (Below.refl w.heap.size w).alloc (Nat.le_refl _) (.cells (ev.row Be me ke) 37)
  have g3 := heap_alloc_new w (.cells (ev.row Be me ke) 37)
  have HSE := Lib.hid hse
  have HNX := Lib.hid hnx
  have HTM := Lib.hid htm
  have HFU := Lib.hid hfu
  have HBE := Lib.hid hbe
  have HEX := Lib.hid hex
  have HC1 := Lib.hid c1
  have HW := Lib.hid hw
  have HQ := Lib.hid hq
  clear hse hnx htm hfu hbe hex c1 hw hq
  unfold Ev.row at hb0 g3
  unfold Ev.val at HBE HEX ⊢
  go_enter Tryz.func10, Tryz.ntmps10
  go_wp2_with fail
  generalize w.alloc (.cells #[.int .i64 ev.writer, .int .u64 (ev.seq : Int), .int .u64 (ev.time : Int), .int .u8 (ev.kind : Int), .string ev.key, .slice Be me ke, .float .f64 ev.num, .int .i64 ev.node] 37) = w0 at hb0 g3 ⊢
  refine (HSE.out w0 hb0).mono ?_
  rintro e w1 ⟨rfl, hb1⟩
  have b1 := hb0.trans (hb1.mono hb0.size)
  have g31 := (hb1.block w.heap.size (Array.getElem?_eq_some_iff.1 g3).1).trans g3
  have hl1 := (Array.getElem?_eq_some_iff.1 g31).1
  obtain ⟨e0, e1, e2, e3, e4, e5, e6, e7⟩ := box8 g31
  have cf1 := HC1.out w1 b1
  have B1 := Lib.hid b1
  have G31 := Lib.hid g31
  have hwx : ((ev.writer : Int) == (x : Int)) = true := by rw [HW.out]; simp
  have hwx2 : ((ev.writer : Int) != (x : Int)) = false := by rw [HW.out]; simp
  have hqn : ((ev.seq : Int) != (nx : Int)) = false := by rw [HQ.out]; simp
  have N1 : ∀ W, Below w1.heap.size w1 W → Calls Tryz.prog 17 #[.pointer (some ⟨f, 0, none⟩)] W fun e w' => e = .returned (.int .u64 (nx : Int)) ∧ Hid (Below w1.heap.size w1 w') ∧ w'.cell? ⟨f, 1, none⟩ = some (.int .i64 (x : Int)) ∧ w'.cell? ⟨w.heap.size, 0, none⟩ = some (.int .i64 ev.writer) ∧ w'.cell? ⟨w.heap.size, 1, none⟩ = some (.int .u64 (ev.seq : Int)) := fun W hW => by
    refine (HNX.out W (B1.out.trans (hW.mono B1.out.size))).mono ?_
    rintro e w' ⟨rfl, hb⟩
    have hb' := hW.trans (hb.mono hW.size)
    have h8 := box8 ((hb'.block w.heap.size hl1).trans G31.out)
    exact ⟨rfl, Lib.hid hb', HC1.out w' (B1.out.trans (hb'.mono B1.out.size)), h8.1, h8.2.1⟩
  clear hb0 g3 hb1 b1 g31 e2 e3 e4 e5 e6 e7 hfl
  go_wp2_with fail
  go_region_held3 (fun w' => w'.cell? ⟨f, 1, none⟩ = some (.int .i64 (x : Int)) ∧ w'.cell? ⟨w.heap.size, 0, none⟩ = some (.int .i64 ev.writer) ∧ w'.cell? ⟨w.heap.size, 1, none⟩ = some (.int .u64 (ev.seq : Int))) (go_keep)
    (first
      | (go_at_call 17
         refine (N1 _ ?h0).mono ?_
         case h0 => first | exact Below.refl _ _ | exact (Below.refl _ _).drew
         rintro e w6 ⟨rfl, HN1, cf1, e0, e1⟩))
  have hl6 : w.heap.size < w6.heap.size := Nat.lt_of_lt_of_le hl1 HN1.out.size
  have g36 := (HN1.out.block w.heap.size hl1).trans G31.out
  obtain ⟨_, _, e2, e3, e4, e5, e6, e7⟩ := box8 g36
  have T1 : ∀ W, Below w6.heap.size w6 W → Calls Tryz.prog 21 #[.pointer (some ⟨f, 0, none⟩)] W fun e w' => e = .returned (.int .u64 (tm : Int)) ∧ Hid (Below w6.heap.size w6 w') ∧ w'.cell? ⟨w.heap.size, 2, none⟩ = some (.int .u64 (ev.time : Int)) := fun W hW => by
    refine (HTM.out W (B1.out.trans ((HN1.out.trans (hW.mono HN1.out.size)).mono B1.out.size))).mono ?_
    rintro e w' ⟨rfl, hb⟩
    have hb' := hW.trans (hb.mono hW.size)
    have h8 := box8 ((hb'.block w.heap.size hl6).trans g36)
    exact ⟨rfl, Lib.hid hb', h8.2.2.1⟩
  have G36 := Lib.hid g36
  have htt : ¬ ev.time ≤ tm := by omega
  clear N1 cf1 e0 e1 e3 e4 e5 e6 e7 g36
  go_wp2_with fail
  go_region_held3 (fun w' => w'.cell? ⟨w.heap.size, 2, none⟩ = some (.int .u64 (ev.time : Int))) (go_keep)
    (first
      | (go_at_call 21
         refine (T1 _ ?h0).mono ?_
         case h0 => first | exact Below.refl _ _ | exact (Below.refl _ _).drew
         rintro e w7 ⟨rfl, HN2, e2⟩))
  have B7 := Lib.hid (B1.out.trans ((HN1.out.trans (HN2.out.mono HN1.out.size)).mono B1.out.size))
  have g37 := (HN2.out.block w.heap.size hl6).trans G36.out
  have hl7 : w.heap.size < w7.heap.size := Nat.lt_of_lt_of_le hl6 HN2.out.size
  clear T1 e2 htt
  go_wp2_with fail
  refine (HFU.out w7 B7.out).mono ?_
  rintro e w8 ⟨rfl, hb8⟩
  have b8 := B7.out.trans (hb8.mono B7.out.size)
  have g38 := (hb8.block w.heap.size hl7).trans g37
  obtain ⟨e0, e1, e2, e3, e4, e5, e6, e7⟩ := box8 g38
  have B8 := Lib.hid b8
  clear hb8 b8 g37 g38
  cases hfull : full with
  | true =>
    have HB9 := Lib.hid (HBE.out hfull w8 B8.out)
    clear hfull HBE HEX
    go_wp2_with fail
    refine HB9.out.mono ?_
    rintro e w9 ⟨rfl, hQ⟩
    go_wp2
    go_ret
    exact ⟨rfl, w8, B8.out, hQ⟩
  | false =>
    have HB9 := Lib.hid (HEX.out hfull w8 B8.out)
    clear hfull HBE HEX
    go_wp2_with fail
    refine HB9.out.mono ?_
    rintro e w9 ⟨rfl, hQ⟩
    go_wp2
    go_ret
    exact ⟨rfl, w8, B8.out, hQ⟩
end Go.Proofs.YtkphklmgbdljiaaGreatDoor.Fd
