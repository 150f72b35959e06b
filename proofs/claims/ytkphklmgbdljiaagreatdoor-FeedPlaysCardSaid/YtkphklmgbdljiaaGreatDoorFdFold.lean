/- feed: Fold. -/
import Derived.Test.YtkphklmgbdljiaaGreatDoorFdDrop
import Derived.Test.YtkphklmgbdljiaaGreatDoorFdNext
namespace Go.Proofs.YtkphklmgbdljiaaGreatDoor.Fd
open Go Go.RowKit Go.Proofs.YtkphklmgbdljiaaGreatDoor.Words Go.Proofs.YtkphklmgbdljiaaGreatDoor.Enc Go.Proofs.YtkphklmgbdljiaaGreatDoor.Evt Go.Proofs.YtkphklmgbdljiaaGreatDoor.Made Go.Proofs.YtkphklmgbdljiaaGreatDoor.Dsk Go.Proofs.YtkphklmgbdljiaaGreatDoor.Sht Go.Proofs.YtkphklmgbdljiaaGreatDoor.Seg
set_option linter.unusedVariables false
set_option linter.unusedSimpArgs false

/-- What isn't safe yet, of the parts. -/
def looseP (x : Nat) (P : List Part) (safe : Nat) : List Part := (P.drop safe).filter fun p => decide (p.N < p.z x)
theorem looseL_len (x : Nat) (R : List SegS) (safe : Nat) : (looseL x R safe).length = (looseP x (R.map SegS.p) safe).length := by
  unfold looseL looseP
  rw [← List.map_drop, List.filter_map, List.length_map]
  rfl

set_option maxRecDepth 100000 in
set_option maxHeartbeats 2000000 in
theorem fold_yes [Inhabited XS] (d f x : Nat) (sz : Int) (floor time : Nat) (P : List Part) (safe acts : Nat) (O : List Nat) (u0 a t : Nat) (w : World) (F : Feed w d f x sz floor time P safe O (hdA acts)) (T : TabsOn O w) (G : Good x floor u0 P) (hR : Rise P) (hx : x < 64) (hn : P.length ≤ 1000) (hsf : safe ≤ P.length) (ha : a < 18446744073709551616) (ht : t < 18446744073709551616) (hac : acts ≤ 40000) (hsum : (P.map (Part.z x)).sum ≤ 1000000) (hno : floor ≤ a ∧ a < u0 + (evsP P).length ∧ looseP x P safe = []) :
    Calls Tryz.prog 12 #[.pointer (some ⟨f, 0, none⟩), .int .u64 (a : Int), .int .u64 (t : Int)] w fun e w' => e = .returned (.int .i64 0) ∧ ∃ acts', acts' ≤ acts + P.length ∧ FNext O w d f x sz a (max time t) (P.drop (goneN a P)) (safe - goneN a P) acts' w' := by
  have NX := Lib.hid (nextF_any d f x sz floor time P safe O (hdA acts) u0 w F G)
  obtain ⟨nx, hnx⟩ : ∃ nx, nx = u0 + (evsP P).length := ⟨_, rfl⟩
  rw [← hnx] at NX hno
  obtain ⟨R, A, c, S, hRP, hO, FA⟩ := F
  subst hRP
  have hSO : ∀ k ∈ S, k ∈ O := fun k hk => by rw [hO]; exact List.mem_append.2 (.inl hk)
  have TS := TabsOn.sub T hSO
  have LO := Lib.hid (fun W (hW : Below w.heap.size w W) => loose_at d f x sz floor time R safe A c S (hdA acts) W (FA.below hW) ((TS.below hW) W (Beside.refl _ _)).2 hR hx (by rw [← List.length_map (f := SegS.p)]; exact hn) (by rw [← List.length_map (f := SegS.p)]; exact hsf))
  have HLL := Lib.hid (looseL_len x R safe)
  obtain ⟨c0, c1, c2, c3, c4, c5, c6⟩ := FA.cells
  have HFA := Lib.hid FA
  have HG := Lib.hid G
  have HNX := Lib.hid hnx
  obtain ⟨t', ht'⟩ : ∃ t', t' = max time t := ⟨_, rfl⟩
  have hmx : max (time : Int) (t : Int) = (t' : Int) := by omega
  have HT' := Lib.hid ht'
  have hL : ∀ r ∈ R, 0 < r.p.L.length ∧ r.p.u + r.p.L.length < 100000 := fun r hr => by
    have hm := List.mem_map_of_mem (f := SegS.p) hr
    obtain ⟨i, hi⟩ := List.getElem?_of_mem hm
    have hc := G.chain
    obtain ⟨I, J, hIJ⟩ := List.append_of_mem hm
    rw [hIJ] at hc
    have hc2 := (chain_append.1 hc).2
    simp only [Chain] at hc2
    have hf := G.few
    rw [hIJ] at hf
    simp only [evsP_append, evsP, List.length_append] at hf
    exact ⟨List.length_pos_iff.2 hc2.1.2.1, by omega⟩
  have HL := Lib.hid hL
  obtain ⟨h1a, h2a, h3a⟩ := hno
  have h1 : ¬ a < floor := by omega
  have h2 : ¬ nx ≤ a := by omega
  have HH := Lib.hid (And.intro hR (And.intro hsum (And.intro hn (And.intro hsf (And.intro T TS)))))
  clear hL FA G hnx c0 c1 c2 c4 c5 c6 hn hsf hR hsum ht' h1a h2a T TS
  go_enter Tryz.func12, Tryz.ntmps12
  go_wp2_with fail
  refine NX.out.mono ?_
  rintro e w1 ⟨rfl, hb1⟩
  have HB1 := Lib.hid hb1
  go_wp2_with fail
  refine (LO.out w1 HB1.out).mono ?_
  rintro e w2 ⟨A2, n2, k2, rfl, hn2, hown, hb2⟩
  have h3 : n2 = 0 := by rw [hn2, HLL.out, h3a]; rfl
  subst h3
  have hbb := HB1.out.trans (hb2.mono HB1.out.size)
  have HBB := Lib.hid hbb
  have F2 := HFA.out.below hbb
  obtain ⟨e0, e1, e2, e3, e4, e5, e6⟩ := F2.cells
  have y3 : w2.frozen? ⟨f, 3, none⟩ = false := frozen_row0 F2.box
  have y4 : w2.frozen? ⟨f, 4, none⟩ = false := frozen_row0 F2.box
  have HF2 := Lib.hid F2
  clear hn2 hown hb2 hb1 hbb F2 e0 e1 e2 e5 e6 h3a
  go_wp2_with fail
  have hb3 : Beside [f] w2 ((w2.setCell ⟨f, 3, none⟩ (.int .u64 (a : Int))).setCell ⟨f, 4, none⟩ (.int .u64 (t' : Int))) := ((Beside.refl [f] w2).setCell (p := ⟨f, 3, none⟩) (by simp) _).trans ((Beside.refl [f] _).setCell (p := ⟨f, 4, none⟩) (by simp) _) fun k hk => .inl hk
  have box3 := heapSame (i := 4) (v := .int .u64 (t' : Int)) (heapSame (i := 3) (v := .int .u64 (a : Int)) HF2.out.box)
  have F3 := HF2.out.rebox (floor' := a) (time' := t') (safe' := safe) hb3 (box3.trans rfl)
  obtain ⟨hR, hsum, hn, hsf, T, TS⟩ := HH.out
  rw [List.length_map] at hn hsf
  have hOf : f ∈ O := by rw [hO]; simp
  have T3 : TabsOn S ((w2.setCell ⟨f, 3, none⟩ (.int .u64 (a : Int))).setCell ⟨f, 4, none⟩ (.int .u64 (t' : Int))) := (T.below HBB.out).next (hb3.wider fun k hk => by simp at hk; subst hk; exact .inl hOf) fun k hk => .inl (hSO k hk)
  have hdrop := drop_at d f x sz a t' R safe acts A c S _ F3 T3 hR hx hn hac (by omega) hsum HL.out
  have HSZ := Lib.hid (And.intro hb3 hOf)
  clear F3 T3 hR hsum hn T TS box3 hb3
  refine hdrop.mono ?_
  rintro e w4 ⟨rfl, S', c', F4, hb4, hk4⟩
  have HD := Lib.hid (And.intro F4 (And.intro hb4 hk4))
  clear F4 hb4 hk4
  go_wp2
  go_ret
  obtain ⟨F4, hb4, hk4⟩ := HD.out
  obtain ⟨hb3, hOf⟩ := HSZ.out
  have hgl : goneN a (R.map SegS.p) ≤ (R.map SegS.p).length := by
    by_cases h : R.map SegS.p = []
    · rw [h]; simp [goneN]
    · exact Nat.le_of_lt (goneN_lt a _ h)
  rw [← HT'.out]
  have hwz : w.heap.size ≤ w2.heap.size := HBB.out.size
  have hb03 : Beside O w ((w2.setCell ⟨f, 3, none⟩ (.int .u64 (a : Int))).setCell ⟨f, 4, none⟩ (.int .u64 (t' : Int))) := (Beside.of_below HBB.out O).trans hb3 fun k hk => by simp at hk; subst hk; exact .inl hOf
  refine ⟨rfl, acts + goneN a (R.map SegS.p), Nat.add_le_add_left hgl acts, S' ++ f :: blk A, ⟨R.drop (goneN a (R.map SegS.p)), A, c', S', by rw [List.map_drop], rfl, F4⟩, hb03.trans hb4 fun k hk => .inl (by rw [hO]; exact hk), fun k hk => ?_⟩
  rcases List.mem_append.1 hk with h | h
  · exact (hk4 k h).imp (hSO k) (fun h2 => Nat.le_trans hb03.size h2)
  · exact .inl (by rw [hO]; exact List.mem_append.2 (.inr h))
end Go.Proofs.YtkphklmgbdljiaaGreatDoor.Fd
