/- Texts of the law ReplicaNil, put together. -/
import Derived.Deep.RegionLaw
import Derived.Deep.AppendLies
import Derived.Lib.SliceRun
import Derived.Test.YtinjbdgjcadodaaGreatDoorRNp35
set_option linter.unusedVariables false
set_option linter.unusedSimpArgs false
set_option maxRecDepth 100000
namespace Go.Proofs.YtinjbdgjcadodaaGreatDoor.Ord
open Go Go.RowKit Words Enc Evt Seg
theorem infoL : (Tryz.prog.info? 26).map (fun i => (i.zero, i.size, i.bytes)) = some (some (.slice none 0 0), 1, 24) := by kernel_rfl
@[go_sem] theorem as_list (v : Value) (w : World) : (Instr.typeAssert (.iface 26 v) 20 26 false).run Tryz.prog w = .ok v w := by kernel_rfl
theorem HeadsAt.fin {B p : Nat} {T : TypeId} {A : Option Addr} {c : Nat} {hs : List HV} {w W W2 : World} (h : HeadsAt B p T A c hs w) (hB : B ≤ w.heap.size) (x : HV) (hx : Lies B w x) (hW : Below w.heap.size w W) {g' cap' : Nat}
  (hown : W2.ownsRow B 26 1 (.slice (some ⟨g', 0, none⟩) (hs.length + 1) cap') (hs.length + 1) (hs.map HV.val ++ [x.val])) (hg : W.grownBy W2 (Value.slice A hs.length c).ownBlock) (hat : (Value.slice A hs.length c).ownBlock = some g' ∨ w.heap.size ≤ g') :
  W2.heap[p]? = some (.cells #[.slice A hs.length c] T (0, 0)) ∧ HeadsAt B p T (some ⟨g', 0, none⟩) cap' (hs ++ [x]) (W2.setCell ⟨p, 0, none⟩ (.slice (some ⟨g', 0, none⟩) (hs.length + 1) cap')) ∧ Below B w (W2.setCell ⟨p, 0, none⟩ (.slice (some ⟨g', 0, none⟩) (hs.length + 1) cap')) := by
 have hp := (Array.getElem?_eq_some_iff.1 h.box).1
 have hne : (Value.slice A hs.length c).ownBlock ≠ some p := by
  cases A with
  | none => simp [Value.ownBlock]
  | some a => simpa [Value.ownBlock] using h.apart a rfl
 have hWp := (hW.block p hp).trans h.box
 have h2 : W2.heap[p]? = some (.cells #[.slice A hs.length c] T (0, 0)) := (hg.block p (by have := hW.size; omega) (fun e => hne e.symm)).trans hWp
 have hgp : g' ≠ p := by
  rcases hat with h | h
  ·intro e; exact hne (by rw [h, e])
  ·omega
 have hlt : ∀ k, (Value.slice A hs.length c).ownBlock = some k → B ≤ k := fun k hk => (h.own.lt k hk).1
 have hb2 : Below B w W2 := (hW.mono hB).trans ((Below.refl B W).grown hg (by have := hW.size; omega) hlt)
 have hb3 : Below B w (W2.setCell ⟨p, 0, none⟩ (.slice (some ⟨g', 0, none⟩) (hs.length + 1) cap')) := hb2.setCell h.low _
 refine ⟨h2, ⟨?_, ?_, fun a ha => by cases ha; exact hgp, h.low, fun y hy => ?_⟩, hb3⟩
 ·have := heapSame (i := 0) (v := .slice (some ⟨g', 0, none⟩) (hs.length + 1) cap') h2
  rw [this]
  simp
 ·rcases hown.2 with ⟨hv, _⟩ | ⟨g, cap, cur, hv, hbg, hh, r⟩
  ·cases hv
  ·have e1 : g' = g := by injection hv with e1 _ _; injection e1 with e1; injection e1
   subst e1
   simp only [List.length_append, List.length_cons, List.length_nil, List.map_append, List.map_cons, List.map_nil, Nat.zero_add]
   exact ⟨hown.1, .inr ⟨g', cap, cur, hv, hbg, (heapOther hgp).trans hh, r⟩⟩
 ·rcases List.mem_append.1 hy with hy | hy
  ·exact (h.lie y hy).below hb3
  ·rw [List.mem_singleton.1 hy]; exact hx.below hb3
set_option maxHeartbeats 4000000 in
theorem push_any {B p : Nat} {T : TypeId} {A : Option Addr} {c : Nat} {hs : List HV} {w : World} (h : HeadsAt B p T A c hs w) (hB : B ≤ w.heap.size) (x : HV) (hx : Lies B w x) (hn : hs.length ≤ 1000000000) :
  Calls Tryz.prog 405 #[.pointer (some ⟨p, 0, none⟩), .iface 26 x.val] w fun e w' => e = .returned (.tuple #[]) ∧ (∃ A' c', HeadsAt B p T A' c' (hs ++ [x]) w') ∧ Below B w w' := by
 obtain ⟨i, hi, hz, hsz, hby⟩ := info_parts infoL
 have hc := h.cell
 have hfz : w.frozen? ⟨p, 0, none⟩ = false := frozen_row0 h.box
 have ROW : ∀ W, Below w.heap.size w W → W.ownsRow B 26 1 (.slice A hs.length c) hs.length (hs.map HV.val) := fun W hW => own_below8 h.own hW (Nat.le_refl _)
 have FIN : ∀ (W W2 : World) (g' cap' : Nat), Below w.heap.size w W → W2.ownsRow B 26 1 (.slice (some ⟨g', 0, none⟩) (hs.length + 1) cap') (hs.length + 1) (hs.map HV.val ++ [x.val]) → W.grownBy W2 (Value.slice A hs.length c).ownBlock → ((Value.slice A hs.length c).ownBlock = some g' ∨ w.heap.size ≤ g') →
   W2.cell? ⟨p, 0, none⟩ = some (.slice A hs.length c) ∧ W2.frozen? ⟨p, 0, none⟩ = false ∧ Hid ((∃ A' c', HeadsAt B p T A' c' (hs ++ [x]) (W2.setCell ⟨p, 0, none⟩ (.slice (some ⟨g', 0, none⟩) (hs.length + 1) cap'))) ∧ Below B w (W2.setCell ⟨p, 0, none⟩ (.slice (some ⟨g', 0, none⟩) (hs.length + 1) cap'))) := fun W W2 g' cap' hW ho hg hat => by
  obtain ⟨q1, q2, q3⟩ := h.fin hB x hx hW ho hg hat
  exact ⟨by rw [cell_of_row W2 p _ _ _ _ q1]; rfl, frozen_row0 q1, Lib.hid ⟨⟨_, _, q2⟩, q3⟩⟩
 obtain ⟨xs, hxs⟩ : ∃ xs, xs = hs.map HV.val := ⟨_, rfl⟩
 rw [← hxs] at ROW FIN
 obtain ⟨xa, xn, xc, hxv⟩ : ∃ xa xn xc, x.val = .slice xa xn xc := ⟨_, _, _, rfl⟩
 rw [hxv] at FIN ⊢
 have hc2 : (w.alloc (.cells #[.slice xa xn xc] 26)).cell? ⟨p, 0, none⟩ = some (.slice A hs.length c) := by
  rw [((Below.refl w.heap.size w).alloc (Nat.le_refl _) _).cell (Array.getElem?_eq_some_iff.1 h.box).1]; exact hc
 have hmx : hs.length + 1 ≤ maxLen := by unfold maxLen; omega
 clear h hxs
 generalize hs ++ [x] = hs' at *
 generalize hs.length = n at *
 have hn2 : (n + 1) * 24 ≤ 140737488355328 := by omega
 go_enter Tryz.func405, Tryz.ntmps405
 go_wp2_with fail
 go_region_law
  (first
   | (refine step_append_lies _ rfl (.tmp 7) (.tmp 10) 294 rfl B 26 i (.slice none 0 0) 1 24 Tryz.underlying294 hi hz hsz hby rfl (by decide) (.slice A n c) n xs (by simp [Act.eval, Act.put]) (ROW _ (by first | exact (Below.refl _ _).alloc (Nat.le_refl _) _ | exact (Below.refl _ _).drew.alloc (Nat.le_refl _) _ | exact ((Below.refl _ _).alloc (Nat.le_refl _) _).drew)) ⟨w.heap.size, 0, none⟩ 1 1 (#[.slice xa xn xc] : Array Value).toList (by simp [Act.eval, Act.put]) rfl (World.news_of_block (by first | exact heap_alloc_new _ _ | exact heap_alloc_new w _)) (by simp [Value.oneCell']) (by decide) hmx hn2 (by simp; omega) _ rfl ?_
      intro g' cap' w10 hown10 hgrow hat hlt10
      obtain ⟨c5x, y5x, FN⟩ := FIN _ w10 g' cap' (by first | exact (Below.refl _ _).alloc (Nat.le_refl _) _ | exact (Below.refl _ _).drew.alloc (Nat.le_refl _) _ | exact ((Below.refl _ _).alloc (Nat.le_refl _) _).drew) hown10 hgrow (hat.imp_right fun e => by rw [e]; simp)
      clear hown10 hgrow hat hlt10))
 all_goals go_wp2
 all_goals go_end0
 all_goals exact ⟨rfl, FN.out⟩
theorem append_zero (W : World) (ty : TypeId) (a : Addr) (n c : Nat) (S : Option Addr) (k : Nat) (hnc : n ≤ c) : (Builtin.append_ #[294, 294] ty #[.slice (some a) n c, .slice S 0 k]).run Tryz.prog W = .ok (.slice (some a) n c) W := by
 have hi : (Tryz.prog.info? 26).isSome = true := by kernel_rfl
 obtain ⟨i, hi⟩ := Option.isSome_iff_exists.1 hi
 cases S with
 | none => simp [Builtin.append_, run_underlying Tryz.underlying294, sizeOf, typeInfo, hi, Builtin.lenOf, Builtin.firstCells, hnc, storeCells]
 | some s => simp [Builtin.append_, run_underlying Tryz.underlying294, sizeOf, typeInfo, hi, Builtin.lenOf, Builtin.firstCells, hnc, storeCells, loadCells, loadCellsFrom]
theorem zeroL_run (w : World) : (zeroValue 26).run Tryz.prog w = .ok (.slice none 0 0) w := by kernel_rfl
theorem clear_one (w : World) (ty : TypeId) (b o c : Nat) (hc : (w.cell? ⟨b, o, none⟩).isSome = true) (hf : w.frozen? ⟨b, o, none⟩ = false) :
  (Builtin.clear_ #[294] ty #[.slice (some ⟨b, o, none⟩) 1 c]).run Tryz.prog w = .ok (.tuple #[]) (w.setCell ⟨b, o, none⟩ (.slice none 0 0)) := by
 have hst := run_storeCells_cells (P := Tryz.prog) b o [Value.slice none 0 0] 0 w (by intro j hj; simp at hj; subst hj; simpa using hc) (by intro j hj; simp at hj; subst hj; simpa using hf) (by simp [Value.oneCell'])
 simp only [Nat.add_zero] at hst
 have hz := zeroL_run w
 simp [Builtin.clear_, run_underlying Tryz.underlying294, hz, Builtin.zeroCells, hst]
 rw [show List.map (fun i => (Value.slice none 0 0).cells[i % (Value.slice none 0 0).cells.size]!) (List.range (Value.slice none 0 0).cells.size) = [Value.slice none 0 0] from rfl, hst]
 rfl
set_option maxHeartbeats 4000000 in
theorem deleteL (g n c : Nat) (w : World) (hc : (w.cell? ⟨g, n, none⟩).isSome = true) (hf : w.frozen? ⟨g, n, none⟩ = false) (hnc : n + 1 ≤ c) (hn : n ≤ 2000000000) :
  Calls Tryz.prog 406 #[.slice (some ⟨g, 0, none⟩) (n + 1) c, .int .i64 (n : Int), .int .i64 ((n : Int) + 1)] w fun e w' => e = .returned (.slice (some ⟨g, 0, none⟩) n c) ∧ w' = w.drew.setCell ⟨g, n, none⟩ (.slice none 0 0) := by
 have happ := fun W ty S k => append_zero W ty ⟨g, 0, none⟩ n c S k (by omega)
 have k5 : (0 : Int) ≤ (n : Int) + 1 := by omega
 have k6 : ((n : Int) + 1).toNat = n + 1 := by omega
 have hcl := fun ty k => clear_one w.drew ty g n k hc hf
 have h1 : (((n + 1 : Nat) : Int)) = (n : Int) + 1 := by omega
 have hne : ((n : Int) == (n : Int) + 1) = false := by rw [beq_eq_false_iff_ne]; omega
 have k1 : n ≤ n + 1 := by omega
 have k2 : n ≤ c := by omega
 have k3 : ¬ c = n := by omega
 have k4 : n + 1 - n = 1 := by omega
 have hst : ∀ (W : World) (a : Addr), (storeCells a []).run Tryz.prog W = .ok () W := fun _ _ => rfl
 by_cases hcn : c = n + 1
 ·subst hcn
  go_enter Tryz.func406, Tryz.ntmps406
  go_wp2_with fail
  go_region
  all_goals go_wp2
  all_goals go_ret
  all_goals exact ⟨rfl, rfl⟩
 ·go_enter Tryz.func406, Tryz.ntmps406
  go_wp2_with fail
  go_region
  all_goals go_wp2
  all_goals go_ret
  all_goals exact ⟨rfl, rfl⟩
theorem HeadsAt.cut {B p g : Nat} {T : TypeId} {c n : Nat} {hs : List HV} {w : World} (h : HeadsAt B p T (some ⟨g, 0, none⟩) c hs w) (hn : hs.length = n + 1) :
  HeadsAt B p T (some ⟨g, 0, none⟩) c (hs.take n) ((w.drew.setCell ⟨g, n, none⟩ (.slice none 0 0)).setCell ⟨p, 0, none⟩ (.slice (some ⟨g, 0, none⟩) n c)) ∧
  Below B w ((w.drew.setCell ⟨g, n, none⟩ (.slice none 0 0)).setCell ⟨p, 0, none⟩ (.slice (some ⟨g, 0, none⟩) n c)) := by
 have hgp := h.apart _ rfl
 obtain ⟨g', hv, hbg, _⟩ := h.get (by omega)
 injection hv with e1
 injection e1 with e1
 subst e1
 have hB : Below B w ((w.drew.setCell ⟨g, n, none⟩ (.slice none 0 0)).setCell ⟨p, 0, none⟩ (.slice (some ⟨g, 0, none⟩) n c)) := ((Below.refl B w).drew.setCell hbg _).setCell h.low _
 refine ⟨?_, hB⟩
 have hl : (hs.take n).length = n := by rw [List.length_take]; omega
 rcases h.own.2 with ⟨hv, _⟩ | ⟨g', cap, cur, hv, hbg', hh, h1, h2, h3, h4⟩
 ·cases hv
 ·obtain ⟨rfl, rfl⟩ : g' = g ∧ cap = c := by injection hv with e1 _ e3; injection e1 with e1; injection e1 with e1; exact ⟨e1.symm, e3.symm⟩
  have hx := h.box
  refine ⟨?_, ?_, fun a ha => by cases ha; exact hgp, h.low, fun y hy => (h.lie y (List.mem_of_mem_take hy)).below hB⟩
  ·rw [hl]
   have : (w.drew.setCell ⟨g', n, none⟩ (.slice none 0 0)).heap[p]? = some (.cells #[.slice (some ⟨g', 0, none⟩) hs.length cap] T (0, 0)) := (heapOther (Ne.symm hgp)).trans hx
   rw [heapSame this]
   simp
  ·rw [hl]
   have hq : ((w.drew.setCell ⟨g', n, none⟩ (.slice none 0 0)).setCell ⟨p, 0, none⟩ (.slice (some ⟨g', 0, none⟩) n cap)).heap[g']? = some (.cells (cur.setIfInBounds n (.slice none 0 0)) 26 (0, 0)) := by
    rw [heapOther hgp]
    exact heapSame (w := w.drew) hh
   refine ⟨by simp; omega, .inr ⟨g', cap, _, rfl, hbg, hq, by omega, h2, by simpa using h3, ?_⟩⟩
   rw [Array.toList_setIfInBounds, Nat.mul_one, List.take_set, List.map_take, ← h4, List.take_take, hn, Nat.mul_one, Nat.min_eq_left (by omega)]
   exact List.set_eq_of_length_le (by rw [List.length_take]; omega)
set_option maxHeartbeats 4000000 in
theorem pop_any {B p : Nat} {T : TypeId} {A : Option Addr} {c n : Nat} {hs : List HV} {w : World} (h : HeadsAt B p T A c hs w) (hn : hs.length = n + 1) (hm : n ≤ 1000000000) :
  Calls Tryz.prog 404 #[.pointer (some ⟨p, 0, none⟩)] w fun e w' => (∃ v, e = .returned v) ∧ HeadsAt B p T A c (hs.take n) w' ∧ Below B w w' ∧ Beside (mine p A) w w' := by
 obtain ⟨g, rfl, hg, hgp, hc⟩ := h.get (by omega)
 have hbox := h.cell
 have hfz : w.frozen? ⟨p, 0, none⟩ = false := frozen_row0 h.box
 have hcn := hc n (by omega)
 obtain ⟨xa, xn, xc, hx⟩ : ∃ xa xn xc, (HV.at_ hs n).val = .slice xa xn xc := ⟨_, _, _, rfl⟩
 rw [hx] at hcn
 have hnc := (own_cap8 h.own).1
 obtain ⟨q1, q2⟩ := h.cut hn
 have q3 : Beside (mine p (some ⟨g, 0, none⟩)) w ((w.drew.setCell ⟨g, n, none⟩ (.slice none 0 0)).setCell ⟨p, 0, none⟩ (.slice (some ⟨g, 0, none⟩) n c)) := ((Beside.refl _ w).drew.setCell (by simp [mine]) _).setCell (by simp [mine]) _
 have hD := deleteL g n c w (by rw [hcn]; rfl) (h.frz n) (by omega) (by omega)
 have hp2 : (w.drew.setCell ⟨g, n, none⟩ (.slice none 0 0)).cell? ⟨p, 0, none⟩ = some (.slice (some ⟨g, 0, none⟩) hs.length c) := by
  rw [cell_of_row (w.drew.setCell ⟨g, n, none⟩ (.slice none 0 0)) p 0 _ _ _ ((heapOther (w := w.drew) (Ne.symm hgp)).trans h.box)]; rfl
 have hf2 : (w.drew.setCell ⟨g, n, none⟩ (.slice none 0 0)).frozen? ⟨p, 0, none⟩ = false := frozen_row0 ((heapOther (w := w.drew) (Ne.symm hgp)).trans h.box)
 rw [hn] at hbox hp2
 have HQ := Lib.hid (And.intro q1 (And.intro q2 q3))
 clear q1 q2 q3 hc hx hn h
 generalize hs.take n = hs' at *
 have HD := Lib.hid hD
 clear hD
 have k1 : (n : Int) < (n : Int) + 1 := by omega
 have k2 : (n : Int) < ((n + 1 : Nat) : Int) := by omega
 have k0 : (0 : Int) ≤ (n : Int) := by omega
 have k3 : ((n + 1 : Nat) : Int) - 1 = (n : Int) := by omega
 go_enter Tryz.func404, Tryz.ntmps404
 go_wp2_with (first
  | (go_at_call 406
     refine HD.out.mono ?_
     rintro e w' ⟨rfl, rfl⟩))
 all_goals go_ret
 all_goals exact ⟨⟨_, rfl⟩, HQ.out.1, HQ.out.2.1, HQ.out.2.2⟩
theorem less_at {B p : Nat} {T : TypeId} {A : Option Addr} {c : Nat} {hs : List HV} {w : World} (h : HeadsAt B p T A c hs w) (hne : ∀ x ∈ hs, x.S ≠ []) (i j : Nat) (hi : i < hs.length) (hj : j < hs.length) :
  Calls Tryz.prog 401 #[.slice A hs.length c, .int .i64 (i : Int), .int .i64 (j : Int)] w fun e w' => e = .returned (.bool (lessB (HV.at_ hs i).one (HV.at_ hs j).one)) ∧ HeadsAt B p T A c hs w' ∧ Below w.heap.size w w' := by
 refine (less_any h i j hi hj (hne _ (at_mem hi)) (hne _ (at_mem hj))).mono ?_
 rintro e w' ⟨rfl, hb⟩
 exact ⟨rfl, h.below hb, hb⟩
structure Mends (B p : Nat) (T : TypeId) (A : Option Addr) (c n : Nat) (hs0 : List HV) (w0 : World) (hs : List HV) (w : World) : Prop where
 at_ : HeadsAt B p T A c hs w
 perm : hs.Perm hs0
 len : hs.length = n
 ne : ∀ x ∈ hs, x.S ≠ []
 below : Below B w0 w
 beside : Beside (mine p A) w0 w
theorem Mends.next {B p : Nat} {T : TypeId} {A : Option Addr} {c n : Nat} {hs0 hs : List HV} {w0 w w' : World} (h : Mends B p T A c n hs0 w0 hs w) (hat : HeadsAt B p T A c hs w') (hb : Below w.heap.size w w') : Mends B p T A c n hs0 w0 hs w' :=
 ⟨hat, h.perm, h.len, h.ne, h.below.trans (hb.mono (by have := h.at_.low; have := (Array.getElem?_eq_some_iff.1 h.at_.box).1; omega)), h.beside.below hb⟩
theorem Mends.swap {B p : Nat} {T : TypeId} {A : Option Addr} {c n : Nat} {hs0 hs : List HV} {w0 w w' : World} (h : Mends B p T A c n hs0 w0 hs w) {i j : Nat} (hi : i < n) (hj : j < n) (hat : HeadsAt B p T A c (swL hs noHV i j) w') (hb : Below B w w') (hbs : Beside (mine p A) w w') : Mends B p T A c n hs0 w0 (swL hs noHV i j) w' :=
 have hp := swL_perm hs noHV i j (by rw [h.len]; exact hi) (by rw [h.len]; exact hj)
 ⟨hat, hp.trans h.perm, by rw [swL_len, h.len], fun x hx => h.ne x (hp.mem_iff.1 hx), h.below.trans hb, h.beside.trans hbs fun x hx => .inl hx⟩
theorem at_swap {hs : List HV} {i j : Nat} (hi : i < hs.length) (hj : j < hs.length) : HV.at_ (swL hs noHV i j) = swp (HV.at_ hs) i j := funext fun k => swL_at hs noHV i j hi hj k
set_option maxHeartbeats 4000000 in
theorem up_any {B p : Nat} {T : TypeId} {A : Option Addr} {c n : Nat} {hs0 : List HV} {w0 : World} (hs1 : List HV) (w : World) (j0 : Nat) (hj0 : j0 < n) (hn : n ≤ 1000000001) (hM : Mends B p T A c n hs0 w0 hs1 w) (hU : UpInv hvLe (HV.at_ hs1) n j0) :
  Calls Tryz.prog 320 #[IH p, .int .i64 (j0 : Int)] w fun e w' => e = .returned (.tuple #[]) ∧ ∃ hs, Mends B p T A c n hs0 w0 hs w' ∧ Heap hs := by
 have STOP : ∀ hs W j, Mends B p T A c n hs0 w0 hs W → UpInv hvLe (HV.at_ hs) n j → (j = 0 ∨ hvLe (HV.at_ hs ((j - 1) / 2)) (HV.at_ hs j)) → ∃ hs, Mends B p T A c n hs0 w0 hs W ∧ Heap hs := fun hs W j hm hu hs' =>
  ⟨hs, hm, by rw [hm.len]; exact hu.stop hs', hm.ne⟩
 have HST := Lib.hid STOP
 have H0 := Lib.hid (And.intro hM hU)
 clear hM hU STOP
 go_enter Tryz.func320, Tryz.ntmps320
 go_wp2_with fail
 go_loopw [1] (fun jv W => ∃ (j : Nat) (hs : List HV), jv = .int .i64 (j : Int) ∧ j < n ∧ Hid (Mends B p T A c n hs0 w0 hs W ∧ UpInv hvLe (HV.at_ hs) n j)) (fun jv _ => (intOf jv).toNat)
 case atStart => exact ⟨j0, hs1, rfl, hj0, H0⟩
 case round =>
  obtain ⟨j, hs, rfl, hj, HM⟩ := hrel
  have hcell := HM.out.1.at_.cell
  rw [HM.out.1.len] at hcell
  have hml := m_less p _ wr hcell
  have hms := m_swap p _ wr hcell
  by_cases hz : j = 0
  ·subst hz
   have HF := Lib.hid (HST.out hs wr 0 HM.out.1 HM.out.2 (.inl rfl))
   go_wp2
   go_end0
   exact ⟨rfl, HF.out⟩
  ·obtain ⟨q, hq⟩ : ∃ q, q = (j - 1) / 2 := ⟨_, rfl⟩
   have hqj : q < j := by omega
   have hd : ((j : Int) - 1).tdiv 2 = (q : Int) := by rw [show (j : Int) - 1 = ((j - 1 : Nat) : Int) by omega, hq]; rfl
   have HQ := Lib.hid hq
   clear hq
   have hne : ((q : Int) == (j : Int)) = false := by rw [beq_eq_false_iff_ne]; omega
   have LL := less_at HM.out.1.at_ HM.out.1.ne j q (by rw [HM.out.1.len]; exact hj) (by rw [HM.out.1.len]; omega)
   rw [HM.out.1.len] at LL
   cases hl : lessB (HV.at_ hs j).one (HV.at_ hs q).one with
   | false =>
     rw [hl] at LL
     go_wp2_with (first
      | (go_at_call 401
         refine LL.mono ?_
         rintro e w1 ⟨rfl, h1, hb1⟩))
     go_end0
     exact ⟨rfl, HST.out hs w1 j (HM.out.1.next h1 hb1) HM.out.2 (.inr (by rw [← HQ.out]; exact lessB_no hl))⟩
   | true =>
     rw [hl] at LL
     have SW : ∀ W, HeadsAt B p T A c hs W → Calls Tryz.prog 402 #[.slice A n c, .int .i64 (q : Int), .int .i64 (j : Int)] W fun e w' => e = .returned (.tuple #[]) ∧ HeadsAt B p T A c (swL hs noHV q j) w' ∧ Below B W w' ∧ Beside (mine p A) W w' := fun W hW => by
      have := swap_any hW q j (by rw [HM.out.1.len]; omega) (by rw [HM.out.1.len]; exact hj)
      rwa [HM.out.1.len] at this
     go_wp2_with (first
      | (go_at_call 401
         refine LL.mono ?_
         rintro e w1 ⟨rfl, h1, hb1⟩
         have hc1 := h1.cell
         rw [HM.out.1.len] at hc1
         have hms1 := m_swap p _ w1 hc1)
      | (go_at_call 402
         refine (SW w1 h1).mono ?_
         rintro e w2 ⟨rfl, h2, hb2, hs2⟩))
     go_roundw
     case rel => exact ⟨q, _, rfl, by omega, Lib.hid ⟨(HM.out.1.next h1 hb1).swap (by omega) hj h2 hb2 hs2, by
      rw [at_swap (by rw [HM.out.1.len]; omega) (by rw [HM.out.1.len]; exact hj), HQ.out]
      exact HM.out.2.go hvLe_trans (by omega) hj (by rw [← HQ.out]; exact lessB_yes hl)⟩⟩
     case measure => simp [intOf]; omega
structure Downs (B p : Nat) (T : TypeId) (A : Option Addr) (c n : Nat) (hs0 : List HV) (w0 : World) (hs1 : List HV) (m i : Nat) (hs : List HV) (w : World) : Prop where
 md : Mends B p T A c n hs0 w0 hs w
 inv : DownInv hvLe (HV.at_ hs) m i
 far : ∀ k, m ≤ k → HV.at_ hs k = HV.at_ hs1 k
theorem Downs.swap {B p : Nat} {T : TypeId} {A : Option Addr} {c n : Nat} {hs0 : List HV} {w0 : World} {hs1 hs : List HV} {m i j : Nat} {w w' : World} (h : Downs B p T A c n hs0 w0 hs1 m i hs w) (hmn : m ≤ n) (hj : i < j) (hjm : j < m) (hji : (j - 1) / 2 = i)
  (hl : hvLe (HV.at_ hs j) (HV.at_ hs i)) (hm : ∀ k, 0 < k → k < m → (k - 1) / 2 = i → hvLe (HV.at_ hs j) (HV.at_ hs k)) (hat : HeadsAt B p T A c (swL hs noHV i j) w') (hb : Below B w w') (hbs : Beside (mine p A) w w') : Downs B p T A c n hs0 w0 hs1 m j (swL hs noHV i j) w' := by
 have e := at_swap (hs := hs) (i := i) (j := j) (by rw [h.md.len]; omega) (by rw [h.md.len]; omega)
 refine ⟨h.md.swap (by omega) (by omega) hat hb hbs, by rw [e]; exact h.inv.go (by omega) hjm hji hl hm, fun k hk => ?_⟩
 rw [e]
 unfold swp
 rw [if_neg (by omega), if_neg (by omega)]
 exact h.far k hk
def DownEnd (B p : Nat) (T : TypeId) (A : Option Addr) (c n : Nat) (hs0 : List HV) (w0 : World) (hs1 : List HV) (m : Nat) (e : Ending) (w' : World) : Prop :=
 (∃ b, e = .returned (.bool b)) ∧ ∃ hs, Mends B p T A c n hs0 w0 hs w' ∧ Heaped hvLe (HV.at_ hs) m ∧ ∀ k, m ≤ k → HV.at_ hs k = HV.at_ hs1 k
set_option maxHeartbeats 8000000 in
theorem down_any {B p : Nat} {T : TypeId} {A : Option Addr} {c n : Nat} {hs0 : List HV} {w0 : World} (hs1 : List HV) (w : World) (m : Nat) (hmn : m ≤ n) (hn : n ≤ 1000000001) (hM : Mends B p T A c n hs0 w0 hs1 w) (hD : DownInv hvLe (HV.at_ hs1) m 0) :
  Calls Tryz.prog 321 #[IH p, .int .i64 0, .int .i64 (m : Int)] w (DownEnd B p T A c n hs0 w0 hs1 m) := by
 have STOP : ∀ hs W i (b : Bool), Downs B p T A c n hs0 w0 hs1 m i hs W → (∀ k, 0 < k → k < m → (k - 1) / 2 = i → hvLe (HV.at_ hs i) (HV.at_ hs k)) → DownEnd B p T A c n hs0 w0 hs1 m (.returned (.bool b)) W := fun hs W i b h hk =>
  ⟨⟨b, rfl⟩, hs, h.md, h.inv.stop hk, h.far⟩
 have HST := Lib.hid STOP
 have H0 := Lib.hid (Downs.mk (w0 := w0) (hs0 := hs0) hM hD (fun k _ => rfl))
 clear hM hD STOP
 go_enter Tryz.func321, Tryz.ntmps321
 go_wp2_with fail
 go_loopw [7] (fun iv W => ∃ (i : Nat) (hs : List HV), iv = .int .i64 (i : Int) ∧ i ≤ m ∧ Hid (Downs B p T A c n hs0 w0 hs1 m i hs W)) (fun iv _ => m - (intOf iv).toNat)
 case atStart => exact ⟨0, hs1, rfl, Nat.zero_le _, H0⟩
 case round =>
  obtain ⟨i, hs, rfl, hi, HD⟩ := hrel
  obtain ⟨j1, hj1⟩ : ∃ j1, j1 = 2 * i + 1 := ⟨_, rfl⟩
  obtain ⟨j2, hj2⟩ : ∃ j2, j2 = 2 * i + 2 := ⟨_, rfl⟩
  have e1 : 2 * (i : Int) + 1 = (j1 : Int) := by omega
  have e2 : (j1 : Int) + 1 = (j2 : Int) := by omega
  have b1 : ¬ ((j1 : Int) < 0) := by omega
  have b2 : (j2 : Int) ≤ 4000000000 := by omega
  have hlen := HD.out.md.len
  have hcell := HD.out.md.at_.cell
  rw [hlen] at hcell
  have hml := m_less p _ wr hcell
  have kids : ∀ k, 0 < k → k < m → (k - 1) / 2 = i → k = j1 ∨ k = j2 := fun k _ _ _ => by omega
  have HK := Lib.hid kids
  have HJ := Lib.hid (And.intro hj1 hj2)
  have HL := Lib.hid hlen
  have LE : ∀ W, HeadsAt B p T A c hs W → ∀ a b, a < m → b < m → Calls Tryz.prog 401 #[.slice A n c, .int .i64 (a : Int), .int .i64 (b : Int)] W fun e w' => e = .returned (.bool (lessB (HV.at_ hs a).one (HV.at_ hs b).one)) ∧ HeadsAt B p T A c hs w' ∧ Below W.heap.size W w' := fun W hW a b ha hb => by
   have := less_at hW HD.out.md.ne a b (by rw [hlen]; omega) (by rw [hlen]; omega)
   rwa [hlen] at this
  have SW : ∀ W, HeadsAt B p T A c hs W → ∀ a b, a < m → b < m → Calls Tryz.prog 402 #[.slice A n c, .int .i64 (a : Int), .int .i64 (b : Int)] W fun e w' => e = .returned (.tuple #[]) ∧ HeadsAt B p T A c (swL hs noHV a b) w' ∧ Below B W w' ∧ Beside (mine p A) W w' := fun W hW a b ha hb => by
   have := swap_any hW a b (by rw [hlen]; omega) (by rw [hlen]; omega)
   rwa [hlen] at this
  clear hlen kids hj1 hj2
  by_cases h1 : j1 < m
  ·have him : i < m := by have := HJ.out; omega
   by_cases h2 : j2 < m
   ·cases hl : lessB (HV.at_ hs j2).one (HV.at_ hs j1).one with
    | true =>
      have MIN : ∀ k, 0 < k → k < m → (k - 1) / 2 = i → hvLe (HV.at_ hs j2) (HV.at_ hs k) := fun k k1 k2 k3 => by
        rcases HK.out k k1 k2 k3 with rfl | rfl
        ·exact lessB_yes hl
        ·exact hvLe_refl _
      have HMIN := Lib.hid MIN
      clear MIN
      have hjm : j2 < m := by omega
      have hij : i < j2 := by have := HJ.out; omega
      have hji : (j2 - 1) / 2 = i := by have := HJ.out; omega
      have HJI := Lib.hid hji
      clear hji
      cases hx : lessB (HV.at_ hs j2).one (HV.at_ hs i).one with
      | false =>
        go_wp2_with fail
        refine (LE _ HD.out.md.at_ j2 j1 h2 h1).mono ?_
        rw [hl]
        rintro e w1 ⟨rfl, h1a, hb1⟩
        have hc1 := h1a.cell
        rw [HL.out] at hc1
        have hml1 := m_less p _ w1 hc1
        go_wp2_with fail
        refine (LE _ h1a j2 i h2 him).mono ?_
        rw [hx]
        rintro e w2 ⟨rfl, h2a, hb2⟩
        have hc2 := h2a.cell
        rw [HL.out] at hc2
        have hms2 := m_swap p _ w2 hc2
        go_wp2
        go_ret
        exact HST.out hs w2 i _ ⟨(HD.out.md.next h1a hb1).next h2a hb2, HD.out.inv, HD.out.far⟩ (fun k k1 k2 k3 => hvLe_trans _ _ _ (lessB_no hx) (HMIN.out k k1 k2 k3))
      | true =>
        go_wp2_with fail
        refine (LE _ HD.out.md.at_ j2 j1 h2 h1).mono ?_
        rw [hl]
        rintro e w1 ⟨rfl, h1a, hb1⟩
        have hc1 := h1a.cell
        rw [HL.out] at hc1
        have hml1 := m_less p _ w1 hc1
        go_wp2_with fail
        refine (LE _ h1a j2 i h2 him).mono ?_
        rw [hx]
        rintro e w2 ⟨rfl, h2a, hb2⟩
        have hc2 := h2a.cell
        rw [HL.out] at hc2
        have hms2 := m_swap p _ w2 hc2
        go_wp2_with fail
        refine (SW w2 h2a i j2 him h2).mono ?_
        rintro e w3 ⟨rfl, h3a, hb3, hs3⟩
        go_wp2
        go_roundw
        case rel => exact ⟨j2, _, rfl, by omega, Lib.hid ((Downs.mk ((HD.out.md.next h1a hb1).next h2a hb2) HD.out.inv HD.out.far).swap hmn hij hjm HJI.out (lessB_yes hx) HMIN.out h3a hb3 hs3)⟩
        case measure => simp [intOf]; omega
    | false =>
      have MIN : ∀ k, 0 < k → k < m → (k - 1) / 2 = i → hvLe (HV.at_ hs j1) (HV.at_ hs k) := fun k k1 k2 k3 => by
        rcases HK.out k k1 k2 k3 with rfl | rfl
        ·exact hvLe_refl _
        ·exact lessB_no hl
      have HMIN := Lib.hid MIN
      clear MIN
      have hjm : j1 < m := by omega
      have hij : i < j1 := by have := HJ.out; omega
      have hji : (j1 - 1) / 2 = i := by have := HJ.out; omega
      have HJI := Lib.hid hji
      clear hji
      cases hx : lessB (HV.at_ hs j1).one (HV.at_ hs i).one with
      | false =>
        go_wp2_with fail
        refine (LE _ HD.out.md.at_ j2 j1 h2 h1).mono ?_
        rw [hl]
        rintro e w1 ⟨rfl, h1a, hb1⟩
        have hc1 := h1a.cell
        rw [HL.out] at hc1
        have hml1 := m_less p _ w1 hc1
        go_wp2_with fail
        refine (LE _ h1a j1 i h1 him).mono ?_
        rw [hx]
        rintro e w2 ⟨rfl, h2a, hb2⟩
        have hc2 := h2a.cell
        rw [HL.out] at hc2
        have hms2 := m_swap p _ w2 hc2
        go_wp2
        go_ret
        exact HST.out hs w2 i _ ⟨(HD.out.md.next h1a hb1).next h2a hb2, HD.out.inv, HD.out.far⟩ (fun k k1 k2 k3 => hvLe_trans _ _ _ (lessB_no hx) (HMIN.out k k1 k2 k3))
      | true =>
        go_wp2_with fail
        refine (LE _ HD.out.md.at_ j2 j1 h2 h1).mono ?_
        rw [hl]
        rintro e w1 ⟨rfl, h1a, hb1⟩
        have hc1 := h1a.cell
        rw [HL.out] at hc1
        have hml1 := m_less p _ w1 hc1
        go_wp2_with fail
        refine (LE _ h1a j1 i h1 him).mono ?_
        rw [hx]
        rintro e w2 ⟨rfl, h2a, hb2⟩
        have hc2 := h2a.cell
        rw [HL.out] at hc2
        have hms2 := m_swap p _ w2 hc2
        go_wp2_with fail
        refine (SW w2 h2a i j1 him h1).mono ?_
        rintro e w3 ⟨rfl, h3a, hb3, hs3⟩
        go_wp2
        go_roundw
        case rel => exact ⟨j1, _, rfl, by omega, Lib.hid ((Downs.mk ((HD.out.md.next h1a hb1).next h2a hb2) HD.out.inv HD.out.far).swap hmn hij hjm HJI.out (lessB_yes hx) HMIN.out h3a hb3 hs3)⟩
        case measure => simp [intOf]; omega
   ·have hd2 : decide ((j2 : Int) < (m : Int)) = false := decide_eq_false (by omega)
    have MIN : ∀ k, 0 < k → k < m → (k - 1) / 2 = i → hvLe (HV.at_ hs j1) (HV.at_ hs k) := fun k k1 k2 k3 => by
      rcases HK.out k k1 k2 k3 with rfl | rfl
      ·exact hvLe_refl _
      ·exact absurd k2 h2
    have HMIN := Lib.hid MIN
    clear MIN
    have hjm : j1 < m := by omega
    have hij : i < j1 := by have := HJ.out; omega
    have hji : (j1 - 1) / 2 = i := by have := HJ.out; omega
    have HJI := Lib.hid hji
    clear hji
    cases hx : lessB (HV.at_ hs j1).one (HV.at_ hs i).one with
    | false =>
      go_wp2_with fail
      refine (LE _ HD.out.md.at_ j1 i h1 him).mono ?_
      rw [hx]
      rintro e w2 ⟨rfl, h2a, hb2⟩
      have hc2 := h2a.cell
      rw [HL.out] at hc2
      have hms2 := m_swap p _ w2 hc2
      go_wp2
      go_ret
      exact HST.out hs w2 i _ ⟨HD.out.md.next h2a hb2, HD.out.inv, HD.out.far⟩ (fun k k1 k2 k3 => hvLe_trans _ _ _ (lessB_no hx) (HMIN.out k k1 k2 k3))
    | true =>
      go_wp2_with fail
      refine (LE _ HD.out.md.at_ j1 i h1 him).mono ?_
      rw [hx]
      rintro e w2 ⟨rfl, h2a, hb2⟩
      have hc2 := h2a.cell
      rw [HL.out] at hc2
      have hms2 := m_swap p _ w2 hc2
      go_wp2_with fail
      refine (SW w2 h2a i j1 him h1).mono ?_
      rintro e w3 ⟨rfl, h3a, hb3, hs3⟩
      go_wp2
      go_roundw
      case rel => exact ⟨j1, _, rfl, by omega, Lib.hid ((Downs.mk (HD.out.md.next h2a hb2) HD.out.inv HD.out.far).swap hmn hij hjm HJI.out (lessB_yes hx) HMIN.out h3a hb3 hs3)⟩
      case measure => simp [intOf]; omega
  ·have hge : (m : Int) ≤ (j1 : Int) := by omega
   have HF := Lib.hid (fun b => HST.out hs wr i b HD.out (fun k k1 k2 k3 => by have := HK.out k k1 k2 k3; have := HJ.out; omega))
   go_wp2
   go_ret
   exact HF.out _
structure HeapAt (B p : Nat) (T : TypeId) (hs : List HV) (w : World) : Prop where
 ex : ∃ A c, HeadsAt B p T A c hs w
 heap : Heap hs
theorem at_append_lt {hs : List HV} {x : HV} {k : Nat} (h : k < hs.length) : HV.at_ (hs ++ [x]) k = HV.at_ hs k := by
 unfold HV.at_
 rw [List.getD_eq_getElem?_getD, List.getD_eq_getElem?_getD, List.getElem?_append_left h]
theorem at_take {hs : List HV} {n k : Nat} (h : k < n) : HV.at_ (hs.take n) k = HV.at_ hs k := by
 unfold HV.at_
 rw [List.getD_eq_getElem?_getD, List.getD_eq_getElem?_getD, List.getElem?_take, if_pos h]
theorem at_set_ne {hs : List HV} {x : HV} {i k : Nat} (h : k ≠ i) : HV.at_ (hs.set i x) k = HV.at_ hs k := by
 unfold HV.at_
 rw [List.getD_eq_getElem?_getD, List.getD_eq_getElem?_getD, List.getElem?_set_ne (Ne.symm h)]
set_option maxHeartbeats 4000000 in
theorem hpush_any {B p : Nat} {T : TypeId} {hs : List HV} {w : World} (h : HeapAt B p T hs w) (hB : B ≤ w.heap.size) (x : HV) (hx : Lies B w x) (hxn : x.S ≠ []) (hn : hs.length ≤ 1000000000) :
  Calls Tryz.prog 275 #[IH p, .iface 26 x.val] w fun e w' => e = .returned (.tuple #[]) ∧ (∃ hs', HeapAt B p T hs' w' ∧ hs'.Perm (hs ++ [x])) ∧ Below B w w' := by
 obtain ⟨⟨A, c, hA⟩, hH⟩ := h
 have HP := push_any hA hB x hx hn
 have hmp := m_push p w
 obtain ⟨xa, xn, xc, hxv⟩ : ∃ xa xn xc, x.val = .slice xa xn xc := ⟨_, _, _, rfl⟩
 rw [hxv] at HP ⊢
 have UP : ∀ (A' : Option Addr) (c' : Nat) (W : World), HeadsAt B p T A' c' (hs ++ [x]) W → Below B w W → Calls Tryz.prog 320 #[IH p, .int .i64 (hs.length : Int)] W fun e w' => e = .returned (.tuple #[]) ∧ Hid ((∃ hs', HeapAt B p T hs' w' ∧ hs'.Perm (hs ++ [x])) ∧ Below B w w') := fun A' c' W hW hb => by
  refine (up_any (n := hs.length + 1) (hs0 := hs ++ [x]) (w0 := W) (hs ++ [x]) W hs.length (by omega) (by omega) ⟨hW, List.Perm.refl _, by simp, fun y hy => ?_, Below.refl _ _, Beside.refl _ _⟩ (hH.ord.upLast fun k hk => at_append_lt hk)).mono ?_
  ·rcases List.mem_append.1 hy with hy | hy
   ·exact hH.ne y hy
   ·rw [List.mem_singleton.1 hy]; exact hxn
  ·rintro e w' ⟨rfl, hs', hm, hh⟩
   exact ⟨rfl, Lib.hid ⟨⟨hs', ⟨⟨_, _, hm.at_⟩, hh⟩, hm.perm⟩, hb.trans hm.below⟩⟩
 have LEN : ∀ (A' : Option Addr) (c' : Nat) (W : World), HeadsAt B p T A' c' (hs ++ [x]) W → (method 562 341 (.pointer (some ⟨p, 0, none⟩)) "Len").run Tryz.prog W = .ok (400, .slice A' (hs.length + 1) c') W := fun A' c' W hW => by
  have := m_len p _ W hW.cell
  simpa using this
 clear hA hH
 generalize hs.length = n at *
 go_enter Tryz.func275, Tryz.ntmps275
 go_wp2_with fail
 refine HP.mono ?_
 rintro e w1 ⟨rfl, ⟨A', c', h1⟩, hb1⟩
 have hml := LEN A' c' w1 h1
 go_wp2_with fail
 refine (len_any A' (n + 1) c' w1).mono ?_
 rintro e w2 ⟨rfl, rfl⟩
 go_wp2_with fail
 refine (UP A' c' _ h1 hb1).mono ?_
 rintro e w3 ⟨rfl, HF⟩
 go_wp2
 go_end0
 exact ⟨rfl, HF.out.1, HF.out.2⟩
set_option maxHeartbeats 4000000 in
theorem hfix_any {B p : Nat} {T : TypeId} {A : Option Addr} {c : Nat} {hs : List HV} {w : World} (h : HeadsAt B p T A c hs w) (hne : ∀ x ∈ hs, x.S ≠ []) (hn0 : 0 < hs.length) (hD : DownInv hvLe (HV.at_ hs) hs.length 0) (hn : hs.length ≤ 1000000000) :
  Calls Tryz.prog 276 #[IH p, .int .i64 0] w fun e w' => e = .returned (.tuple #[]) ∧ (∃ hs', HeadsAt B p T A c hs' w' ∧ Heap hs' ∧ hs'.Perm hs) ∧ Below B w w' ∧ Beside (mine p A) w w' := by
 have LEN := m_len p _ w h.cell
 have DO := down_any (B := B) (w0 := w) hs w hs.length (Nat.le_refl _) (by omega) ⟨h, List.Perm.refl hs, rfl, hne, Below.refl B w, Beside.refl _ _⟩ hD
 have UP : ∀ (hs' : List HV) (W : World), Mends B p T A c hs.length hs w hs' W → Heaped hvLe (HV.at_ hs') hs.length → Calls Tryz.prog 320 #[IH p, .int .i64 0] W fun e w' => e = .returned (.tuple #[]) ∧ Hid ((∃ hs', HeadsAt B p T A c hs' w' ∧ Heap hs' ∧ hs'.Perm hs) ∧ Below B w w' ∧ Beside (mine p A) w w') := fun hs' W hM hh => by
  refine (up_any (n := hs.length) hs' W 0 hn0 (by omega) hM ⟨fun k h1 h2 h3 => hh k h1 h2, fun h => absurd h (by omega)⟩).mono ?_
  rintro e w' ⟨rfl, hs2, hm, hh⟩
  exact ⟨rfl, Lib.hid ⟨⟨hs2, hm.at_, hh, hm.perm⟩, hm.below, hm.beside⟩⟩
 have FI : ∀ (hs' : List HV) (W : World), Mends B p T A c hs.length hs w hs' W → Heaped hvLe (HV.at_ hs') hs.length → Hid ((∃ hs', HeadsAt B p T A c hs' W ∧ Heap hs' ∧ hs'.Perm hs) ∧ Below B w W ∧ Beside (mine p A) w W) := fun hs' W hM hh =>
  Lib.hid ⟨⟨hs', hM.at_, ⟨by rw [hM.len]; exact hh, hM.ne⟩, hM.perm⟩, hM.below, hM.beside⟩
 clear h hne hD
 go_enter Tryz.func276, Tryz.ntmps276
 go_wp2_with fail
 refine (len_any A hs.length c _).mono ?_
 rintro e w2 ⟨rfl, rfl⟩
 go_wp2_with fail
 refine DO.mono ?_
 rintro e w1 ⟨⟨b, rfl⟩, hs1, hM1, hh1, _⟩
 have HM := Lib.hid (And.intro hM1 hh1)
 clear hM1 hh1
 have hnot : ∀ (x : Bool) (w : World), (Op.unary .not (.bool x)).run Tryz.prog w = .ok (.bool (!x)) w := fun _ _ => rfl
 cases b with
 | true =>
   go_wp2
   go_end0
   have HF := FI _ _ HM.out.1 HM.out.2
   exact ⟨rfl, HF.out.1, HF.out.2.1, HF.out.2.2⟩
 | false =>
   go_wp2_with fail
   refine (UP _ _ HM.out.1 HM.out.2).mono ?_
   rintro e w3 ⟨rfl, HF⟩
   go_wp2
   go_end0
   exact ⟨rfl, HF.out.1, HF.out.2.1, HF.out.2.2⟩
end Go.Proofs.YtinjbdgjcadodaaGreatDoor.Ord
