/- feed: an event is added to the last segment. -/
import Derived.Test.YtkphklmgbdljiaaGreatDoorFdSync
namespace Go.Proofs.YtkphklmgbdljiaaGreatDoor.Fd
open Go Go.RowKit Go.Proofs.YtkphklmgbdljiaaGreatDoor.Words Go.Proofs.YtkphklmgbdljiaaGreatDoor.Enc Go.Proofs.YtkphklmgbdljiaaGreatDoor.Evt Go.Proofs.YtkphklmgbdljiaaGreatDoor.Made Go.Proofs.YtkphklmgbdljiaaGreatDoor.Dsk Go.Proofs.YtkphklmgbdljiaaGreatDoor.Sht Go.Proofs.YtkphklmgbdljiaaGreatDoor.Seg
set_option linter.unusedVariables false
set_option linter.unusedSimpArgs false

theorem wp_then {P : Program} {c : Code} {K K' : Act → World → Prop} {Q' : Exit → Act → World → Prop} {a : Act} {w : World} (hq : ∀ a w, K a w → K' a w) (h : c.wp P (Exit.then K Q') a w) : c.wp P (Exit.then K' Q') a w :=
  Code.wp_mono (fun e a w he => by cases e <;> first | exact hq _ _ he | exact he) h
/-- Behind a segment's Add, whose events lie outside B, too. -/
structure ExtSt (w : World) (d : Nat) (S : List Nat) (files : List File) (h : Hd) (B : List Nat) (A8 : Option Addr) (m : Nat) (L : List Ev) (S9 : List Nat) (W : World) : Prop where
  disk : Disk W d S9 files h
  bes : Beside S w W
  sub : ∀ k ∈ S9, k ∈ S ∨ w.heap.size ≤ k
  sees : SeesEv (S9 ++ B) W A8 m L
theorem ExtSt.alloc {w W : World} {d : Nat} {S S9 : List Nat} {files : List File} {h : Hd} {B : List Nat} {A8 : Option Addr} {m : Nat} {L : List Ev} (s : ExtSt w d S files h B A8 m L S9 W) (o : Obj) : ExtSt w d S files h (B ++ [W.heap.size]) A8 m L S9 (W.alloc o) := by
  have hb := (Below.refl W.heap.size W).alloc (Nat.le_refl _) o
  refine ⟨s.disk.below hb, s.bes.below hb, s.sub, s.sees.next (Beside.of_below hb _) fun k hk => ?_⟩
  rcases List.mem_append.1 hk with h | h
  · exact .inl (List.mem_append.2 (.inl h))
  · rcases List.mem_append.1 h with h | h
    · exact .inl (List.mem_append.2 (.inr h))
    · simp at h; subst h; exact .inr (Nat.le_refl _)
theorem ExtSt.turn {w W W' : World} {d b5 : Nat} {S S9 : List Nat} {files : List File} {h : Hd} {B : List Nat} {A8 : Option Addr} {m : Nat} {L : List Ev} (s : ExtSt w d S files h B A8 m L S9 W) (hb : Beside [b5] W W') (h9 : b5 ∉ S9) (hB : b5 ∈ B) (hw : w.heap.size ≤ b5) : ExtSt w d S files h B A8 m L S9 W' := by
  refine ⟨s.disk.beside hb (fun k hk hm => by simp at hk; subst hk; exact h9 hm), s.bes.trans hb (fun k hk => by simp at hk; subst hk; exact .inr hw), s.sub, s.sees.next (hb.wider fun k hk => by simp at hk; subst hk; exact .inl (List.mem_append.2 (.inr hB))) fun k hk => .inl hk⟩
theorem set_four (T : TypeId) (W : World) (b : Nat) (z0 z1 z2 z3 v0 v1 v2 v3 : Value) (hz : W.heap[b]? = some (.cells #[z0, z1, z2, z3] T (0, 0))) :
    ((((W.setCell ⟨b, 0, none⟩ v0).setCell ⟨b, 1, none⟩ v1).setCell ⟨b, 2, none⟩ v2).setCell ⟨b, 3, none⟩ v3).heap[b]? = some (.cells #[v0, v1, v2, v3] T (0, 0)) ∧ Beside [b] W ((((W.setCell ⟨b, 0, none⟩ v0).setCell ⟨b, 1, none⟩ v1).setCell ⟨b, 2, none⟩ v2).setCell ⟨b, 3, none⟩ v3) :=
  ⟨(heapSame (heapSame (heapSame (heapSame hz)))).trans rfl, ((((Beside.refl _ _).setCell (by simp) _).setCell (by simp) _).setCell (by simp) _).setCell (by simp) _⟩
theorem set4 (P : List Value) (a b c d a' b' c' d' : Value) : ((((P ++ [a, b, c, d]).set P.length a').set (P.length + 1) b').set (P.length + 2) c').set (P.length + 3) d' = P ++ [a', b', c', d'] := by
  rw [List.set_append_right _ _ (Nat.le_refl _), List.set_append_right _ _ (by omega), List.set_append_right _ _ (by omega), List.set_append_right _ _ (by omega)]
  simp
theorem row_last {w : World} {base j : Nat} {A : Option Addr} {c g x : Nat} {I : List SegS} {r r' : SegS} (h : w.ownsRow base 65 4 (.slice A (j + 1) c) (j + 1) (rowsS x (I ++ [r]))) (hj : I.length = j) (hg : A = some ⟨g, 0, none⟩) {v0 v1 v2 v3 : Value} (hc : r'.cells x = [v0, v1, v2, v3]) :
    ((((w.setCell ⟨g, j * 4, none⟩ v0).setCell ⟨g, j * 4 + 1, none⟩ v1).setCell ⟨g, j * 4 + 2, none⟩ v2).setCell ⟨g, j * 4 + 3, none⟩ v3).ownsRow base 65 4 (.slice A (j + 1) c) (j + 1) (rowsS x (I ++ [r'])) := by
  refine ⟨by rw [rowsS_len]; simp [hj], ?_⟩
  rcases h.2 with ⟨_, h0⟩ | ⟨g', cap, cur, hv, hb, hh, hn, hm, hs, ht⟩
  · omega
  · injection hv with h1 _ h3
    rw [hg] at h1
    injection h1 with h1
    injection h1 with h1
    subst h1
    subst h3
    refine .inr ⟨g, c, _, by rw [hg], hb, heapSame (heapSame (heapSame (heapSame hh))), hn, hm, by simpa using hs, ?_⟩
    have hl : (rowsS x I).length = j * 4 := by rw [rowsS_len, hj]
    rw [rowsS_append] at ht ⊢
    simp only [rowsS, List.append_nil] at ht ⊢
    rw [hc]
    simp only [Array.toList_setIfInBounds, List.take_set]
    rw [ht, ← hl]
    exact set4 _ _ _ _ _ _ _ _ _
theorem le_sum : ∀ {l : List Nat} {a : Nat}, a ∈ l → a ≤ l.sum
  | [], a, h => by cases h
  | b :: l, a, h => by
    rcases List.mem_cons.1 h with rfl | h
    · simp
    · have := le_sum h; simp; omega
theorem put_last (x : Nat) (q : List UInt8) : ∀ (I : List Part) (p : Part), Rise (I ++ [p]) → put (nameL (x : Int) p.u) q ((I ++ [p]).map (Part.file x)) = (I.map (Part.file x)) ++ [⟨nameL (x : Int) p.u, (p.file x).p ++ q, p.N⟩]
  | [], p, _ => by simp [put, Part.file]
  | a :: I, p, h => by
    have h1 := List.pairwise_cons.1 h.1
    have hne : ¬ (a.file x).name = nameL (x : Int) p.u := fun he => by
      have h3 := h1.1 p (by simp)
      have := nameL_inj (h.2 a (by simp)) (h.2 p (by simp)) he
      omega
    rw [List.cons_append, List.map_cons, put, if_neg hne, put_last x q I p ⟨h1.2, fun b hb => h.2 b (List.mem_cons_of_mem _ hb)⟩]
    rfl

set_option maxRecDepth 100000 in
set_option maxHeartbeats 2000000 in
theorem extend_at [Inhabited XS] (d f x : Nat) (sz : Int) (floor time : Nat) (I : List SegS) (r : SegS) (safe acts : Nat) (A : Option Addr) (c : Nat) (S : List Nat) (ev : Ev) (Be : Option Addr) (me ke : Nat) (w : World) (F : FeedAt w d f x sz floor time (I ++ [r]) safe A c S (hdA acts)) (T : TabsOn S w) (hR : Rise ((I ++ [r]).map SegS.p)) (hx : x < 64) (hl : I.length ≤ 1000) (hac : acts ≤ 50000)
    (hs : Sees w Be me ev.text) (hout : Out S Be me) (hr : Right ev) (hfit : ev.Fit) (htx : ev.text.length ≤ 1048576) (hkey : ev.key.size ≤ 1048576) (hfo : ev.writer = (x : Int) ∧ ev.seq = r.p.u + r.p.L.length) (hpl : plainE ev = ev) (hu : r.p.u + r.p.L.length < 100000) (hsum : (((I ++ [r]).map SegS.p).map (Part.z x)).sum + (wrap (evL ev)).length ≤ 65536) :
    Calls Tryz.prog 29 #[.pointer (some ⟨f, 0, none⟩), ev.val Be me ke] w fun e w' => e = .returned (.int .i64 0) ∧ ∃ A8 S', FeedAt w' d f x sz floor time (I ++ [⟨⟨r.p.u, r.p.L ++ [ev], r.p.N⟩, A8⟩]) safe A c S' (hdA (acts + 1)) ∧ Beside (S ++ f :: blk A) w w' ∧ ∀ k ∈ S', k ∈ S ∨ w.heap.size ≤ k := by
  obtain ⟨j, hj⟩ : ∃ j, j = I.length := ⟨_, rfl⟩
  have hRl : (I ++ [r]).length = j + 1 := by simp [hj]
  have hRj : (I ++ [r])[j]? = some r := by simp [hj]
  obtain ⟨u, hu0⟩ : ∃ u, u = r.p.u := ⟨_, rfl⟩
  obtain ⟨n, hn0⟩ : ∃ n, n = r.p.L.length := ⟨_, rfl⟩
  obtain ⟨z, hz0⟩ : ∃ z, z = r.p.z x := ⟨_, rfl⟩
  obtain ⟨rA, hA0⟩ : ∃ rA, rA = r.A := ⟨_, rfl⟩
  obtain ⟨z', hz'⟩ : ∃ z', z' = z + (wrap (evL ev)).length := ⟨_, rfl⟩
  have hb0 := (Below.refl w.heap.size w).alloc (Nat.le_refl _) (.cells (ev.row Be me ke) 37)
  have g3 := heap_alloc_new w (.cells (ev.row Be me ke) 37)
  have hsf := store_float Tryz.prog
  have HFO := Lib.hid hfo
  have HPL := Lib.hid hpl
  have HU := Lib.hid hu0
  have HN := Lib.hid hn0
  have HZ := Lib.hid hz'
  have HZ0 := Lib.hid hz0
  have HAA := Lib.hid hA0
  have HJ := Lib.hid hj
  have HRl := Lib.hid hRl
  have HRj := Lib.hid hRj
  clear hfo hpl hu0 hn0 hz' hz0 hA0 hj hRl hRj
  unfold Ev.row at hb0 g3
  unfold Ev.val
  go_enter Tryz.func29, Tryz.ntmps29
  go_upto_region 1 with fail
  generalize w.alloc (.cells #[.int .i64 ev.writer, .int .u64 (ev.seq : Int), .int .u64 (ev.time : Int), .int .u8 (ev.kind : Int), .string ev.key, .slice Be me ke, .float .f64 ev.num, .int .i64 ev.node] 37) = w0 at hb0 g3 ⊢
  obtain ⟨b3, hb3⟩ : ∃ b3, b3 = w.heap.size := ⟨_, rfl⟩
  rw [← hb3] at g3 ⊢
  have hfo := HFO.out
  have hpl := HPL.out
  have hu0 := HU.out
  have hn0 := HN.out
  have hz' := HZ.out
  have hz0 := HZ0.out
  have hA0 := HAA.out
  have hj := HJ.out
  have hRl := HRl.out
  have hRj := HRj.out
  have hl3 : b3 < w0.heap.size := (Array.getElem?_eq_some_iff.1 g3).1
  have hSl : ∀ k ∈ S, k < b3 := fun k hk => by have := F.disk.lt k hk; omega
  have hn3 : b3 ∉ S := fun hm => by have := hSl _ hm; omega
  have hfw : f < w.heap.size := F.lt f (by simp)
  have hfS := F.fS
  have FB : ∀ W, Below w0.heap.size w0 W → FeedAt W d f x sz floor time (I ++ [r]) safe A c S (hdA acts) := fun W hW => F.below (hb0.trans (hW.mono hb0.size))
  have E1 : ∀ W, Below w0.heap.size w0 W → Calls Tryz.prog 38 #[.pointer (some ⟨f, 0, none⟩)] W fun e w' => e = .returned (.agg #[.int .i64 (x : Int), .int .u64 (u : Int), .slice rA n n, .int .i64 (z : Int)]) ∧ Hid (Below w0.heap.size w0 w' ∧ Below W.heap.size W w') ∧ (¬ f = w'.heap.size ∧ ¬ b3 = w'.heap.size ∧ ¬ w'.heap.size = f ∧ ¬ w'.heap.size = b3) ∧ w'.cell? ⟨f, 0, none⟩ = some (.pointer (some ⟨d, 0, none⟩)) ∧ w'.cell? ⟨b3, 0, none⟩ = some (.int .i64 ev.writer) ∧ w'.cell? ⟨b3, 1, none⟩ = some (.int .u64 (ev.seq : Int)) ∧ w'.cell? ⟨b3, 2, none⟩ = some (.int .u64 (ev.time : Int)) ∧ w'.cell? ⟨b3, 3, none⟩ = some (.int .u8 (ev.kind : Int)) ∧ w'.cell? ⟨b3, 4, none⟩ = some (.string ev.key) ∧ w'.cell? ⟨b3, 5, none⟩ = some (.slice Be me ke) ∧ w'.cell? ⟨b3, 6, none⟩ = some (.float .f64 ev.num) ∧ w'.cell? ⟨b3, 7, none⟩ = some (.int .i64 ev.node) := fun W hW => by
    refine (end_any d f x sz floor time (I ++ [r]) safe A c S (hdA acts) j r W (FB W hW) hRl hRj (by omega)).mono ?_
    rintro e w' ⟨rfl, hb⟩
    have hB := hW.trans (hb.mono hW.size)
    exact ⟨by rw [hu0, hn0, hz0, hA0]; rfl, Lib.hid ⟨hB, hb⟩, ⟨by have := hB.size; have := hb0.size; omega, by have := hB.size; omega, by have := hB.size; have := hb0.size; omega, by have := hB.size; omega⟩, (FB w' hB).cells.1, box8 ((hB.block b3 hl3).trans g3)⟩
  have hfiles : appF (hdA acts) (nameL (x : Int) u) (wrap (evL ev)) ((I ++ [r]).map fun r => r.p.file x) = (I.map fun r => r.p.file x) ++ [Part.file x ⟨r.p.u, r.p.L ++ [ev], r.p.N⟩] := by
    have h1 := put_last x (wrap (evL ev)) (I.map SegS.p) r.p (by simpa using hR)
    have h2 := sumA_files x (I ++ [r])
    rw [files_map, List.map_append, List.map_singleton]
    rw [files_map, List.map_append, List.map_singleton] at h2
    unfold appF
    rw [h2]
    have hok : ((((List.map SegS.p I ++ [r.p]).map (Part.z x)).sum : Nat) : Int) + ((wrap (evL ev)).length : Int) ≤ 65536 := by
      rw [List.map_append, List.map_singleton] at hsum
      omega
    rw [if_neg (by simp [hdA]), if_neg (by simp [hdA]), if_pos (show _ ≤ (hdA acts).room from hok)]
    rw [hu0, h1, files_map]
    simp [Part.file, wraps_append, wraps, List.append_assoc]
  have happ : appE (hdA acts) (nameL (x : Int) u) (wrap (evL ev)) ((I ++ [r]).map fun r => r.p.file x) = 0 := by
    unfold appE
    rw [hdA_may, if_pos rfl, sumA_files, if_pos (by simp only [hdA]; omega)]
  have ADDW : ∀ (B : List Nat) (W : World), Below w0.heap.size w0 W → (∀ k ∈ B, (k ∈ bx f A ∨ b3 ≤ k) ∧ k < W.heap.size) → Calls Tryz.prog 48 #[.agg #[.int .i64 (x : Int), .int .u64 (u : Int), .slice rA n n, .int .i64 (z : Int)], .pointer (some ⟨d, 0, none⟩), .agg #[.int .i64 ev.writer, .int .u64 (ev.seq : Int), .int .u64 (ev.time : Int), .int .u8 (ev.kind : Int), .string ev.key, .slice Be me ke, .float .f64 ev.num, .int .i64 ev.node]] W fun e w' => ∃ A8 S9, e = .returned (.tuple #[.agg #[.int .i64 (x : Int), .int .u64 (u : Int), .slice A8 (n + 1) (n + 1), .int .i64 (z' : Int)], .int .i64 0]) ∧
      Hid (ExtSt w d S ((I.map fun r => r.p.file x) ++ [Part.file x ⟨r.p.u, r.p.L ++ [ev], r.p.N⟩]) (hdA (acts + 1)) B A8 (n + 1) (r.p.L ++ [ev]) S9 w' ∧ Beside S W w' ∧ ∀ k ∈ S9, k ∈ S ∨ W.heap.size ≤ k) ∧ w'.cell? ⟨f, 0, none⟩ = some (.pointer (some ⟨d, 0, none⟩)) ∧ w'.cell? ⟨b3, 0, none⟩ = some (.int .i64 ev.writer) ∧ w'.cell? ⟨b3, 1, none⟩ = some (.int .u64 (ev.seq : Int)) ∧ w'.cell? ⟨b3, 2, none⟩ = some (.int .u64 (ev.time : Int)) ∧ w'.cell? ⟨b3, 3, none⟩ = some (.int .u8 (ev.kind : Int)) ∧ w'.cell? ⟨b3, 4, none⟩ = some (.string ev.key) ∧ w'.cell? ⟨b3, 5, none⟩ = some (.slice Be me ke) ∧ w'.cell? ⟨b3, 6, none⟩ = some (.float .f64 ev.num) ∧ w'.cell? ⟨b3, 7, none⟩ = some (.int .i64 ev.node) := by
    intro B W hW hB
    have hbW := hb0.trans (hW.mono hb0.size)
    have hsee := (F.evs r (by simp)).next (B' := S ++ B) (Beside.of_below hbW _) (fun k hk => by
      rcases List.mem_append.1 hk with h | h
      · exact .inl (List.mem_append.2 (.inl h))
      · exact (hB k h).1.imp (fun h => List.mem_append.2 (.inr h)) (fun h => by omega))
    have hc := addS_okB B d S _ (hdA acts) x r.p.u r.A r.p.L.length r.p.L.length (r.p.z x) r.p.L ev Be me ke W (T.below hbW) (F.disk.below hbW) hsee (fun k hk => (hB k hk).2) (hs.below hbW) hout (hdA_fits (by omega)) (by simp [hdA]; omega) (by rw [sumA_files]; omega) (by simp; omega) hx (by omega) (by omega) (by have : r.p.z x ≤ (((I ++ [r]).map SegS.p).map (Part.z x)).sum := le_sum (by simp); omega) hr hfit htx hkey hfo (by rw [← hu0]; exact happ)
    rw [← hu0, hfiles, hdA_act, hpl] at hc
    rw [← hn0, ← hz0, ← hA0] at hc
    unfold segV at hc
    rw [← hz'] at hc
    refine hc.mono ?_
    rintro e w' ⟨A8, S9, rfl, hd8, hb8, hs8, hse8⟩
    refine ⟨A8, S9, rfl, Lib.hid ⟨⟨hd8, (Beside.of_below hbW S).trans hb8 fun k hk => .inl hk, fun k hk => (hs8 k hk).imp id (fun h => Nat.le_trans hbW.size h), hse8⟩, hb8, hs8⟩, ?_, ?_⟩
    · have h0 := (FB W hW).box
      have := (hb8.block f (by have := hbW.size; omega) hfS).trans h0
      rw [cell_of_row w' f _ _ _ _ this]; rfl
    · exact box8 ((hb8.block b3 (by have := hW.size; omega) hn3).trans ((hW.block b3 hl3).trans g3))
  have ADDB : ∀ (b5 : Nat) (W : World), Below w0.heap.size w0 W → W.heap[b5]? = some (.cells #[.int .i64 0, .int .u64 0, .slice none 0 0, .int .i64 0] 65 (0, 0)) → b3 ≤ b5 → Calls Tryz.prog 48 #[.agg #[.int .i64 (x : Int), .int .u64 (u : Int), .slice rA n n, .int .i64 (z : Int)], .pointer (some ⟨d, 0, none⟩), .agg #[.int .i64 ev.writer, .int .u64 (ev.seq : Int), .int .u64 (ev.time : Int), .int .u8 (ev.kind : Int), .string ev.key, .slice Be me ke, .float .f64 ev.num, .int .i64 ev.node]] W fun e w' => ∃ A8 S9, e = .returned (.tuple #[.agg #[.int .i64 (x : Int), .int .u64 (u : Int), .slice A8 (n + 1) (n + 1), .int .i64 (z' : Int)], .int .i64 0]) ∧
      Hid (ExtSt w d S ((I.map fun r => r.p.file x) ++ [Part.file x ⟨r.p.u, r.p.L ++ [ev], r.p.N⟩]) (hdA (acts + 1)) (bx f A ++ [b5]) A8 (n + 1) (r.p.L ++ [ev]) S9 w' ∧ b5 ∉ S9 ∧ b3 ≤ b5 ∧ w'.heap[b5]? = some (.cells #[.int .i64 0, .int .u64 0, .slice none 0 0, .int .i64 0] 65 (0, 0))) ∧ (w'.cell? ⟨b5, 0, none⟩ = some (.int .i64 0) ∧ w'.cell? ⟨b5, 1, none⟩ = some (.int .u64 0) ∧ w'.cell? ⟨b5, 2, none⟩ = some (.slice none 0 0) ∧ w'.cell? ⟨b5, 3, none⟩ = some (.int .i64 0) ∧ w'.frozen? ⟨b5, 0, none⟩ = false ∧ w'.frozen? ⟨b5, 1, none⟩ = false ∧ w'.frozen? ⟨b5, 2, none⟩ = false ∧ w'.frozen? ⟨b5, 3, none⟩ = false ∧ b5 < w'.heap.size) ∧ w'.cell? ⟨f, 0, none⟩ = some (.pointer (some ⟨d, 0, none⟩)) ∧ w'.cell? ⟨b3, 0, none⟩ = some (.int .i64 ev.writer) ∧ w'.cell? ⟨b3, 1, none⟩ = some (.int .u64 (ev.seq : Int)) ∧ w'.cell? ⟨b3, 2, none⟩ = some (.int .u64 (ev.time : Int)) ∧ w'.cell? ⟨b3, 3, none⟩ = some (.int .u8 (ev.kind : Int)) ∧ w'.cell? ⟨b3, 4, none⟩ = some (.string ev.key) ∧ w'.cell? ⟨b3, 5, none⟩ = some (.slice Be me ke) ∧ w'.cell? ⟨b3, 6, none⟩ = some (.float .f64 ev.num) ∧ w'.cell? ⟨b3, 7, none⟩ = some (.int .i64 ev.node) := by
    intro b5 W hW hz hb5
    have hlt5 := (Array.getElem?_eq_some_iff.1 hz).1
    have hn5 : b5 ∉ S := fun hm => by have := hSl _ hm; omega
    refine (ADDW (bx f A ++ [b5]) W hW (fun k hk => ?_)).mono ?_
    · rcases List.mem_append.1 hk with h | h
      · exact ⟨.inl h, by have := bx_lt F k h; have := hb0.size; have := hW.size; omega⟩
      · simp at h; subst h; exact ⟨.inr hb5, hlt5⟩
    rintro e w' ⟨A8, S9, rfl, HA, HC⟩
    obtain ⟨h1, h2, h3⟩ := HA.out
    have h5 := (h2.block b5 hlt5 hn5).trans hz
    have h4 := b4cells h5
    exact ⟨A8, S9, rfl, Lib.hid ⟨h1, fun hm => (h3 _ hm).elim hn5 (fun h => by omega), hb5, h5⟩, ⟨h4.1, h4.2.1, h4.2.2.1, h4.2.2.2, frozen_row0 h5, frozen_row0 h5, frozen_row0 h5, frozen_row0 h5, (Array.getElem?_eq_some_iff.1 h5).1⟩, HC⟩
  have ADDN : ∀ (W : World), Below w0.heap.size w0 W → Calls Tryz.prog 48 #[.agg #[.int .i64 (x : Int), .int .u64 (u : Int), .slice rA n n, .int .i64 (z : Int)], .pointer (some ⟨d, 0, none⟩), .agg #[.int .i64 ev.writer, .int .u64 (ev.seq : Int), .int .u64 (ev.time : Int), .int .u8 (ev.kind : Int), .string ev.key, .slice Be me ke, .float .f64 ev.num, .int .i64 ev.node]] W fun e w' => ∃ A8 S9, e = .returned (.tuple #[.agg #[.int .i64 (x : Int), .int .u64 (u : Int), .slice A8 (n + 1) (n + 1), .int .i64 (z' : Int)], .int .i64 0]) ∧
      Hid (ExtSt w d S ((I.map fun r => r.p.file x) ++ [Part.file x ⟨r.p.u, r.p.L ++ [ev], r.p.N⟩]) (hdA (acts + 1)) (bx f A) A8 (n + 1) (r.p.L ++ [ev]) S9 w') ∧ (¬ f = w'.heap.size ∧ ¬ b3 = w'.heap.size ∧ ¬ w'.heap.size = f ∧ ¬ w'.heap.size = b3) ∧ w'.cell? ⟨f, 0, none⟩ = some (.pointer (some ⟨d, 0, none⟩)) ∧ w'.cell? ⟨b3, 0, none⟩ = some (.int .i64 ev.writer) ∧ w'.cell? ⟨b3, 1, none⟩ = some (.int .u64 (ev.seq : Int)) ∧ w'.cell? ⟨b3, 2, none⟩ = some (.int .u64 (ev.time : Int)) ∧ w'.cell? ⟨b3, 3, none⟩ = some (.int .u8 (ev.kind : Int)) ∧ w'.cell? ⟨b3, 4, none⟩ = some (.string ev.key) ∧ w'.cell? ⟨b3, 5, none⟩ = some (.slice Be me ke) ∧ w'.cell? ⟨b3, 6, none⟩ = some (.float .f64 ev.num) ∧ w'.cell? ⟨b3, 7, none⟩ = some (.int .i64 ev.node) := by
    intro W hW
    refine (ADDW (bx f A) W hW (fun k hk => ⟨.inl hk, by have := bx_lt F k hk; have := hb0.size; have := hW.size; omega⟩)).mono ?_
    rintro e w' ⟨A8, S9, rfl, HA, HC⟩
    have hwz := HA.out.2.1.size
    exact ⟨A8, S9, rfl, Lib.hid HA.out.1, ⟨by have := hW.size; have := hb0.size; omega, by have := hW.size; omega, by have := hW.size; have := hb0.size; omega, by have := hW.size; omega⟩, HC⟩
  obtain ⟨c0, _⟩ := (FB w0 (Below.refl _ _)).cells
  obtain ⟨e0, e1, e2, e3, e4, e5, e6, e7⟩ := box8 g3
  have m0 : ¬ f = w0.heap.size := by have := hb0.size; omega
  have m3 : ¬ b3 = w0.heap.size := by omega
  have m0' : ¬ w0.heap.size = f := by have := hb0.size; omega
  have m3' : ¬ w0.heap.size = b3 := by omega
  have hwb : b3 ≤ w0.heap.size := by omega
  have HF := Lib.hid F
  have HRS := Lib.hid hR
  have HB3 := Lib.hid hb3
  have HSUM := Lib.hid hsum
  clear F hR hj hu0 hn0 hz0 hA0 hz' hRl hRj FB ADDW hfiles happ hs hout hr hfit hfo hpl hu hsum hb3 hb0 g3 hn3 hfw hfS hSl hl3
  refine wp_then (K := fun a W => ∃ (b5 : Nat) (A8 : Option Addr) (S9 : List Nat) (y2 y7 y8 y9 y10 y11 y12 y13 y14 y15 y16 y17 y18 y19 y20 y21 y22 y23 y24 y25 y26 y27 y28 y29 y30 y31 y32 : Value), a = { tmps := #[Value.pointer (some ⟨f, 0, none⟩), Value.agg #[.int .i64 ev.writer, .int .u64 (ev.seq : Int), .int .u64 (ev.time : Int), .int .u8 (ev.kind : Int), .string ev.key, .slice Be me ke, .float .f64 ev.num, .int .i64 ev.node], y2, Value.pointer (some ⟨b3, 0, none⟩), Value.int .i64 0, Value.pointer (some ⟨b5, 0, none⟩), Value.int .i64 0, y7, y8, y9, y10, y11, y12, y13, y14, y15, y16, y17, y18, y19, y20, y21, y22, y23, y24, y25, y26, y27, y28, y29, y30, y31, y32], defers := [] } ∧ Hid (ExtSt w d S ((I.map fun r => r.p.file x) ++ [Part.file x ⟨r.p.u, r.p.L ++ [ev], r.p.N⟩]) (hdA (acts + 1)) (bx f A ++ [b5]) A8 (n + 1) (r.p.L ++ [ev]) S9 W ∧ b5 ∉ S9 ∧ b3 ≤ b5 ∧ W.heap[b5]? = some (.cells #[.int .i64 (x : Int), .int .u64 (u : Int), .slice A8 (n + 1) (n + 1), .int .i64 (z' : Int)] 65 (0, 0)))) ?after ?region
  case region =>
    go_region_held3 (fun w' => w'.cell? ⟨f, 0, none⟩ = some (.pointer (some ⟨d, 0, none⟩)) ∧ w'.cell? ⟨b3, 0, none⟩ = some (.int .i64 ev.writer) ∧ w'.cell? ⟨b3, 1, none⟩ = some (.int .u64 (ev.seq : Int)) ∧ w'.cell? ⟨b3, 2, none⟩ = some (.int .u64 (ev.time : Int)) ∧ w'.cell? ⟨b3, 3, none⟩ = some (.int .u8 (ev.kind : Int)) ∧ w'.cell? ⟨b3, 4, none⟩ = some (.string ev.key) ∧ w'.cell? ⟨b3, 5, none⟩ = some (.slice Be me ke) ∧ w'.cell? ⟨b3, 6, none⟩ = some (.float .f64 ev.num) ∧ w'.cell? ⟨b3, 7, none⟩ = some (.int .i64 ev.node)) (go_keep)
     (first
      | (go_at_call 38
         refine (E1 _ ?h0).mono ?_
         case h0 => first | exact Below.refl _ _ | exact (Below.refl _ _).drew | exact (Below.refl _ _).alloc (Nat.le_refl _) _ | exact (Below.refl _ _).drew.alloc (Nat.le_refl _) _
         rintro e w6 ⟨rfl, HE, ⟨n0', n1', n2', n3'⟩, c0, e0, e1, e2, e3, e4, e5, e6, e7⟩)
      | (go_at_call 48
         first
           | refine (ADDB w6.heap.size _ ?h2 (heap_alloc_new _ _) (Nat.le_trans hwb HE.out.1.size)).mono ?_
           | refine (ADDB w0.heap.size _ ?h2 ((HE.out.2.block _ (by simp)).trans (heap_alloc_new _ _)) hwb).mono ?_
         case h2 => first | exact HE.out.1 | exact HE.out.1.alloc HE.out.1.size _
         rintro e w8 ⟨A8, S9, rfl, HX, ⟨z0, z1, z2, z3, f0, f1, f2, f3, hz8⟩, c0, e0, e1, e2, e3, e4, e5, e6, e7⟩)
      | (go_at_call 48
         refine (ADDN _ ?h2).mono ?_
         case h2 => exact HE.out.1
         rintro e w8 ⟨A8, S9, rfl, HX, ⟨n0', n1', n2', n3'⟩, c0, e0, e1, e2, e3, e4, e5, e6, e7⟩))
    · have hn9 : w8.heap.size ∉ S9 := fun hm => by have := HX.out.disk.lt _ hm; omega
      have hwz : w.heap.size ≤ w8.heap.size := HX.out.bes.size
      exact ⟨w8.heap.size, A8, S9, _, _, _, _, _, _, _, _, _, _, _, _, _, _, _, _, _, _, _, _, _, _, _, _, _, _, _, rfl, Lib.hid ⟨HX.out.alloc _, hn9, by have := HB3.out; omega, heap_alloc_new w8 _⟩⟩
    all_goals
      obtain ⟨h1, h2, h3, h4⟩ := HX.out
      have hq := set_four 65 _ _ (.int .i64 0) (.int .u64 0) (.slice none 0 0) (.int .i64 0) (.int .i64 (x : Int)) (.int .u64 (u : Int)) (.slice A8 (n + 1) (n + 1)) (.int .i64 (z' : Int)) h4
      exact ⟨_, A8, S9, _, _, _, _, _, _, _, _, _, _, _, _, _, _, _, _, _, _, _, _, _, _, _, _, _, _, _, rfl, Lib.hid ⟨h1.turn hq.2 h2 (by simp) (by have := HB3.out; omega), h2, h3, hq.1⟩⟩
  case after =>
    rintro a W ⟨b5, A8, S9, y2, y7, y8, y9, y10, y11, y12, y13, y14, y15, y16, y17, y18, y19, y20, y21, y22, y23, y24, y25, y26, y27, y28, y29, y30, y31, y32, rfl, HX⟩
    simp only []
    obtain ⟨hE, hn9, hb5, g5⟩ := HX.out
    have F := HF.out
    have hfS := F.fS
    have hfl : f < w.heap.size := F.lt f (by simp)
    have boxW := (hE.bes.block f hfl hfS).trans F.box
    have rowW := own_kept F.row fun g hg => hE.bes.block g (F.lt g (by simp [hg])) (F.aS g hg).1
    rw [HRl.out] at boxW rowW
    obtain ⟨g, hA, _⟩ := own_at8 rowW (by omega)
    have hgb : g ∈ blk A := by rw [hA]; simp [blk]
    have hgw : g < w.heap.size := F.lt g (by simp [hgb])
    have hgS : g ∉ S := (F.aS g hgb).1
    have hgf : g ≠ f := (F.aS g hgb).2
    have hg9 : g ∉ S9 := fun hm => (hE.sub g hm).elim hgS (fun h => by omega)
    have hf9 : f ∉ S9 := fun hm => (hE.sub f hm).elim hfS (fun h => by omega)
    obtain ⟨cur, hh, hct⟩ : ∃ cur, W.heap[g]? = some (.cells cur 65 (0, 0)) ∧ cur.toList.take ((j + 1) * 4) = rowsS x (I ++ [r]) := by
      rcases rowW.2 with ⟨_, h0⟩ | ⟨g', cap, cur, hv, _, hh, _, _, _, ht⟩
      · omega
      · injection hv with h1
        rw [hA] at h1
        injection h1 with h1
        injection h1 with h1
        subst h1
        exact ⟨cur, hh, ht⟩
    have hcells : ∀ k, k < 4 → ∃ v, W.cell? ⟨g, j * 4 + k, none⟩ = some v := by
      intro k hk
      have h4 := rowsS_get x (I ++ [r]) j k r HRj.out hk
      have : ∃ v, (r.cells x)[k]? = some v := ⟨_, List.getElem?_eq_getElem (by simp [SegS.cells]; omega)⟩
      obtain ⟨v, hv⟩ := this
      rw [hv, ← hct, List.getElem?_take] at h4
      split at h4
      · exact ⟨v, by rw [cell_of_row W g _ _ _ _ hh]; simpa using h4⟩
      · cases h4
    obtain ⟨v0, k0⟩ := hcells 0 (by omega)
    obtain ⟨v1, k1⟩ := hcells 1 (by omega)
    obtain ⟨v2, k2⟩ := hcells 2 (by omega)
    obtain ⟨v3, k3⟩ := hcells 3 (by omega)
    rw [Nat.add_zero] at k0
    have y0 := frozen_row0 (i := j * 4) hh
    have y1 := frozen_row0 (i := j * 4 + 1) hh
    have y2' := frozen_row0 (i := j * 4 + 2) hh
    have y3 := frozen_row0 (i := j * 4 + 3) hh
    obtain ⟨q0, q1, q2, q3⟩ := b4cells g5
    have c5 : W.cell? ⟨f, 5, none⟩ = some (.slice A (j + 1) c) := by rw [cell_of_row W f _ _ _ _ boxW]; rfl
    have hw1 : IntKind.i64.wrap (((j + 1 : Nat) : Int) - 1) = (j : Int) := by have := HJ.out; rw [IntKind.wrap_i64]; omega
    have hjj : j < j + 1 := by omega
    have HRW := Lib.hid rowW
    have HBX := Lib.hid boxW
    have HAg := Lib.hid hA
    subst hA
    obtain ⟨jn, hjn⟩ : ∃ jn, jn = j + 1 := ⟨_, rfl⟩
    rw [← hjn] at c5 hw1 hjj
    have HJN := Lib.hid hjn
    clear c0 e0 e1 e2 e3 e4 e5 e6 e7 hE g5 F hcells hct hh boxW rowW hjn
    go_wp2_with fail
    go_still_tail 12, (by kernel_rfl)
    change wpList _ _ _ _ _ W.drew
    go_wp2
    go_ret
    have F := HF.out
    obtain ⟨hE, _, _, _⟩ := HX.out
    have hlen : (r.p.L ++ [ev]).length = n + 1 := by rw [List.length_append, ← HN.out]; rfl
    have hz1 : Part.z x ⟨r.p.u, r.p.L ++ [ev], r.p.N⟩ = z' := by
      rw [HZ.out, HZ0.out]
      simp only [Part.z, List.map_append, wraps_append, List.length_append, List.map_cons, List.map_nil]
      simp [wraps]
      omega
    have hbg : Beside [g] W ((((W.setCell ⟨g, j * 4, none⟩ (.int .i64 (x : Int))).setCell ⟨g, j * 4 + 1, none⟩ (.int .u64 (u : Int))).setCell ⟨g, j * 4 + 2, none⟩ (.slice A8 (n + 1) (n + 1))).setCell ⟨g, j * 4 + 3, none⟩ (.int .i64 (z' : Int))) :=
      ((((Beside.refl _ _).setCell (by simp) _).setCell (by simp) _).setCell (by simp) _).setCell (by simp) _
    have hrl := row_last (r' := ⟨⟨r.p.u, r.p.L ++ [ev], r.p.N⟩, A8⟩) (g := g) HRW.out HJ.out.symm rfl (v0 := .int .i64 (x : Int)) (v1 := .int .u64 (u : Int)) (v2 := .slice A8 (n + 1) (n + 1)) (v3 := .int .i64 (z' : Int)) (by simp only [SegS.cells]; rw [hlen, hz1, HU.out])
    have hRl' : (I ++ [(⟨⟨r.p.u, r.p.L ++ [ev], r.p.N⟩, A8⟩ : SegS)]).length = j + 1 := by simp [HJ.out]
    generalize ((((W.setCell ⟨g, j * 4, none⟩ (.int .i64 (x : Int))).setCell ⟨g, j * 4 + 1, none⟩ (.int .u64 (u : Int))).setCell ⟨g, j * 4 + 2, none⟩ (.slice A8 (n + 1) (n + 1))).setCell ⟨g, j * 4 + 3, none⟩ (.int .i64 (z' : Int))) = W4 at hbg hrl ⊢
    have hO4 : Beside (S ++ f :: blk (some ⟨g, 0, none⟩)) w W4 := (hE.bes.wider (S1 := S ++ f :: blk (some ⟨g, 0, none⟩)) fun k hk => .inl (List.mem_append.2 (.inl hk))).trans hbg fun k hk => .inl (by simp at hk; subst hk; exact List.mem_append.2 (.inr (by simp [blk])))
    have F4 : FeedAt W4 d f x sz floor time (I ++ [⟨⟨r.p.u, r.p.L ++ [ev], r.p.N⟩, A8⟩]) safe (some ⟨g, 0, none⟩) c S9 (hdA (acts + 1)) := by
      refine ⟨?_, ?_, ?_, ?_, hf9, fun k hk => ?_, fun k hk => Nat.lt_of_lt_of_le (F.xl k hk) hO4.size⟩
      · have := hE.disk.beside hbg (fun k hk hm => by simp at hk; subst hk; exact hg9 hm)
        rw [List.map_append, List.map_singleton]
        exact this
      · rw [hRl']
        exact (hbg.block f (by have := hE.bes.size; omega) (by simp; exact fun h => hgf h.symm)).trans HBX.out
      · rw [hRl']
        exact hrl
      · intro r0 h0
        rcases List.mem_append.1 h0 with h0 | h0
        · refine (F.evs r0 (by simp [h0])).next (hO4.wider fun k hk => .inl (bx_in hk)) fun k hk => ?_
          rcases List.mem_append.1 hk with h | h
          · exact (hE.sub k h).imp (fun h => List.mem_append.2 (.inl h)) id
          · exact .inl (List.mem_append.2 (.inr h))
        · simp at h0
          subst h0
          have := hE.sees.next (B' := S9 ++ bx f (some ⟨g, 0, none⟩)) (hbg.wider fun k hk => .inl (by simp at hk; subst hk; simp [blk, bx])) fun k hk => .inl (by
            rcases List.mem_append.1 hk with h | h
            · exact List.mem_append.2 (.inl h)
            · exact List.mem_append.2 (.inr (List.mem_append.2 (.inl h))))
          rw [← hlen] at this
          exact this
      · simp [blk] at hk
        subst hk
        exact ⟨hg9, hgf⟩
    exact ⟨rfl, A8, S9, F4.below (Below.refl _ _).drew, hO4.drew, hE.sub⟩
end Go.Proofs.YtkphklmgbdljiaaGreatDoor.Fd
