/- Texts of the law ReplicaNil, put together. -/
import Derived.Deep.AppendLies
import Derived.Test.YtinjbdgjcadodaaGreatDoorRNp29
set_option linter.unusedVariables false
set_option linter.unusedSimpArgs false
set_option maxRecDepth 100000
namespace Go.Proofs.YtinjbdgjcadodaaGreatDoor.Fd
open Go Go.RowKit Words Enc Evt Go.Proofs.YtinjbdgjcadodaaGreatDoor.Made Dsk Sht Seg
theorem put_new (s q : List UInt8) : ∀ fs : List File, (∀ f ∈ fs, f.name ≠ s) → put s q fs = fs ++ [⟨s, q, 0⟩]
 | [], _ => rfl
 | a :: r, h => by
   rw [put, if_neg (h a (by simp)), put_new s q r fun f hf => h f (by simp [hf])]
   rfl
def part0 (x u : Nat) (N : Nat) : Part := ⟨u, [], N⟩
theorem part0_file (x u N : Nat) : (part0 x u N).file x = ⟨nameL (x : Int) u, headL 115 x u, N⟩ := by simp [part0, Part.file, wraps]
theorem upd_last (s : List UInt8) (g : File → File) (fs : List File) (a : File) (h : ∀ f ∈ fs, f.name ≠ s) (ha : a.name = s) : upd s g (fs ++ [a]) = fs ++ [g a] := by
 unfold upd
 rw [List.map_append, List.map_singleton, if_pos ha]
 congr 1
 conv => rhs; rw [← List.map_id fs]
 refine List.map_congr_left fun f hf => ?_
 rw [if_neg (h f hf)]
 rfl
theorem look_new (s : List UInt8) (fs : List File) (h : ∀ f ∈ fs, f.name ≠ s) : lookA s fs = none := by
 unfold lookA
 rw [List.find?_eq_none]
 intro f hf
 simp [h f hf]
theorem sumA_parts (x : Nat) : ∀ P : List Part, sumA (P.map (Part.file x)) = (P.map (Part.z x)).sum
 | [] => rfl
 | p :: P => by
   have := sumA_parts x P
   simp only [List.map_cons, sumA, List.sum_cons, this]
   simp [Part.file, Part.z, List.length_append]
theorem names_new [Inhabited XS] {x u : Nat} {P : List Part} (hu : u < 18446744073709551616) (hR : ∀ p ∈ P, p.u < u) : ∀ f ∈ xsO x ++ P.map (Part.file x), f.name ≠ nameL (x : Int) u := fun f hf he => by
 rcases List.mem_append.1 hf with hf | hf
 ·exact xs_ne u f hf he
 obtain ⟨p, hp, rfl⟩ := List.mem_map.1 hf
 have h1 := hR p hp
 have := nameL_inj (by omega) hu he
 omega
theorem app_new [Inhabited XS] {x u acts : Nat} {P : List Part} (hu : u < 18446744073709551616) (hR : ∀ p ∈ P, p.u < u) (hr : sumA (xsO x) + (P.map (Part.z x)).sum + (headL 115 x u).length ≤ xsC) : appF (hdA acts) (nameL (x : Int) u) (headL 115 x u) (xsO x ++ P.map (Part.file x)) = (xsO x ++ P.map (Part.file x)) ++ [⟨nameL (x : Int) u, headL 115 x u, 0⟩] ∧ appE (hdA acts) (nameL (x : Int) u) (headL 115 x u) (xsO x ++ P.map (Part.file x)) = 0 := by
 have hs : (sumA (xsO x ++ P.map (Part.file x)) : Int) + ((headL 115 x u).length : Int) ≤ (hdA acts).room := by
  rw [sumA_append, sumA_parts]
  show _ ≤ ((xsC : Nat) : Int)
  omega
 constructor
 ·unfold appF
  rw [if_neg (by simp [hdA]), if_neg (by simp [hdA]), if_pos hs, put_new _ _ _ (names_new hu hR)]
 ·unfold appE
  rw [hdA_may, if_pos rfl, if_pos hs]
theorem begin_new [Inhabited XS] {x u acts : Nat} {P : List Part} (hu : u < 18446744073709551616) (hR : ∀ p ∈ P, p.u < u) (hr : sumA (xsO x) + (P.map (Part.z x)).sum + (headL 115 x u).length ≤ xsC) : beginR (hdA acts) (nameL (x : Int) u) (headL 115 x u) (xsO x ++ P.map (Part.file x)) = (0, xsO x ++ (P ++ [part0 x u (headL 115 x u).length]).map (Part.file x), hdA (acts + 2)) := by
 obtain ⟨h1, h2⟩ := app_new (acts := acts) hu hR hr
 have hn := names_new (x := x) hu hR
 unfold beginR
 have he : readE (hdA acts) (nameL (x : Int) u) (xsO x ++ P.map (Part.file x)) = 2 := by
  unfold readE
  rw [if_neg (by simp [hdA]), look_new _ _ hn]
  rfl
 rw [he, if_neg (by decide)]
 unfold createR
 rw [h2, if_pos rfl, h1, hdA_act, hdA_act]
 unfold thereE thereF
 rw [hdA_may, if_pos rfl, if_pos rfl, upd_last _ _ _ _ hn rfl, List.map_append, List.map_singleton, part0_file]
 have hl : lookA (nameL (x : Int) u) (xsO x ++ P.map (Part.file x) ++ [⟨nameL (x : Int) u, headL 115 x u, 0⟩]) = some ⟨nameL (x : Int) u, headL 115 x u, 0⟩ := by
  have := look_new _ _ hn
  unfold lookA at this ⊢
  rw [List.find?_append, this]
  simp
 rw [hl, List.append_assoc]
 rfl
theorem app_ev [Inhabited XS] {x u acts : Nat} {P : List Part} {ev : Ev} (hp : evL (plainE ev) = evL ev) (hR : Rise (P ++ [part0 x u (headL 115 x u).length])) (hr : sumA (xsO x) + (P.map (Part.z x)).sum + (headL 115 x u).length + (wrap (evL ev)).length ≤ xsC) :
  appF (hdA acts) (nameL (x : Int) u) (wrap (evL ev)) (xsO x ++ (P ++ [part0 x u (headL 115 x u).length]).map (Part.file x)) = xsO x ++ (P ++ [(⟨u, [plainE ev], (headL 115 x u).length⟩ : Part)]).map (Part.file x) ∧ appE (hdA acts) (nameL (x : Int) u) (wrap (evL ev)) (xsO x ++ (P ++ [part0 x u (headL 115 x u).length]).map (Part.file x)) = 0 := by
 have hz : ((P ++ [part0 x u (headL 115 x u).length]).map (Part.z x)).sum = (P.map (Part.z x)).sum + (headL 115 x u).length := by simp [part0, Part.z, wraps]
 have hs : (sumA (xsO x ++ (P ++ [part0 x u (headL 115 x u).length]).map (Part.file x)) : Int) + ((wrap (evL ev)).length : Int) ≤ (hdA acts).room := by
  rw [sumA_append, sumA_parts, hz]
  show _ ≤ ((xsC : Nat) : Int)
  omega
 constructor
 ·unfold appF
  have := put_last x (wrap (evL ev)) P _ hR
  rw [if_neg (by simp [hdA]), if_neg (by simp [hdA]), if_pos hs, put_xs, show nameL (x : Int) u = nameL (x : Int) (part0 x u (headL 115 x u).length).u from rfl, this, List.map_append, List.map_singleton, part0_file]
  simp [Part.file, part0, wraps, hp]
 ·unfold appE
  rw [hdA_may, if_pos rfl, if_pos hs]
theorem sum_full0 (x u : Nat) (P : List Part) : (((P.map (Part.full x)) ++ [part0 x u (headL 115 x u).length]).map (Part.z x)).sum = (P.map (Part.z x)).sum + (headL 115 x u).length := by
 have e : (P.map (Part.full x)).map (Part.z x) = P.map (Part.z x) := by rw [List.map_map]; rfl
 rw [List.map_append, e]
 simp [part0, Part.z, wraps]
structure CreSt (w : World) (d : Nat) (S : List Nat) (files : List File) (h : Hd) (S2 : List Nat) (W : World) : Prop where
 disk : Disk W d S2 files h
 bes : Beside S w W
 sub : ∀ k ∈ S2, k ∈ S ∨ w.heap.size ≤ k
set_option maxHeartbeats 40000000 in
theorem begin_gen [Inhabited XS] (d f x : Nat) (sz : Int) (floor time : Nat) (P : List Part) (safe acts : Nat) (O : List Nat) (ev : Ev) (Be : Option Addr) (me ke : Nat) (w : World) (F : Feed w d f x sz floor time P safe O (hdA acts)) (T : TabsOn O w) (hR : Rise P) (hx : x < 64) (hn : P.length ≤ 1000) (hsf : safe ≤ P.length) (hac : acts ≤ 40000) (h1 : ∀ p ∈ P, p.N ≤ p.z x) (h2 : ∀ p ∈ P.take safe, p.N = p.z x)
  (hs : Sees w Be me ev.text) (hout : Out O Be me) (hr : Right ev) (hfit : ev.Fit) (htx : ev.text.length ≤ 1048576) (hkey : ev.key.size ≤ 1048576) (hwr : ev.writer = (x : Int)) (hu : 1 ≤ ev.seq ∧ ev.seq < 100000) (hup : ∀ p ∈ P, p.u < ev.seq) (hsum : sumA (xsO x) + (P.map (Part.z x)).sum + (headL 115 x ev.seq).length + (wrap (evL ev)).length ≤ xsC) :
  Calls Tryz.prog 124 #[.pointer (some ⟨f, 0, none⟩), ev.val Be me ke] w fun e w' => e = .returned (.int .i64 0) ∧ ∃ acts', acts' ≤ acts + P.length + 3 ∧ FNext O w d f x sz floor time (P.map (Part.full x) ++ [⟨ev.seq, [plainE ev], (headL 115 x ev.seq).length⟩]) (P.length - 1) acts' w' := by
 have hxc := xs_cap
 have hb0 := (Below.refl w.heap.size w).alloc (Nat.le_refl _) (.cells (ev.row Be me ke) 38)
 have g3 := heap_alloc_new w (.cells (ev.row Be me ke) 38)
 have hsf2 := store_float Tryz.prog
 have HWR := Lib.hid hwr
 have hpe : evL (plainE ev) = evL ev := plain_evL hr.k1
 have HPE := Lib.hid hpe
 clear hwr hpe
 unfold Ev.row at hb0 g3
 unfold Ev.val
 go_enter Tryz.func124, Tryz.ntmps124
 go_upto_region 1 with fail
 generalize w.alloc (.cells #[.int .i64 ev.writer, .int .u64 (ev.seq : Int), .int .u64 (ev.time : Int), .int .u8 (ev.kind : Int), .string ev.key, .slice Be me ke, .float .f64 ev.num, .int .i64 ev.node] 38) = w0 at hb0 g3 ⊢
 obtain ⟨b3, hb3⟩ : ∃ b3, b3 = w.heap.size := ⟨_, rfl⟩
 rw [← hb3] at g3 ⊢
 have hl3 : b3 < w0.heap.size := (Array.getElem?_eq_some_iff.1 g3).1
 have hO3 : b3 ∉ O := fun hm => by have := F.lt _ hm; omega
 have hsync := sync_any d f x sz floor time P safe acts O w0 (F.below hb0) (T.below hb0) hR hx hn hsf (by omega) (by omega) h1 h2
 have HB3 := Lib.hid hb3
 have HB0 := Lib.hid hb0
 have HS := Lib.hid hs
 clear hb3 F
 go_wp2_with fail
 refine hsync.mono ?_
 rintro e w1 ⟨rfl, a1, ha1, O1, F1, hbS, hkS⟩
 have g31 := (hbS.block b3 hl3 hO3).trans g3
 have hs0 := HS.out.below HB0.out
 have hs1 := hs0.beside hbS hout
 have hout1 := Out.next hout hs0 hkS
 have T1 := (T.below HB0.out).next hbS hkS
 have hO13 : b3 ∉ O1 := fun hm => (hkS _ hm).elim hO3 (fun h => by omega)
 obtain ⟨R, A, c, S, hRP, hO1, F1⟩ := F1
 have hSO : ∀ k ∈ S, k ∈ O1 := fun k hk => by rw [hO1]; exact List.mem_append.2 (.inl hk)
 have hoS : Out S Be me := fun h0 a ha hm => hout1 h0 a ha (hSO _ hm)
 have TS := TabsOn.sub T1 hSO
 obtain ⟨hl, hhl⟩ : ∃ hl, hl = (headL 115 x ev.seq).length := ⟨_, rfl⟩
 obtain ⟨z', hz'⟩ : ∃ z', z' = hl + (wrap (evL ev)).length := ⟨_, rfl⟩
 have hRl : R.length = P.length := by rw [← List.length_map (f := SegS.p), hRP, List.length_map]
 have hzz : ((P.map (Part.full x)).map (Part.z x)) = P.map (Part.z x) := by rw [List.map_map]; rfl
 have hupf : ∀ p ∈ P.map (Part.full x), p.u < ev.seq := fun p hp => by
  obtain ⟨q, hq, rfl⟩ := List.mem_map.1 hp
  exact hup q hq
 have hfiles : (R.map fun r => r.p.file x) = (P.map (Part.full x)).map (Part.file x) := by rw [files_map, hRP]
 have hRf : Rise (P.map (Part.full x)) := by
  refine ⟨?_, fun p hp => ?_⟩
  ·rw [List.pairwise_map]; exact hR.1
  ·obtain ⟨q, hq, rfl⟩ := List.mem_map.1 hp; exact hR.2 q hq
 have hR0 : Rise (P.map (Part.full x) ++ [part0 x ev.seq (headL 115 x ev.seq).length]) := by
  refine ⟨?_, fun p hp => ?_⟩
  ·rw [List.pairwise_append]
   exact ⟨hRf.1, List.pairwise_singleton _ _, fun a ha b hb => by simp at hb; subst hb; exact hupf a ha⟩
  ·rcases List.mem_append.1 hp with h | h
   ·exact hRf.2 p h
   ·simp at h; subst h; show ev.seq < _; omega
 have hbn := begin_new (acts := a1) (by omega) hupf (by rw [hzz]; omega)
 have han := app_new (acts := a1) (by omega) hupf (by rw [hzz]; omega)
 have hae := app_ev HPE.out (acts := a1 + 2) (ev := ev) hR0 (by rw [hzz]; omega)
 have hfl1 : f < w1.heap.size := F1.lt f (by simp)
 have hl31 : b3 < w1.heap.size := (Array.getElem?_eq_some_iff.1 g31).1
 have hS3 : b3 ∉ S := fun hm => hO13 (hSO _ hm)
 have hfb : ¬ f = b3 := fun h => hO13 (by rw [hO1]; exact List.mem_append.2 (.inr (by simp [h])))
 have CREW : ∀ (W : World), Below w1.heap.size w1 W → Calls Tryz.prog 190 #[.pointer (some ⟨d, 0, none⟩), .int .i64 (x : Int), .int .u64 (ev.seq : Int)] W fun e w' => ∃ S2, e = .returned (.tuple #[.agg #[.int .i64 (x : Int), .int .u64 (ev.seq : Int), .slice none 0 0, .int .i64 (hl : Int)], .int .i64 0]) ∧
   Hid (CreSt w1 d S (xsO x ++ (P.map (Part.full x) ++ [part0 x ev.seq (headL 115 x ev.seq).length]).map (Part.file x)) (hdA (a1 + 2)) S2 w' ∧ Beside S W w' ∧ ∀ k ∈ S2, k ∈ S ∨ W.heap.size ≤ k) ∧ w'.cell? ⟨f, 0, none⟩ = some (.pointer (some ⟨d, 0, none⟩)) ∧ w'.cell? ⟨f, 1, none⟩ = some (.int .i64 (x : Int)) ∧ w'.cell? ⟨b3, 1, none⟩ = some (.int .u64 (ev.seq : Int)) := by
  intro W hW
  have FX := F1.below hW
  have hd := FX.disk
  rw [hfiles] at hd
  have hc := create_ok d S _ _ (hdA a1) (hdA (a1 + 2)) x ev.seq W (TS.below hW) hx (by omega) (by omega) hd (hdA_fits (by omega)) (by simp [hdA]; omega) (by have hxf := xs_few x; have hxc := xs_cap; rw [sumA_append, sumA_parts, hzz]; omega) (by have hxf := xs_few x; have hxc := xs_cap; rw [han.1, sumA_append, sumA_append, sumA_parts, hzz]; simp [sumA]; omega) (by have hxf := xs_few x; have hxc := xs_cap; simp; omega) hbn
  unfold segV at hc
  refine hc.mono ?_
  rintro e w' ⟨rfl, S2, hd2, hb2, hk2⟩
  have hq3 := (hb2.block b3 (by have := hW.size; omega) hS3).trans ((hW.block b3 hl31).trans g31)
  have hqf := (hb2.block f (by have := hW.size; omega) FX.fS).trans FX.box
  exact ⟨S2, by rw [hhl], Lib.hid ⟨⟨hd2, (Beside.of_below hW S).trans hb2 fun k hk => .inl hk, fun k hk => (hk2 k hk).imp id (fun h => Nat.le_trans hW.size h)⟩, hb2, hk2⟩, by rw [cell_of_row w' f _ _ _ _ hqf]; rfl, by rw [cell_of_row w' f _ _ _ _ hqf]; rfl, (box8 hq3).2.1⟩
 have CREB : ∀ (b6 : Nat) (W : World), Below w1.heap.size w1 W → W.heap[b6]? = some (.cells #[.int .i64 0, .int .u64 0, .slice none 0 0, .int .i64 0] 134 (0, 0)) → w1.heap.size ≤ b6 → Calls Tryz.prog 190 #[.pointer (some ⟨d, 0, none⟩), .int .i64 (x : Int), .int .u64 (ev.seq : Int)] W fun e w' => ∃ S2, e = .returned (.tuple #[.agg #[.int .i64 (x : Int), .int .u64 (ev.seq : Int), .slice none 0 0, .int .i64 (hl : Int)], .int .i64 0]) ∧
   Hid (CreSt w1 d S (xsO x ++ (P.map (Part.full x) ++ [part0 x ev.seq (headL 115 x ev.seq).length]).map (Part.file x)) (hdA (a1 + 2)) S2 w' ∧ b6 ∉ S2 ∧ w1.heap.size ≤ b6 ∧ w'.heap[b6]? = some (.cells #[.int .i64 0, .int .u64 0, .slice none 0 0, .int .i64 0] 134 (0, 0))) ∧ (w'.cell? ⟨b6, 0, none⟩ = some (.int .i64 0) ∧ w'.cell? ⟨b6, 1, none⟩ = some (.int .u64 0) ∧ w'.cell? ⟨b6, 2, none⟩ = some (.slice none 0 0) ∧ w'.cell? ⟨b6, 3, none⟩ = some (.int .i64 0) ∧ w'.frozen? ⟨b6, 0, none⟩ = false ∧ w'.frozen? ⟨b6, 1, none⟩ = false ∧ w'.frozen? ⟨b6, 2, none⟩ = false ∧ w'.frozen? ⟨b6, 3, none⟩ = false ∧ b6 < w'.heap.size) ∧ w'.cell? ⟨f, 0, none⟩ = some (.pointer (some ⟨d, 0, none⟩)) ∧ w'.cell? ⟨f, 1, none⟩ = some (.int .i64 (x : Int)) ∧ w'.cell? ⟨b3, 1, none⟩ = some (.int .u64 (ev.seq : Int)) := by
  intro b6 W hW hz hb6
  have hlt6 := (Array.getElem?_eq_some_iff.1 hz).1
  have hn6 : b6 ∉ S := fun hm => by have := F1.disk.lt _ hm; omega
  refine (CREW W hW).mono ?_
  rintro e w' ⟨S2, rfl, HA, HC⟩
  obtain ⟨h1, h2, h3⟩ := HA.out
  have h5 := (h2.block b6 hlt6 hn6).trans hz
  have h4 := b4cells h5
  exact ⟨S2, rfl, Lib.hid ⟨h1, fun hm => (h3 _ hm).elim hn6 (fun h => by omega), hb6, h5⟩, ⟨h4.1, h4.2.1, h4.2.2.1, h4.2.2.2, frozen_row0 h5, frozen_row0 h5, frozen_row0 h5, frozen_row0 h5, (Array.getElem?_eq_some_iff.1 h5).1⟩, HC⟩
 have CREN : ∀ (W : World), Below w1.heap.size w1 W → Calls Tryz.prog 190 #[.pointer (some ⟨d, 0, none⟩), .int .i64 (x : Int), .int .u64 (ev.seq : Int)] W fun e w' => ∃ S2, e = .returned (.tuple #[.agg #[.int .i64 (x : Int), .int .u64 (ev.seq : Int), .slice none 0 0, .int .i64 (hl : Int)], .int .i64 0]) ∧
   Hid (CreSt w1 d S (xsO x ++ (P.map (Part.full x) ++ [part0 x ev.seq (headL 115 x ev.seq).length]).map (Part.file x)) (hdA (a1 + 2)) S2 w') ∧ (¬ f = w'.heap.size ∧ ¬ b3 = w'.heap.size ∧ ¬ w'.heap.size = f ∧ ¬ w'.heap.size = b3) ∧ w'.cell? ⟨f, 0, none⟩ = some (.pointer (some ⟨d, 0, none⟩)) ∧ w'.cell? ⟨f, 1, none⟩ = some (.int .i64 (x : Int)) ∧ w'.cell? ⟨b3, 1, none⟩ = some (.int .u64 (ev.seq : Int)) := by
  intro W hW
  refine (CREW W hW).mono ?_
  rintro e w' ⟨S2, rfl, HA, HC⟩
  have hwz := HA.out.2.1.size
  exact ⟨S2, rfl, Lib.hid HA.out.1, ⟨by have := hW.size; omega, by have := hW.size; omega, by have := hW.size; omega, by have := hW.size; omega⟩, HC⟩
 have hq3 := (box8 g31).2.1
 obtain ⟨c0, c1, _, _, _, _, _⟩ := F1.cells
 have m0 : ¬ f = w1.heap.size := by omega
 have m3 : ¬ b3 = w1.heap.size := by omega
 have m0' : ¬ w1.heap.size = f := by omega
 have m3' : ¬ w1.heap.size = b3 := by omega
 have HF1 := Lib.hid F1
 have HST := Lib.hid (And.intro hs1 (And.intro hoS TS))
 have HHL := Lib.hid hhl
 have HZ := Lib.hid hz'
 have HRL := Lib.hid hRl
 have HAE := Lib.hid hae
 have HR0 := Lib.hid hR0
 have HO1 := Lib.hid hO1
 have HRP := Lib.hid hRP
 have HBS := Lib.hid (And.intro hbS (And.intro hkS ha1))
 have HG31 := Lib.hid g31
 clear hsync h1 h2 F1 hhl hz' hRl hae hR0 hO1 hRP hbS hkS ha1 hs1 hoS TS T1 hout1 hs0 hzz hupf hfiles hRf hbn han CREW g31
 go_upto_region 4 with fail
 refine wp_then (K := fun a W => ∃ (b6 : Nat) (S2 : List Nat) (y2 y8 y9 y10 y11 y12 y13 y14 y15 y16 y17 y18 y19 y20 y21 y22 y23 y24 y25 y26 y27 y28 y29 y30 y31 y32 y33 y34 y35 y36 y37 y38 y39 y40 y41 y42 y43 y44 y45 y46 y47 y48 y49 y50 y51 y52 y53 y54 y55 y56 y57 y58 y59 y60 y61 : Value), a = { tmps := #[Value.pointer (some ⟨f, 0, none⟩), Value.agg #[.int .i64 ev.writer, .int .u64 (ev.seq : Int), .int .u64 (ev.time : Int), .int .u8 (ev.kind : Int), .string ev.key, .slice Be me ke, .float .f64 ev.num, .int .i64 ev.node], y2, Value.pointer (some ⟨b3, 0, none⟩), Value.int .i64 0, Value.int .i64 0, Value.pointer (some ⟨b6, 0, none⟩), Value.int .i64 0, y8, y9, y10, y11, y12, y13, y14, y15, y16, y17, y18, y19, y20, y21, y22, y23, y24, y25, y26, y27, y28, y29, y30, y31, y32, y33, y34, y35, y36, y37, y38, y39, y40, y41, y42, y43, y44, y45, y46, y47, y48, y49, y50, y51, y52, y53, y54, y55, y56, y57, y58, y59, y60, y61], defers := [] } ∧ Hid (CreSt w1 d S (xsO x ++ (P.map (Part.full x) ++ [part0 x ev.seq (headL 115 x ev.seq).length]).map (Part.file x)) (hdA (a1 + 2)) S2 W ∧ b6 ∉ S2 ∧ w1.heap.size ≤ b6 ∧ W.heap[b6]? = some (.cells #[.int .i64 (x : Int), .int .u64 (ev.seq : Int), .slice none 0 0, .int .i64 (hl : Int)] 134 (0, 0)))) ?after ?region
 case region =>
  go_region_held3 (fun w' => w'.cell? ⟨f, 0, none⟩ = some (.pointer (some ⟨d, 0, none⟩)) ∧ w'.cell? ⟨f, 1, none⟩ = some (.int .i64 (x : Int)) ∧ w'.cell? ⟨b3, 1, none⟩ = some (.int .u64 (ev.seq : Int))) (go_keep)
   (first
    | (go_at_call 190
       refine (CREB w1.heap.size _ ?h2 ?h3 (Nat.le_refl _)).mono ?_
       case h2 => first | exact (Below.refl _ _).alloc (Nat.le_refl _) _ | exact (Below.refl _ _).drew.alloc (Nat.le_refl _) _ | exact ((Below.refl _ _).alloc (Nat.le_refl _) _).drew
       case h3 => first | exact heap_alloc_new _ _ | exact heap_alloc_new w1 _
       rintro e w8 ⟨S2, rfl, HX, ⟨z0, z1, z2, z3, f0, f1, f2, f3, hz8⟩, c0, c1, hq3⟩)
    | (go_at_call 190
       refine (CREN _ ?h2).mono ?_
       case h2 => first | exact Below.refl _ _ | exact (Below.refl _ _).drew
       rintro e w8 ⟨S2, rfl, HX, ⟨n0', n1', n2', n3'⟩, c0, c1, hq3⟩))
  ·have hn9 : w8.heap.size ∉ S2 := fun hm => by have := HX.out.disk.lt _ hm; omega
   have hb8 := (Below.refl w8.heap.size w8).alloc (Nat.le_refl _) (.cells #[.int .i64 (x : Int), .int .u64 (ev.seq : Int), .slice none 0 0, .int .i64 (hl : Int)] 134)
   exact ⟨w8.heap.size, S2, _, _, _, _, _, _, _, _, _, _, _, _, _, _, _, _, _, _, _, _, _, _, _, _, _, _, _, _, _, _, _, _, _, _, _, _, _, _, _, _, _, _, _, _, _, _, _, _, _, _, _, _, _, _, _, rfl, Lib.hid ⟨⟨HX.out.disk.below hb8, HX.out.bes.below hb8, HX.out.sub⟩, hn9, HX.out.bes.size, heap_alloc_new w8 _⟩⟩
  ·obtain ⟨h1, h2, h3, h4⟩ := HX.out
   have hq := set_four 134 _ _ (.int .i64 0) (.int .u64 0) (.slice none 0 0) (.int .i64 0) (.int .i64 (x : Int)) (.int .u64 (ev.seq : Int)) (.slice none 0 0) (.int .i64 (hl : Int)) h4
   exact ⟨_, S2, _, _, _, _, _, _, _, _, _, _, _, _, _, _, _, _, _, _, _, _, _, _, _, _, _, _, _, _, _, _, _, _, _, _, _, _, _, _, _, _, _, _, _, _, _, _, _, _, _, _, _, _, _, _, _, rfl, Lib.hid ⟨⟨h1.disk.beside hq.2 (fun k hk hm => by simp at hk; subst hk; exact h2 hm), h1.bes.trans hq.2 (fun k hk => by simp at hk; subst hk; exact .inr h3), h1.sub⟩, h2, h3, hq.1⟩⟩
 case after =>
  rintro a W ⟨b6, S2, y2, y8, y9, y10, y11, y12, y13, y14, y15, y16, y17, y18, y19, y20, y21, y22, y23, y24, y25, y26, y27, y28, y29, y30, y31, y32, y33, y34, y35, y36, y37, y38, y39, y40, y41, y42, y43, y44, y45, y46, y47, y48, y49, y50, y51, y52, y53, y54, y55, y56, y57, y58, y59, y60, y61, rfl, HX⟩
  simp only []
  obtain ⟨hC, hn6, hb6, g6⟩ := HX.out
  obtain ⟨hs1, hoS, TS⟩ := HST.out
  have F1 := HF1.out
  have hgb : ∀ k ∈ f :: blk A, k < w1.heap.size ∧ k ∉ S := blk_lt F1
  have HBXL := Lib.hid (bx_lt F1)
  have g3W := (hC.bes.block b3 hl31 hS3).trans HG31.out
  have boxW := (hC.bes.block f hfl1 F1.fS).trans F1.box
  have rowW := own_kept F1.row fun g hg => hC.bes.block g (hgb g (by simp [hg])).1 (hgb g (by simp [hg])).2
  have hgS2 : ∀ k ∈ f :: blk A, k ∉ S2 := fun k hk hm => (hC.sub k hm).elim (hgb k hk).2 (fun h => by have := (hgb k hk).1; omega)
  have h3S2 : b3 ∉ S2 := fun hm => (hC.sub b3 hm).elim hS3 (fun h => by omega)
  have hlW6 : b6 < W.heap.size := (Array.getElem?_eq_some_iff.1 g6).1
  have hwW : w1.heap.size ≤ W.heap.size := hC.bes.size
  have ADD7 : ∀ (W' : World), Below W.heap.size W W' → Calls Tryz.prog 191 #[.agg #[.int .i64 (x : Int), .int .u64 (ev.seq : Int), .slice none 0 0, .int .i64 (hl : Int)], .pointer (some ⟨d, 0, none⟩), .agg #[.int .i64 ev.writer, .int .u64 (ev.seq : Int), .int .u64 (ev.time : Int), .int .u8 (ev.kind : Int), .string ev.key, .slice Be me ke, .float .f64 ev.num, .int .i64 ev.node]] W' fun e w' => ∃ A8 S3, e = .returned (.tuple #[.agg #[.int .i64 (x : Int), .int .u64 (ev.seq : Int), .slice A8 1 1, .int .i64 (z' : Int)], .int .i64 0]) ∧
    Hid (ExtSt W d S2 (xsO x ++ (P.map (Part.full x) ++ [(⟨ev.seq, [plainE ev], (headL 115 x ev.seq).length⟩ : Part)]).map (Part.file x)) (hdA (a1 + 3)) (bx f A ++ [b6]) A8 1 [plainE ev] S3 w' ∧ w'.heap[b6]? = some (.cells #[.int .i64 (x : Int), .int .u64 (ev.seq : Int), .slice none 0 0, .int .i64 (hl : Int)] 134 (0, 0))) ∧ (w'.frozen? ⟨b6, 0, none⟩ = false ∧ w'.frozen? ⟨b6, 1, none⟩ = false ∧ w'.frozen? ⟨b6, 2, none⟩ = false ∧ w'.frozen? ⟨b6, 3, none⟩ = false ∧ b6 < w'.heap.size) ∧ (w'.cell? ⟨b6, 0, none⟩ = some (.int .i64 (x : Int)) ∧ w'.cell? ⟨b6, 1, none⟩ = some (.int .u64 (ev.seq : Int)) ∧ w'.cell? ⟨b6, 2, none⟩ = some (.slice none 0 0) ∧ w'.cell? ⟨b6, 3, none⟩ = some (.int .i64 (hl : Int))) ∧ w'.cell? ⟨f, 0, none⟩ = some (.pointer (some ⟨d, 0, none⟩)) ∧ w'.cell? ⟨b3, 0, none⟩ = some (.int .i64 ev.writer) ∧ w'.cell? ⟨b3, 1, none⟩ = some (.int .u64 (ev.seq : Int)) ∧ w'.cell? ⟨b3, 2, none⟩ = some (.int .u64 (ev.time : Int)) ∧ w'.cell? ⟨b3, 3, none⟩ = some (.int .u8 (ev.kind : Int)) ∧ w'.cell? ⟨b3, 4, none⟩ = some (.string ev.key) ∧ w'.cell? ⟨b3, 5, none⟩ = some (.slice Be me ke) ∧ w'.cell? ⟨b3, 6, none⟩ = some (.float .f64 ev.num) ∧ w'.cell? ⟨b3, 7, none⟩ = some (.int .i64 ev.node) := by
   intro W' hW'
   have hc := addS_okB (bx f A ++ [b6]) d S2 _ (hdA (a1 + 2)) x ev.seq none 0 0 hl [] ev Be me ke W' ((TS.next hC.bes hC.sub).below hW') (hC.disk.below hW') (SeesEv.nil _ _ _) (fun k hk => by
    rcases List.mem_append.1 hk with h | h
    ·have := HBXL.out k h; have := hb6; have := hlW6; have := hW'.size; omega
    ·simp at h; subst h; have := hW'.size; omega) ((hs1.beside hC.bes hoS).below hW') (Out.next hoS hs1 hC.sub) (hdA_fits (by have := HBS.out.2.2; omega)) (by have := HBS.out.2.2; simp [hdA]; omega) (by have hxf := xs_few x; have hxc := xs_cap; rw [sumA_append, sumA_parts, sum_full0]; omega) (by have hxf := xs_few x; have hxc := xs_cap; simp; omega) hx (by omega) (by omega) (by have := HHL.out; omega) hr hfit htx hkey ⟨HWR.out, by rw [Nat.add_zero]⟩ HAE.out.2
   rw [HAE.out.1, hdA_act, List.nil_append] at hc
   unfold segV at hc
   rw [← HZ.out] at hc
   refine hc.mono ?_
   rintro e w' ⟨A8, S3, rfl, hd8, hb8, hs8, hse8⟩
   have h6 := (hb8.block b6 (by have := hW'.size; omega) hn6).trans ((hW'.block b6 hlW6).trans g6)
   have h3 := (hb8.block b3 (by have := hW'.size; omega) h3S2).trans ((hW'.block b3 (by omega)).trans g3W)
   have hf := (hb8.block f (by have := hW'.size; omega) (hgS2 f (by simp))).trans ((hW'.block f (by omega)).trans boxW)
   exact ⟨A8, S3, rfl, Lib.hid ⟨⟨hd8, (Beside.of_below hW' S2).trans hb8 fun k hk => .inl hk, fun k hk => (hs8 k hk).imp id (fun h => Nat.le_trans hW'.size h), hse8⟩, h6⟩, ⟨frozen_row0 h6, frozen_row0 h6, frozen_row0 h6, frozen_row0 h6, (Array.getElem?_eq_some_iff.1 h6).1⟩, b4cells h6, by rw [cell_of_row w' f _ _ _ _ hf]; rfl, box8 h3⟩
  have q6 := b4cells g6
  have cf0 : W.cell? ⟨f, 0, none⟩ = some (.pointer (some ⟨d, 0, none⟩)) := by rw [cell_of_row W f _ _ _ _ boxW]; rfl
  have q3 := box8 g3W
  obtain ⟨e0, e1, e2, e3, e4, e5, e6, e7⟩ := q3
  obtain ⟨r0, r1, r2, r3⟩ := q6
  have f0 := frozen_row0 (i := 0) g6
  have f1 := frozen_row0 (i := 1) g6
  have f2 := frozen_row0 (i := 2) g6
  have f3 := frozen_row0 (i := 3) g6
  have k6f : ¬ b6 = f := by omega
  have kf6 : ¬ f = b6 := by omega
  have k63 : ¬ b6 = b3 := by omega
  have k36 : ¬ b3 = b6 := by omega
  have HC := Lib.hid hC
  have HBOX := Lib.hid boxW
  have HROW := Lib.hid rowW
  have HGB := Lib.hid (And.intro hgb hgS2)
  clear hC boxW rowW hgb hgS2 g6 g3W hs1 hoS TS F1 c0 c1 hq3
  go_wp2_with fail
  go_upto_region 7 with fail
  refine wp_then (K := fun a W9 => ∃ (A8 : Option Addr) (S3 : List Nat) (v2 v5 v8 v9 v10 v11 v12 v13 v14 v15 v16 v17 v18 v19 v20 v21 v22 v23 v24 v25 v26 v27 v28 v29 v30 v31 v32 v33 v34 v35 v36 v37 v38 v39 v40 v41 v42 v43 v44 v45 v46 v47 v48 v49 v50 v51 v52 v53 v54 v55 v56 v57 v58 v59 v60 v61 : Value), a = { tmps := #[Value.pointer (some ⟨f, 0, none⟩), Value.agg #[.int .i64 ev.writer, .int .u64 (ev.seq : Int), .int .u64 (ev.time : Int), .int .u8 (ev.kind : Int), .string ev.key, .slice Be me ke, .float .f64 ev.num, .int .i64 ev.node], v2, Value.pointer (some ⟨b3, 0, none⟩), Value.int .i64 0, v5, Value.pointer (some ⟨b6, 0, none⟩), Value.int .i64 0, v8, v9, v10, v11, v12, v13, v14, v15, v16, v17, v18, v19, v20, v21, v22, v23, v24, v25, v26, v27, v28, v29, v30, v31, v32, v33, v34, v35, v36, v37, v38, v39, v40, v41, v42, v43, v44, v45, v46, v47, v48, v49, v50, v51, v52, v53, v54, v55, v56, v57, v58, v59, v60, v61], defers := [] } ∧ Hid (Disk W9 d S3 (xsO x ++ (P.map (Part.full x) ++ [(⟨ev.seq, [plainE ev], (headL 115 x ev.seq).length⟩ : Part)]).map (Part.file x)) (hdA (a1 + 3)) ∧ Beside (S2 ++ [b6]) W W9 ∧ (∀ k ∈ S3, k ∈ S2 ∨ W.heap.size ≤ k) ∧ SeesEv (S3 ++ (bx f A ++ [b6])) W9 A8 1 [plainE ev] ∧ b6 ∉ S3 ∧ W9.heap[b6]? = some (.cells #[.int .i64 (x : Int), .int .u64 (ev.seq : Int), .slice A8 1 1, .int .i64 (z' : Int)] 134 (0, 0)))) ?after7 ?region7
  case region7 =>
   go_region_with (first
    | (go_at_call 191
       refine (ADD7 _ ?h2).mono ?_
       case h2 => first | exact Below.refl _ _ | exact (Below.refl _ _).drew
       rintro e w8 ⟨A8, S3, rfl, HE, ⟨f0, f1, f2, f3, hl68⟩, ⟨r0, r1, r2, r3⟩, cf0, e0, e1, e2, e3, e4, e5, e6, e7⟩))
   all_goals
    have hE8 := HE.out.1
    have g68 := HE.out.2
    have hn63 : b6 ∉ S3 := fun hm => (hE8.sub _ hm).elim hn6 (fun h => by omega)
    have hq := set_four 134 _ _ (.int .i64 (x : Int)) (.int .u64 (ev.seq : Int)) (.slice none 0 0) (.int .i64 (hl : Int)) (.int .i64 (x : Int)) (.int .u64 (ev.seq : Int)) (.slice A8 1 1) (.int .i64 (z' : Int)) g68
    exact ⟨A8, S3, _, _, _, _, _, _, _, _, _, _, _, _, _, _, _, _, _, _, _, _, _, _, _, _, _, _, _, _, _, _, _, _, _, _, _, _, _, _, _, _, _, _, _, _, _, _, _, _, _, _, _, _, _, _, _, _, rfl, Lib.hid ⟨hE8.disk.beside hq.2 (fun k hk hm => by simp at hk; subst hk; exact hn63 hm), (hE8.bes.wider fun k hk => .inl (List.mem_append.2 (.inl hk))).trans hq.2 (fun k hk => .inl (List.mem_append.2 (.inr hk))), hE8.sub, hE8.sees.next (hq.2.wider fun k hk => by simp at hk; subst hk; exact .inl (by simp)) (fun k hk => .inl hk), hn63, hq.1⟩⟩
  case after7 =>
   rintro a W9 ⟨A8, S3, v2, v5, v8, v9, v10, v11, v12, v13, v14, v15, v16, v17, v18, v19, v20, v21, v22, v23, v24, v25, v26, v27, v28, v29, v30, v31, v32, v33, v34, v35, v36, v37, v38, v39, v40, v41, v42, v43, v44, v45, v46, v47, v48, v49, v50, v51, v52, v53, v54, v55, v56, v57, v58, v59, v60, v61, rfl, HE⟩
   simp only []
   obtain ⟨hd9, hb9, hs9, hse9, hn63, g69⟩ := HE.out
   obtain ⟨hgb, hgS2⟩ := HGB.out
   obtain ⟨n, hn0⟩ : ∃ n, n = R.length := ⟨_, rfl⟩
   have hf6 : ∀ k ∈ f :: blk A, k ∉ S2 ++ [b6] := fun k hk hm => by
    rcases List.mem_append.1 hm with h | h
    ·exact hgS2 k hk h
    ·simp at h; subst h; have := (hgb _ hk).1; omega
   have hlt9 : ∀ k ∈ f :: blk A, k < W9.heap.size := fun k hk => by have := (hgb k hk).1; have := hb9.size; omega
   have box9 := (hb9.block f (by have := (hgb f (by simp)).1; omega) (hf6 f (by simp))).trans HBOX.out
   have row9 := own_kept HROW.out fun g hg => hb9.block g (by have := (hgb g (by simp [hg])).1; omega) (hf6 g (by simp [hg]))
   rw [← hn0] at box9 row9
   have hfA : ∀ k, (Value.slice A n c).ownBlock = some k → k ∈ blk A := fun k hk => by
    cases A with
    | none => cases hk
    | some a => injection hk with hk; subst hk; simp [blk]
   have hfb2 : f ∉ blk A := fun h => (HF1.out.aS f h).2 rfl
   have hb6b : b6 ∉ blk A := fun h => by have := (hgb b6 (by simp [h])).1; omega
   have hl69 : b6 < W9.heap.size := (Array.getElem?_eq_some_iff.1 g69).1
   have KEEP : ∀ W' w', Below W9.heap.size W9 W' → W'.grownBy w' (Value.slice A n c).ownBlock → w'.heap[f]? = some (.cells (Fd.cells d (x : Int) sz floor time (.slice A n c) ((P.length - 1 : Nat) : Int)) 132 (0, 0)) ∧ w'.heap[b6]? = some (.cells #[.int .i64 (x : Int), .int .u64 (ev.seq : Int), .slice A8 1 1, .int .i64 (z' : Int)] 134 (0, 0)) := fun W' w' hW hg =>
    ⟨(hg.block f (by have := hW.size; have := hlt9 f (by simp); omega) (fun h => hfb2 (hfA f h.symm))).trans ((hW.block f (hlt9 f (by simp))).trans box9), (hg.block b6 (by have := hW.size; omega) (fun h => hb6b (hfA b6 h.symm))).trans ((hW.block b6 hl69).trans g69)⟩
   have ROW9 : ∀ W', Below W9.heap.size W9 W' → W'.ownsRow 0 134 4 (.slice A n c) n (rowsS x R) := fun W' hW => own_below8 row9 hW (Nat.le_refl _)
   obtain ⟨i, hi, hz, hsz, hby⟩ := info_parts infoG
   have hnl : n ≤ 1000 := by have := HRL.out; omega
   have hmx : n + 1 ≤ maxLen := by unfold maxLen; omega
   have c5 : W9.cell? ⟨f, 5, none⟩ = some (.slice A n c) := by rw [cell_of_row W9 f _ _ _ _ box9]; rfl
   obtain ⟨r0, r1, r2, r3⟩ := b4cells g69
   have y5 : W9.frozen? ⟨f, 5, none⟩ = false := frozen_row0 box9
   have c5a : (W9.alloc (.cells #[.int .i64 (x : Int), .int .u64 (ev.seq : Int), .slice A8 1 1, .int .i64 (z' : Int)] 134)).cell? ⟨f, 5, none⟩ = some (.slice A n c) := by
    rw [World.cell?_of_block (((Below.refl W9.heap.size W9).alloc (Nat.le_refl _) (.cells #[.int .i64 (x : Int), .int .u64 (ev.seq : Int), .slice A8 1 1, .int .i64 (z' : Int)] 134)).block f (hlt9 f (by simp)))]
    exact c5
   have GROW : ∀ W' w', Below W9.heap.size W9 W' → W'.grownBy w' (Value.slice A n c).ownBlock → ∀ g', ((Value.slice A n c).ownBlock = some g' ∨ g' = W'.heap.size) → Beside (blk A) W9 w' ∧ (g' ∈ blk A ∨ W9.heap.size ≤ g') := fun W' w' hW hg g' hat =>
    ⟨(Beside.of_below hW (blk A)).grown hg (fun k hk => .inl (hfA k hk)), hat.imp (fun h => hfA g' h) (fun h => by rw [h]; exact hW.size)⟩
   have FIN : ∀ (g' cap' : Nat) (w10 : World), w10.ownsRow 0 134 4 (.slice (some ⟨g', 0, none⟩) (n + 1) cap') (n + 1) (rowsS x R ++ (#[.int .i64 (x : Int), .int .u64 (ev.seq : Int), .slice A8 1 1, .int .i64 (z' : Int)] : Array Value).toList) → Beside (blk A) W9 w10 → (g' ∈ blk A ∨ W9.heap.size ≤ g') → g' < w10.heap.size → ∃ acts', acts' ≤ acts + P.length + 3 ∧ FNext O w d f x sz floor time (P.map (Part.full x) ++ [⟨ev.seq, [plainE ev], (headL 115 x ev.seq).length⟩]) (P.length - 1) acts' (w10.setCell ⟨f, 5, none⟩ (.slice (some ⟨g', 0, none⟩) (n + 1) cap')) := by
    intro g' cap' w10 hown hb10 hg' hl10
    obtain ⟨hbS, hkS, ha1⟩ := HBS.out
    have hC := HC.out
    have hwW9 : W.heap.size ≤ W9.heap.size := hb9.size
    have hf9 : f < W9.heap.size := hlt9 f (by simp)
    have hgf : g' ≠ f := fun h => by
     rcases hg' with h1 | h1
     ·exact hfb2 (h ▸ h1)
     ·omega
    have hS3 : ∀ k ∈ f :: blk A, k ∉ S3 := fun k hk hm => (hs9 k hm).elim (hgS2 k hk) (fun h => by have := (hgb k hk).1; omega)
    have hgS3 : g' ∉ S3 := fun hm => hg'.elim (fun h => hS3 g' (by simp [h]) hm) (fun h => by have := hd9.lt g' hm; omega)
    have hb11 : Beside [f] w10 (w10.setCell ⟨f, 5, none⟩ (.slice (some ⟨g', 0, none⟩) (n + 1) cap')) := (Beside.refl [f] w10).setCell (p := ⟨f, 5, none⟩) (by simp) _
    have hB9 : Beside (f :: blk A) W9 (w10.setCell ⟨f, 5, none⟩ (.slice (some ⟨g', 0, none⟩) (n + 1) cap')) := (hb10.wider fun k hk => .inl (by simp [hk])).trans hb11 fun k hk => by simp at hk; subst hk; exact .inl (by simp)
    have hB1 : Beside (S ++ f :: blk A) w1 (w10.setCell ⟨f, 5, none⟩ (.slice (some ⟨g', 0, none⟩) (n + 1) cap')) := ((hC.bes.wider fun k hk => .inl (List.mem_append.2 (.inl hk))).trans hb9 fun k hk => by
     rcases List.mem_append.1 hk with h | h
     ·exact (hC.sub k h).imp (fun h => List.mem_append.2 (.inl h)) id
     ·simp at h; subst h; exact .inr hb6).trans hB9 fun k hk => .inl (List.mem_append.2 (.inr hk))
    have hnew : ∀ k ∈ S3 ++ f :: [g'], k ∈ S ++ f :: blk A ∨ w1.heap.size ≤ k := fun k hk => by
     rcases List.mem_append.1 hk with h | h
     ·rcases hs9 k h with h | h
      ·exact (hC.sub k h).imp (fun h => List.mem_append.2 (.inl h)) id
      ·exact .inr (by omega)
     ·rcases List.mem_cons.1 h with rfl | h
      ·exact .inl (by simp)
      ·simp at h; subst h
       rcases hg' with h | h
       ·exact .inl (by simp [h])
       ·exact .inr (by omega)
    have hO2 : ∀ k, k ∈ S ++ f :: blk A ∨ w1.heap.size ≤ k → k ∈ O ∨ w.heap.size ≤ k := fun k hk => by
     have h0 := HB0.out.size
     have h1 := hbS.size
     rcases hk with h | h
     ·rw [← HO1.out] at h
      exact (hkS k h).imp id (fun h => by omega)
     ·exact .inr (by omega)
    have box10 := (hb10.block f hf9 hfb2).trans box9
    have box11 := heapSame (i := 5) (v := .slice (some ⟨g', 0, none⟩) (n + 1) cap') box10
    have F1 := HF1.out
    have hz : (⟨ev.seq, [plainE ev], (headL 115 x ev.seq).length⟩ : Part).z x = z' := by rw [HZ.out, HHL.out]; simp [Part.z, wraps, HPE.out]
    have hrow : rowsS x (R ++ [(⟨⟨ev.seq, [plainE ev], (headL 115 x ev.seq).length⟩, A8⟩ : SegS)]) = rowsS x R ++ (#[.int .i64 (x : Int), .int .u64 (ev.seq : Int), .slice A8 1 1, .int .i64 (z' : Int)] : Array Value).toList := by
     rw [rowsS_append]
     simp [rowsS, SegS.cells, hz]
    have hln : (R ++ [(⟨⟨ev.seq, [plainE ev], (headL 115 x ev.seq).length⟩, A8⟩ : SegS)]).length = n + 1 := by simp [hn0]
    refine ⟨a1 + 3, by omega, S3 ++ f :: [g'], ⟨R ++ [⟨⟨ev.seq, [plainE ev], (headL 115 x ev.seq).length⟩, A8⟩], some ⟨g', 0, none⟩, cap', S3, by rw [List.map_append, HRP.out]; rfl, rfl, ⟨?_, ?_, ?_, fun r hr => ?_, hS3 f (by simp), fun k hk => ?_, fun k hk => Nat.lt_of_lt_of_le (F1.xl k hk) hB1.size⟩⟩, ?_, fun k hk => hO2 k (hnew k hk)⟩
    ·rw [files_map, List.map_append, HRP.out]
     exact hd9.beside hB9 fun k hk => hS3 k hk
    ·rw [hln]; exact box11.trans rfl
    ·rw [hln, hrow]
     exact own_kept hown fun k hk => hb11.block k (by simp [blk] at hk; subst hk; exact hl10) (by simp [blk] at hk ⊢; subst hk; exact hgf)
    ·rcases List.mem_append.1 hr with h | h
     ·exact (F1.evs r h).next (B' := S3 ++ bx f (some ⟨g', 0, none⟩)) (hB1.wider fun k hk => .inl (bx_in hk)) (fun k hk => by
      rcases List.mem_append.1 hk with h | h
      ·exact (hnew k (List.mem_append.2 (.inl h))).imp bx_in id
      ·rcases List.mem_append.1 h with h | h
       ·exact (hnew k (List.mem_append.2 (.inr (by simpa [blk] using h)))).imp bx_in id
       ·exact .inl (List.mem_append.2 (.inr (List.mem_append.2 (.inr h)))))
     ·simp at h; subst h
      exact hse9.next (B' := S3 ++ bx f (some ⟨g', 0, none⟩)) (hB9.wider fun k hk => .inl (by
       refine List.mem_append.2 (.inr (List.mem_append.2 (.inl (List.mem_append.2 (.inl hk))))))) (fun k hk => by
       rcases List.mem_append.1 hk with h | h
       ·exact .inl (List.mem_append.2 (.inl h))
       ·rcases List.mem_append.1 h with h | h
        ·rcases List.mem_cons.1 h with rfl | h
         ·exact .inl (List.mem_append.2 (.inr (List.mem_append.2 (.inl (List.mem_append.2 (.inl (by simp)))))))
         ·simp [blk] at h; subst h
          rcases hg' with h | h
          ·exact .inl (List.mem_append.2 (.inr (List.mem_append.2 (.inl (List.mem_append.2 (.inl (by simp [h])))))))
          ·exact .inr h
        ·exact .inl (List.mem_append.2 (.inr (List.mem_append.2 (.inl (List.mem_append.2 (.inr h)))))))
    ·simp [blk] at hk; subst hk; exact ⟨hgS3, hgf⟩
    ·exact ((Beside.of_below HB0.out O).trans hbS fun k hk => .inl hk).trans hB1 fun k hk => hO2 k (.inl hk)
   have hwb : ∀ W', Below W9.heap.size W9 W' → W9.heap.size ≤ W'.heap.size := fun W' h => h.size
   have hlf9 : f < W9.heap.size := hlt9 f (by simp)
   have HFA := Lib.hid hfA
   have FINH := Lib.hid FIN
   clear hd9 hb9 hs9 hse9 hgb hgS2 hf6 box9 row9 g69 hn0 hlt9 hsum FIN
   go_upto_region 10 with fail
   have nf1 : ¬ f = W9.heap.size := by omega
   have nf2 : ¬ W9.heap.size = f := by omega
   have nb1 : ¬ b6 = W9.heap.size := by omega
   have nb2 : ¬ W9.heap.size = b6 := by omega
   go_region_law
    (first
     | (refine step_append_lies _ rfl (.tmp 56) (.tmp 58) 130 rfl 0 134 i zeroSeg 4 48 Tryz.underlying130 hi hz hsz hby zeroSeg_cells (by decide) (.slice A n c) n (rowsS x R) (by simp [Act.eval, Act.put]) (ROW9 _ (by first | exact (Below.refl _ _).alloc (Nat.le_refl _) _ | exact (Below.refl _ _).drew.alloc (Nat.le_refl _) _ | exact ((Below.refl _ _).alloc (Nat.le_refl _) _).drew)) ⟨W9.heap.size, 0, none⟩ 1 1 (#[.int .i64 (x : Int), .int .u64 (ev.seq : Int), .slice A8 1 1, .int .i64 (z' : Int)] : Array Value).toList (by simp [Act.eval, Act.put]) rfl (World.news_of_block (by first | exact heap_alloc_new _ _ | exact heap_alloc_new W9 _)) (by simp [Value.oneCell']) (by decide) hmx (by omega) (Nat.zero_le _) _ rfl ?_
        intro g' cap' w10 hown10 hgrow hat hlt10
        have hkp := KEEP _ w10 (by first | exact (Below.refl _ _).alloc (Nat.le_refl _) _ | exact (Below.refl _ _).drew.alloc (Nat.le_refl _) _ | exact ((Below.refl _ _).alloc (Nat.le_refl _) _).drew) hgrow
        have hbg := GROW _ w10 (by first | exact (Below.refl _ _).alloc (Nat.le_refl _) _ | exact (Below.refl _ _).drew.alloc (Nat.le_refl _) _ | exact ((Below.refl _ _).alloc (Nat.le_refl _) _).drew) hgrow g' hat
        have c5x : w10.cell? ⟨f, 5, none⟩ = some (.slice A n c) := by rw [cell_of_row w10 f _ _ _ _ hkp.1]; rfl
        have y5x : w10.frozen? ⟨f, 5, none⟩ = false := frozen_row0 hkp.1
        have FN := Lib.hid (FINH.out g' cap' w10 hown10 hbg.1 hbg.2 hlt10)
        clear hown10 hgrow hat hlt10 hkp hbg))
   all_goals go_wp2
   all_goals go_ret
   all_goals exact ⟨rfl, FN.out⟩
end Go.Proofs.YtinjbdgjcadodaaGreatDoor.Fd
