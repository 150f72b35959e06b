/- Texts of the law ReplicaNil, put together. -/
import Derived.StillTailTactics
import Derived.Deep.RegionHeld3
import Derived.Test.YtinjbdgjcadodaaGreatDoorRNp31
import Derived.Test.YtinjbdgjcadodaaGreatDoorRNp32
set_option linter.unusedVariables false
set_option linter.unusedSimpArgs false
set_option maxRecDepth 100000
namespace Go.Proofs.YtinjbdgjcadodaaGreatDoor.St
open Go Go.RowKit Words Enc Go.Proofs.YtinjbdgjcadodaaGreatDoor.Made Dsk Seg Evt
open Go.Proofs.YtinjbdgjcadodaaGreatDoor.Fd (XS xsX xsO xsC Feed FeedAt FNext Part SegS blk bx hdA Rise evsP)
open Sht (headL headL_len titleL_len)
set_option maxHeartbeats 4000000 in
theorem write_ok5 (X0 : List Nat) (d C : Nat) (sz : Int) (S : List Nat) (g nd f nx : Nat) (s : Sto) (ev : Ev) (Be : Option Addr) (me ke : Nat) (w : World) (hs : StoAt w g s) (hnd : nd < 64) (hn : s.node = (nd : Int)) (hJ : s.J.getD nd false = true) (hR : memS s nd = true) (hF : s.F[nd]? = some (.pointer (some ⟨f, 0, none⟩))) (hck : s.ck < 9223372036854775808) (hnx64 : nx < 18446744073709551616)
  (hnx : ∀ W, Below w.heap.size w W → Calls Tryz.prog 35 #[.pointer (some ⟨f, 0, none⟩)] W fun e w' => e = .returned (.int .u64 (nx : Int)) ∧ Below W.heap.size W w')
  (hfit : ev.Fit) (hme : me = ev.text.length) (hl : ev.text.length ≤ 9223372036854775807) (hl2 : ev.key.size ≤ 9223372036854775807) (hright : rightE (asOwn ev nd nx (s.ck + 1)) = 0)
  (hC : C ≤ 1000000) (hC0 : 10000 ≤ C) (hf : Bare w d f nd sz) (hd : Disk w d S [mfile nd] ⟨(C : Int), 4, -1, 0, false⟩) (hfS : f ∉ S) (hgS : g ∉ S ++ [f]) (T : TabsOn (g :: (S ++ [f])) w) (hse : Sees w Be me ev.text) (hout : Out (g :: (S ++ [f])) Be me) (htx : ev.text.length ≤ 500) (hnx1 : nx = 1) (hX0 : ∀ k ∈ X0, k < w.heap.size) (hkey : ev.key.size ≤ 1048576) (h5 : ev.kind = 5) (nj : Nat) (hnj : ev.node = (nj : Int)) (hnj64 : nj < 64) (hJn : s.J.getD nj false = false) :
  Calls Tryz.prog 7 #[.pointer (some ⟨g, 0, none⟩), ev.val Be me ke] w (Writes (g :: (w.heap.size + 1) :: X0) d f g nd C sz hnd hC S s (asOwn ev nd nx (s.ck + 1)) w) := by
 have hnd0 := hnd
 have hsf := store_float Tryz.prog
 have hb := boxes_new w g s ev Be me ke hs
 obtain ⟨u, hu⟩ : ∃ u, u = (w.alloc (.cells (ev.row Be me ke) 38)).alloc (.cells zRowE 38) := ⟨_, rfl⟩
 rw [← hu] at hb
 unfold Ev.row zRowE at hu
 have HB := Lib.hid hb
 have NODE := Lib.hid (fun W (hW : Below u.heap.size u W) => (by have := node_any g s W (hb.sto.below hW); rw [hn] at this; exact this : Calls Tryz.prog 33 #[.pointer (some ⟨g, 0, none⟩)] W fun e w' => e = .returned (.int .i64 (nd : Int)) ∧ w' = W))
 have JOIN := Lib.hid (joined_s g s nd u hb.sto hnd)
 rw [hJ] at JOIN
 have MEM := Lib.hid (fun W (hW : Below u.heap.size u W) => (by have := member_s g s nd W (hb.sto.below hW) hnd; rw [hR] at this; exact this : Calls Tryz.prog 34 #[.pointer (some ⟨g, 0, none⟩), .int .i64 (nd : Int)] W fun e w' => e = .returned (.bool true) ∧ Below W.heap.size W w'))
 have HU := Lib.hid hu
 have HN := Lib.hid hn
 have HND := Lib.hid hnd0
 have HF := Lib.hid hF
 have NX := Lib.hid hnx
 have HCK := Lib.hid hck
 have HS0 := Lib.hid hs
 have hnd64 : (nd : Int) < 64 := by omega
 have hwr : IntKind.u64.wrap ((s.ck : Int) + 1) = ((s.ck + 1 : Nat) : Int) := by rw [IntKind.wrap_u64]; omega
 clear hb hu hs hn hJ hR hF hnx hck
 have HH := Lib.hid (And.intro hfit (And.intro hme (And.intro hl hl2)))
 have HE := Lib.hid hright
 have HD := Lib.hid (And.intro hC0 (And.intro hf (And.intro hd (And.intro hfS (And.intro hgS (And.intro T (And.intro hse (And.intro hout (And.intro htx (And.intro hnx1 hkey))))))))))
 have HTX := Lib.hid htx
 have HX0 := Lib.hid hX0
 clear hX0
 have HSE := Lib.hid (And.intro hse hout)
 have HGS := Lib.hid hgS
 have H5 := Lib.hid (And.intro h5 (And.intro hnj (And.intro hnj64 hJn)))
 clear hfit hme hl hl2 hright hC0 hf hd hfS hgS T hse hout htx hnx1 hkey h5 hnj hnj64 hJn
 obtain ⟨tm, htm⟩ : ∃ tm, tm = s.ck + 1 := ⟨_, rfl⟩
 rw [← htm] at hwr
 have HTM := Lib.hid htm
 clear htm
 unfold Ev.val
 go_enter Tryz.func7, Tryz.ntmps7
 go_wp2_with fail
 rw [← HU.out]
 refine (NODE.out u (Below.refl _ _)).mono ?_
 rintro e w1 ⟨rfl, rfl⟩
 go_wp2_with fail
 refine JOIN.out.mono ?_
 rintro e w2 ⟨rfl, hb2⟩
 go_wp2_with fail
 refine (NODE.out w2 hb2).mono ?_
 rintro e w2 ⟨rfl, rfl⟩
 go_wp2_with fail
 refine (MEM.out w2 hb2).mono ?_
 rintro e w3 ⟨rfl, hb3⟩
 have HB3 := Lib.hid (hb2.trans (hb3.mono hb2.size))
 have HX3 := Lib.hid (HB.out.next HB3.out)
 have FC := fun (W : World) (hW : Below w3.heap.size w3 W) => (HX3.out.sto.below hW).cF HND.out HF.out
 have NODE3 : ∀ W, Below w3.heap.size w3 W → Calls Tryz.prog 33 #[.pointer (some ⟨g, 0, none⟩)] W fun e w' => e = .returned (.int .i64 (nd : Int)) ∧ Hid (Below w3.heap.size w3 w') ∧ w'.cell? ⟨g, 8 + nd, none⟩ = some (.pointer (some ⟨f, 0, none⟩)) := fun W hW => by
  refine (NODE.out W (HB3.out.trans (hW.mono HB3.out.size))).mono ?_
  rintro e w' ⟨rfl, rfl⟩
  exact ⟨rfl, Lib.hid hW, FC _ hW⟩
 have cF := FC w3 (Below.refl _ _)
 have q0 : (0 : Int) ≤ (nd : Int) := by omega
 clear hb2 hb3 FC MEM JOIN
 go_upto_region 7 with fail
 go_region_held3 (fun w' => w'.cell? ⟨g, 8 + nd, none⟩ = some (.pointer (some ⟨f, 0, none⟩))) (go_keep)
  (first
   | (go_at_call 33
      refine (NODE3 _ ?h1).mono ?_
      case h1 => first | exact Below.refl _ _ | exact (Below.refl _ _).drew
      rintro e w4 ⟨rfl, HN4, cF⟩))
 have HX4 := Lib.hid (HX3.out.next HN4.out)
 have HB4 := Lib.hid (HB3.out.trans (HN4.out.mono HB3.out.size))
 obtain ⟨b3, hb3⟩ : ∃ b3, b3 = w.heap.size := ⟨_, rfl⟩
 have G3 := HX4.out.e
 rw [← hb3] at G3 ⊢
 have HB3E := Lib.hid hb3
 have hgb : ¬ g = b3 := by have := HS0.out.lt; omega
 have hbg : ¬ b3 = g := by omega
 unfold Ev.row at G3
 have R8 := fun (W : World) (hW : Below w4.heap.size w4 W) => (by
  have k3 := (hW.block b3 (Array.getElem?_eq_some_iff.1 G3).1).trans G3
  obtain ⟨x0, x1, x2, _⟩ := box8 k3
  exact ⟨(HX4.out.sto.below hW).cC, x0, x1, x2, frozen_row0 k3, frozen_row0 k3, frozen_row0 k3, (Array.getElem?_eq_some_iff.1 k3).1⟩ : W.cell? ⟨g, 72, none⟩ = some (.int .u64 (s.ck : Int)) ∧ W.cell? ⟨b3, 0, none⟩ = some (.int .i64 ev.writer) ∧ W.cell? ⟨b3, 1, none⟩ = some (.int .u64 (ev.seq : Int)) ∧ W.cell? ⟨b3, 2, none⟩ = some (.int .u64 (ev.time : Int)) ∧ W.frozen? ⟨b3, 0, none⟩ = false ∧ W.frozen? ⟨b3, 1, none⟩ = false ∧ W.frozen? ⟨b3, 2, none⟩ = false ∧ b3 < W.heap.size)
 have NODE4 : ∀ W, Below w4.heap.size w4 W → Calls Tryz.prog 33 #[.pointer (some ⟨g, 0, none⟩)] W fun e w' => e = .returned (.int .i64 (nd : Int)) ∧ Hid (Below w4.heap.size w4 w') ∧ w'.cell? ⟨g, 72, none⟩ = some (.int .u64 (s.ck : Int)) ∧ w'.cell? ⟨b3, 0, none⟩ = some (.int .i64 ev.writer) ∧ w'.cell? ⟨b3, 1, none⟩ = some (.int .u64 (ev.seq : Int)) ∧ w'.cell? ⟨b3, 2, none⟩ = some (.int .u64 (ev.time : Int)) ∧ w'.frozen? ⟨b3, 0, none⟩ = false ∧ w'.frozen? ⟨b3, 1, none⟩ = false ∧ w'.frozen? ⟨b3, 2, none⟩ = false ∧ b3 < w'.heap.size := fun W hW => by
  refine (NODE.out W (HB4.out.trans (hW.mono HB4.out.size))).mono ?_
  rintro e w' ⟨rfl, rfl⟩
  exact ⟨rfl, Lib.hid hW, R8 _ hW⟩
 have NEXT4 : ∀ W, Below w4.heap.size w4 W → Calls Tryz.prog 35 #[.pointer (some ⟨f, 0, none⟩)] W fun e w' => e = .returned (.int .u64 (nx : Int)) ∧ Hid (Below w4.heap.size w4 w') ∧ w'.cell? ⟨g, 72, none⟩ = some (.int .u64 (s.ck : Int)) ∧ w'.cell? ⟨b3, 0, none⟩ = some (.int .i64 ev.writer) ∧ w'.cell? ⟨b3, 1, none⟩ = some (.int .u64 (ev.seq : Int)) ∧ w'.cell? ⟨b3, 2, none⟩ = some (.int .u64 (ev.time : Int)) ∧ w'.frozen? ⟨b3, 0, none⟩ = false ∧ w'.frozen? ⟨b3, 1, none⟩ = false ∧ w'.frozen? ⟨b3, 2, none⟩ = false ∧ b3 < w'.heap.size := fun W hW => by
  have hbu := HB4.out.trans (hW.mono HB4.out.size)
  refine (NX.out W (HB.out.below.trans (hbu.mono HB.out.below.size))).mono ?_
  rintro e w' ⟨rfl, hb⟩
  have hb2 := hW.trans (hb.mono hW.size)
  exact ⟨rfl, Lib.hid hb2, R8 _ hb2⟩
 obtain ⟨c72, x0, x1, x2, y0, y1, y2, hbl⟩ := R8 w4 (Below.refl _ _)
 have G3H := Lib.hid G3
 clear R8 cF NODE3 G3 hb3
 go_upto_region 8 with fail
 go_region_held3 (fun w' => w'.cell? ⟨g, 72, none⟩ = some (.int .u64 (s.ck : Int))) (go_keep)
  (first
   | (go_at_call 33
      refine (NODE4 _ ?h1).mono ?_
      case h1 => first | exact Below.refl _ _ | exact (Below.refl _ _).drew | exact HN6.out | exact HN6.out.drew
      rintro e w5 ⟨rfl, HN5, c72, x0, x1, x2, y0, y1, y2, hbl⟩)
   | (go_at_call 35
      refine (NEXT4 _ ?h1).mono ?_
      case h1 => first | exact Below.refl _ _ | exact (Below.refl _ _).drew | exact HN5.out | exact HN5.out.drew
      rintro e w6 ⟨rfl, HN6, c72, x0, x1, x2, y0, y1, y2, hbl⟩))
 have hbe : Beside [b3] w6 (((w6.setCell ⟨b3, 0, none⟩ (.int .i64 (nd : Int))).setCell ⟨b3, 1, none⟩ (.int .u64 (nx : Int))).setCell ⟨b3, 2, none⟩ (.int .u64 (tm : Int))) :=
  (((Beside.refl [b3] w6).setCell (by simp) _).setCell (by simp) _).setCell (by simp) _
 have HX6 := HX4.out.next HN6.out
 have hb36 : w6.heap[b3]? = some (.cells (ev.row Be me ke) 38 (0, 0)) := by rw [HB3E.out]; exact HX6.e
 have G10 := Lib.hid (show (((w6.setCell ⟨b3, 0, none⟩ (.int .i64 (nd : Int))).setCell ⟨b3, 1, none⟩ (.int .u64 (nx : Int))).setCell ⟨b3, 2, none⟩ (.int .u64 (tm : Int))).heap[b3]? = some (.cells ((asOwn ev nd nx tm).row Be me ke) 38 (0, 0)) from (heapSame (i := 2) (v := .int .u64 (tm : Int)) (heapSame (i := 1) (v := .int .u64 (nx : Int)) (heapSame (i := 0) (v := .int .i64 (nd : Int)) hb36))).trans rfl)
 have hz6 : w6.heap[b3 + 1]? = some (.cells zRowE 38 (0, 0)) := by rw [HB3E.out]; exact HX6.z
 have Z10 := Lib.hid ((hbe.block (b3 + 1) (Array.getElem?_eq_some_iff.1 hz6).1 (by simp)).trans hz6)
 have S10 := Lib.hid (HX6.sto.beside hbe (by simpa using hgb))
 have B10 := Lib.hid (Below.beside HX6.below hbe HX6.below.size (by simp; have := HB3E.out; omega))
 clear hbe HX6 hb36 hz6 c72 x0 x1 x2 y0 y1 y2 hbl NODE4 NEXT4
 generalize ((w6.setCell ⟨b3, 0, none⟩ (.int .i64 (nd : Int))).setCell ⟨b3, 1, none⟩ (.int .u64 (nx : Int))).setCell ⟨b3, 2, none⟩ (.int .u64 (tm : Int)) = w7 at G10 Z10 S10 B10 ⊢
 have G10r := G10.out
 unfold Ev.row asOwn at G10r
 obtain ⟨x0, x1, x2, x3, x4, x5, x6, x7⟩ := box8 G10r
 clear G10r
 have RI := right_any (asOwn ev nd nx tm) Be me ke w7 (own_fit HH.out.1 HND.out hnx64 (by have := HCK.out; have := HTM.out; omega)) HH.out.2.1 HH.out.2.2.1 HH.out.2.2.2
 rw [show rightE (asOwn ev nd nx tm) = 0 by rw [HTM.out]; exact HE.out] at RI
 have RI := Lib.hid RI
 unfold Ev.val asOwn at RI
 go_wp2_with fail
 refine RI.out.mono ?_
 rintro e w8 ⟨rfl, hb8⟩
 have Z11 := Lib.hid ((hb8.block _ (Array.getElem?_eq_some_iff.1 Z10.out).1).trans Z10.out)
 have G11 := Lib.hid ((hb8.block _ (Array.getElem?_eq_some_iff.1 G10.out).1).trans G10.out)
 have S11 := Lib.hid (S10.out.below hb8)
 have B11 := Lib.hid (B10.out.trans (hb8.mono B10.out.size))
 have G11r := G11.out
 unfold Ev.row asOwn at G11r
 obtain ⟨b4, hb4⟩ : ∃ b4, b4 = b3 + 1 := ⟨_, rfl⟩
 rw [← hb4] at Z11 ⊢
 have HB4 := Lib.hid hb4
 clear hb8 hb4 x0 x1 x2 x3 x4 x5 x6 x7 S10 G10 Z10 B10
 obtain ⟨x0, x1, x2, x3, x4, x5, x6, x7⟩ := box8 G11r
 clear G11r
 obtain ⟨h5, hnj, hnj64, hJn⟩ := H5.out
 have JN := joined_s g s nj w8 S11.out hnj64
 rw [hJn] at JN
 have JN := Lib.hid JN
 rw [h5] at x3
 rw [hnj] at x7
 clear h5 hnj hJn hnj64
 go_wp2_with fail
 refine JN.out.mono ?_
 rintro e w8 ⟨rfl, hb9⟩
 have Z11 := Lib.hid ((hb9.block _ (Array.getElem?_eq_some_iff.1 Z11.out).1).trans Z11.out)
 have G11 := Lib.hid ((hb9.block _ (Array.getElem?_eq_some_iff.1 G11.out).1).trans G11.out)
 have S11 := Lib.hid (S11.out.below hb9)
 have B11 := Lib.hid (B11.out.trans (hb9.mono B11.out.size))
 have G11r := G11.out
 unfold Ev.row asOwn at G11r
 clear hb9 x0 x1 x2 x3 x4 x5 x6 x7 JN
 obtain ⟨x0, x1, x2, x3, x4, x5, x6, x7⟩ := box8 G11r
 clear G11r
 obtain ⟨hC0, hf, hd, hfS, hgS, T, hse, hout, htx, hnx1, hkey⟩ := HD.out
 have hry : Right (asOwn ev nd nx tm) := (right_iff _).1 (by rw [HTM.out]; exact HE.out)
 have hsub : ∀ k ∈ S ++ [f], k ∈ g :: (S ++ [f]) := fun k hk => List.mem_cons.2 (.inr hk)
 have ADD : Calls Tryz.prog 37 #[.pointer (some ⟨g, 0, none⟩), .agg #[.int .i64 (nd : Int), .int .u64 (nx : Int), .int .u64 (tm : Int), .int .u8 (ev.kind : Int), .string ev.key, .slice Be me ke, .float .f64 ev.num, .int .i64 ev.node]] w8 fun e w' => e = .returned (.int .i64 0) ∧ Adds (g :: b4 :: X0) d f nd g nd C sz hnd hC S s (asOwn ev nd nx tm) (part1 nd (asOwn ev nd nx tm)) w8 w' :=
  add_0 (g :: b4 :: X0) d f nd g nd C sz S s (asOwn ev nd nx tm) Be me ke w8 hnd hC hC0 S11.out HF.out (hf.below B11.out) (hd.below B11.out) hfS hgS (by simp) (fun k hk => by
   have h4 := (Array.getElem?_eq_some_iff.1 Z11.out).1
   have hg := S11.out.lt
   rcases List.mem_cons.1 hk with rfl | hk
   ·exact hg
   ·rcases List.mem_cons.1 hk with rfl | hk
    ·exact h4
    ·exact Nat.lt_of_lt_of_le (HX0.out k hk) B11.out.size) (fun W hW => (T.below B11.out) W (hW.wider fun k hk => .inl (hsub k hk))) (hse.below B11.out) (fun h0 a ha hm => hout h0 a ha (hsub _ hm)) hry (own_fit HH.out.1 HND.out hnx64 (by have := HCK.out; have := HTM.out; omega)) htx hkey HND.out rfl (by show nx = 1; exact hnx1) (by have := HTM.out; show s.ck ≤ tm; omega)
 have hlow : ∀ k ∈ g :: (S ++ [f]), k < w.heap.size := fun k hk => by
  rcases List.mem_cons.1 hk with rfl | hk
  ·exact HS0.out.lt
  ·rcases List.mem_append.1 hk with h | h
   ·exact hd.lt _ h
   ·simp at h; subst h; exact hf.lt
 have hy3 : b3 ∉ g :: (S ++ [f]) := fun hm => by have := hlow _ hm; have := HB3E.out; omega
 have hy4 : b4 ∉ g :: (S ++ [f]) := fun hm => by have := hlow _ hm; have := HB3E.out; have := HB4.out; omega
 have T8 := T.below B11.out
 have HADD := Lib.hid ADD
 have HY := Lib.hid (And.intro hy3 (And.intro hy4 (And.intro T8 (And.intro hry hlow))))
 clear ADD hC0 hf hd hfS hgS T hse hout htx hkey hnx1 hry hsub hlow hy3 hy4 T8 HD
 go_wp2_with fail
 refine HADD.out.mono ?_
 rintro e w9 ⟨rfl, hs9, acts', O', ha, hF9, hO9, hb9⟩
 obtain ⟨hy3, hy4, T8, hry, hlow⟩ := HY.out
 have G12 := Lib.hid ((hb9.block b3 (Array.getElem?_eq_some_iff.1 G11.out).1 hy3).trans G11.out)
 have Z12 := Lib.hid ((hb9.block b4 (Array.getElem?_eq_some_iff.1 Z11.out).1 hy4).trans Z11.out)
 have hO3 : b3 ∉ O' ∧ b4 ∉ O' ∧ g ∉ O' := by
  have l3 := (Array.getElem?_eq_some_iff.1 G11.out).1
  have l4 := (Array.getElem?_eq_some_iff.1 Z11.out).1
  have lg := S11.out.lt
  refine ⟨fun hm => (hO9 _ hm).elim (fun h => hy3 (List.mem_cons.2 (.inr h))) (fun h => by omega), fun hm => (hO9 _ hm).elim (fun h => hy4 (List.mem_cons.2 (.inr h))) (fun h => by omega), fun hm => (hO9 _ hm).elim (HGS.out) (fun h => by omega)⟩
 have SYNC := @Fd.sync_any (ixS (g :: b4 :: X0) nd C hnd hC) d f nd sz 0 0 [part1 nd (asOwn ev nd nx tm)] 0 acts' O' w9 hF9 (T8.next hb9 fun k hk => (hO9 k hk).imp (fun h => List.mem_cons.2 (.inr h)) id) ⟨List.pairwise_singleton _ _, fun p hp => by simp at hp; subst hp; show 1 < _; omega⟩ HND.out (by simp) (by simp) (by omega)
  (by have h1 := part1_z (x := nd) hry; have h2 := head1 HND.out; have h3 := wrap_small hry HTX.out; simp; omega) (fun p hp => by simp at hp; subst hp; rw [part1_z hry]; exact Nat.le_add_right _ _) (fun p hp => by simp at hp)
 have SYNC := Lib.hid SYNC
 have H9 := Lib.hid (And.intro hs9 (And.intro hb9 (And.intro hO9 (And.intro hO3 ha))))
 clear hs9 hb9 hO9 hO3 ha hF9 hy3 hy4 T8 hry hlow HADD x0 x1 x2 x3 x4 x5 x6 x7
 go_wp2_with fail
 refine SYNC.out.mono ?_
 rintro e w10 ⟨rfl, acts2, ha2, O2, hF10, hb10, hk10⟩
 obtain ⟨hs9, hb9, hO9, hO3, ha⟩ := H9.out
 have G13 := Lib.hid ((hb10.block b3 (Array.getElem?_eq_some_iff.1 G12.out).1 hO3.1).trans G12.out)
 have Z13 := Lib.hid ((hb10.block b4 (Array.getElem?_eq_some_iff.1 Z12.out).1 hO3.2.1).trans Z12.out)
 have hse8 := HSE.out.1.below B11.out
 have hse10 := (hse8.beside hb9 HSE.out.2).beside hb10 (Out.next HSE.out.2 hse8 fun k hk => (hO9 k hk).imp (fun h => List.mem_cons.2 (.inr h)) id)
 have PL : Calls Tryz.prog 39 #[.agg #[.int .i64 (nd : Int), .int .u64 (nx : Int), .int .u64 (tm : Int), .int .u8 (ev.kind : Int), .string ev.key, .slice Be me ke, .float .f64 ev.num, .int .i64 ev.node]] w10 (PlainNew (asOwn ev nd nx tm) w10) := plain_new (asOwn ev nd nx tm) Be me ke w10 hse10 (by have := HTX.out; have := HH.out.2.1; omega)
 have HPL := Lib.hid PL
 have H10 := Lib.hid (And.intro (hs9.beside hb10 hO3.2.2) (And.intro (((Beside.of_below B11.out (g :: (S ++ [f]))).trans hb9 fun k hk => .inl hk).trans hb10 fun k hk => (hO9 k hk).imp (fun h => List.mem_cons.2 (.inr h)) (fun h => Nat.le_trans B11.out.size h)) (And.intro hF10 (And.intro (show ∀ k ∈ O2, k ∈ S ++ [f] ∨ w.heap.size ≤ k from fun k hk => (hk10 k hk).elim (fun h => (hO9 k h).imp id (fun h => Nat.le_trans B11.out.size h)) (fun h => .inr (Nat.le_trans B11.out.size (Nat.le_trans hb9.size h)))) (show acts2 ≤ 11 by simp at ha2; omega)))))
 have HO2 := Lib.hid (show b4 ∉ O2 from fun hm => (hk10 _ hm).elim hO3.2.1 (fun h => by have := (Array.getElem?_eq_some_iff.1 Z12.out).1; omega))
 have G13r := G13.out
 unfold Ev.row asOwn at G13r
 obtain ⟨x0, x1, x2, x3, x4, x5, x6, x7⟩ := box8 G13r
 clear G13r PL hse8 hse10 hs9 hb9 hO9 hO3 ha hF10 hb10 hk10 ha2 SYNC H9
 go_wp2_with fail
 refine HPL.out.mono ?_
 unfold PlainNew
 obtain ⟨z, hz⟩ : ∃ z, z = plainE (asOwn ev nd nx tm) := ⟨_, rfl⟩
 rw [← hz]
 rintro e w11 ⟨A', n', c', rfl, hs', hn', hc', hb11, hnew⟩
 have Z14 := Lib.hid ((hb11.block b4 (Array.getElem?_eq_some_iff.1 Z13.out).1).trans Z13.out)
 have HNEW := Lib.hid hnew
 have HS' := Lib.hid hs'
 have HB11 := Lib.hid hb11
 have HZ := Lib.hid hz
 clear hnew hs' hb11 hz hn' hc' x0 x1 x2 x3 x4 x5 x6 x7 G13 HPL
 unfold Ev.val
 go_wp2_with (first
  | (refine wpList_putRow rfl 38 (.tmp 4) (.tmp 77) rfl b4 38 zRowE (z.row A' n' c') rfl rfl Z14.out (by kernel_rfl) rfl (by simp [Ev.row, Value.oneCell']) ?_))
 intro w12 hW12 hbe12
 obtain ⟨hs10, hb10, hF10, hk10, ha⟩ := H10.out
 have hb4l : w.heap.size ≤ b4 := by have := HB4.out; have := HB3E.out; omega
 have hb410 : b4 < w10.heap.size := (Array.getElem?_eq_some_iff.1 Z13.out).1
 have hsee := HS'.out.beside hbe12 (fun h0 a ha hm => by
  simp at hm
  have := HNEW.out h0 a ha
  omega)
 have hgb4 : g ≠ b4 := by have := HS0.out.lt; omega
 have hb4O : b4 ∉ O2 := HO2.out
 have hF12 := @feed_beside (ixS (g :: b4 :: X0) nd C hnd hC) _ _ _ _ _ _ _ _ _ _ _ _ (@Fd.Feed.below (ixS (g :: b4 :: X0) nd C hnd hC) _ _ _ _ _ _ _ _ _ _ _ _ hF10 HB11.out) _ hbe12 (fun k hk => by
  simp at hk
  subst hk
  show k ∈ g :: k :: X0
  simp) (fun k hk => by
  simp at hk
  subst hk
  exact hb4O)
 have hx : b4 = w.heap.size + 1 := by have := HB4.out; have := HB3E.out; omega
 have FIN : Writes (g :: (w.heap.size + 1) :: X0) d f g nd C sz hnd hC S s (asOwn ev nd nx (s.ck + 1)) w (.returned (.tuple #[z.val A' n' c', .int .i64 0])) w12 := by
  rw [← HTM.out, ← hx]
  refine ⟨A', n', c', by rw [HZ.out], by rw [← HZ.out]; exact hsee, (hs10.below HB11.out).beside hbe12 (by simpa using hgb4), ⟨acts2, O2, ha, hF12, hk10⟩, (hb10.trans (Beside.of_below HB11.out (g :: (S ++ [f]))) fun k hk => .inl hk).trans hbe12 fun k hk => ?_⟩
  simp at hk
  subst hk
  exact .inr hb4l
 have FIN := Lib.hid FIN
 unfold Ev.row at hW12
 obtain ⟨k0, k1, k2, k3, k4, k5, k6, k7⟩ := box8 hW12
 clear hW12 hbe12 hs10 hb10 hF10 hk10 ha hb4l hb410 hsee hgb4 hb4O hF12 hx
 go_wp2
 refine bodyPost_ret (v := .tuple #[z.val A' n' c', .int .i64 0]) ?_ rfl FIN.out
 simp [results, Ev.val, Tryz.results7, go_sem, k0, k1, k2, k3, k4, k5, k6, k7]
end Go.Proofs.YtinjbdgjcadodaaGreatDoor.St
namespace Go.Proofs.YtinjbdgjcadodaaGreatDoor.St
open Go Go.RowKit Words Enc Go.Proofs.YtinjbdgjcadodaaGreatDoor.Made Dsk Seg Evt Fol
open Go.Proofs.YtinjbdgjcadodaaGreatDoor.Fd (XS xsX xsO xsC Feed FeedAt FNext Part SegS blk bx hdA Rise evsP)
structure Fresh (w0 w : World) (d g nd n C : Nat) (sz : Int) (hnd : nd < 64) (s : Sto) (S : List Nat) (f : Nat) : Prop where
 below : Below w0.heap.size w0 w
 sto : StoAt w g s
 node : s.node = (nd : Int)
 ck : s.ck = 0
 jn : ∀ k, k < 64 → s.J.getD k false = decide (k < n)
 rt : ∀ k, k < 64 → s.R.getD k false = false
 own : s.F[nd]? = some (.pointer (some ⟨f, 0, none⟩))
 all : ∀ i, i < 64 → ∃ f', s.F[i]? = some (.pointer (some ⟨f', 0, none⟩)) ∧ Bare w d f' i sz ∧ f' ∉ g :: S ∧ w0.heap.size ≤ f'
 disk : Disk w d S [mfile nd] ⟨(C : Int), 4, -1, 0, false⟩
 off : g ∉ S
 new : ∀ k ∈ g :: S, w0.heap.size ≤ k
 base : ∃ db mb, s.base = .pointer (some ⟨db, 0, none⟩) ∧ FoldAt w [db, mb] db mb (newF n) ∧ db ∉ g :: S ∧ mb ∉ g :: S ∧ w0.heap.size ≤ db ∧ w0.heap.size ≤ mb
 fl : s.fl = .slice none 0 0
 tm : s.tm = 0
theorem fold_any {w : World} {S S' : List Nat} {d mb : Nat} {F : Fo} (h : FoldAt w S d mb F) (h0 : F.L = []) (hd : d ∈ S') (hm : mb ∈ S') : FoldAt w S' d mb F := by
 obtain ⟨L, h1, h2, h3⟩ := h.map
 have : L = [] := by
  rw [h0] at h2
  cases L with
  | nil => rfl
  | cons a t => simp [mapV] at h2
 exact ⟨h.row, ⟨L, h1, h2, fun p hp => by rw [this] at hp; cases hp⟩, h.ok, h.ne, hd, hm⟩
theorem Fresh.bare {w0 w : World} {d g nd n C : Nat} {sz : Int} {hnd : nd < 64} {s : Sto} {S : List Nat} {f : Nat} (h : Fresh w0 w d g nd n C sz hnd s S f) : Bare w d f nd sz ∧ f ∉ g :: S ∧ w0.heap.size ≤ f := by
 obtain ⟨f', h1, h2, h3, h4⟩ := h.all nd hnd
 have h5 := h.own
 rw [h1] at h5
 injection h5 with h5
 injection h5 with h5
 injection h5 with h5
 injection h5 with h5
 subst h5
 exact ⟨h2, h3, h4⟩
theorem Fresh.next {w0 w w' : World} {d g nd n C : Nat} {sz : Int} {hnd : nd < 64} {s : Sto} {S : List Nat} {f : Nat} (h : Fresh w0 w d g nd n C sz hnd s S f) (hb : Below w.heap.size w w') : Fresh w0 w' d g nd n C sz hnd s S f :=
 ⟨h.below.trans (hb.mono h.below.size), h.sto.below hb, h.node, h.ck, h.jn, h.rt, h.own, fun i hi => by obtain ⟨f', h1, h2, h3, h4⟩ := h.all i hi; exact ⟨f', h1, h2.below hb, h3, h4⟩, h.disk.below hb, h.off, h.new, by obtain ⟨db, mb, h1, h2, h3⟩ := h.base; exact ⟨db, mb, h1, h2.below hb, h3⟩, h.fl, h.tm⟩
theorem Fresh.mem {w0 w : World} {d g nd n C : Nat} {sz : Int} {hnd : nd < 64} {s : Sto} {S : List Nat} {f : Nat} (h : Fresh w0 w d g nd n C sz hnd s S f) : memS s nd = decide (nd < n) := by
 unfold memS
 rw [h.jn nd hnd, h.rt nd hnd]
 simp
theorem newF_J (n k : Nat) (hk : k < 64) : (newF n).J.getD k false = decide (k < n) := by
 simp [newF, List.getD, hk]
theorem newF_R (n k : Nat) : (newF n).R.getD k false = false := by
 simp only [newF, List.getD_eq_getElem?_getD, List.getElem?_replicate]
 split <;> rfl
theorem open_freshB (d nd n C : Nat) (sz : Int) (S0 : List Nat) (w0 w : World) (T : Chk.Tabs w0) (ST : STabs w0) (hb : Below w0.heap.size w0 w) (hS0 : ∀ k ∈ S0, w0.heap.size ≤ k) (hd : Disk w d S0 [] ⟨(C : Int), 0, -1, 0, false⟩) (hnd : nd < 64) (hn : n ≤ 64) (hC : 10000 ≤ C ∧ C ≤ 1000000) :
  Calls Tryz.prog 31 #[.pointer (some ⟨d, 0, none⟩), .int .i64 (nd : Int), .int .i64 (n : Int), .int .i64 sz] w fun e w' => ∃ g s S f, e = .returned (.tuple #[.pointer (some ⟨g, 0, none⟩), .int .i64 0]) ∧ Fresh w0 w' d g nd n C sz hnd s S f ∧ Beside S0 w w' := by
 refine (open_0 d nd n C sz S0 w hd (TabsOn.of T ST hb hS0) hnd hn hC).mono ?_
 rintro e w' ⟨g, db, S, F, B, rfl, h⟩
 obtain ⟨f, hf1, hf2, hf3⟩ := h.op.fs nd hnd
 have hBw : w.heap.size ≤ B := by have := h.g0; have := h.gB; omega
 have h0w := hb.size
 have hsn : ∀ k ∈ S, w0.heap.size ≤ k := fun k hk => (h.new k hk).elim (hS0 k) (fun h => by omega)
 refine ⟨g, _, S, f, rfl, ⟨Below.beside hb h.frame hb.size hS0, h.op.sto, rfl, rfl, fun k hk => newF_J n k hk, fun k _ => newF_R n k, hf1, fun i hi => ?_, h.disk, h.off, fun k hk => ?_, ?_, rfl, rfl⟩, h.frame⟩
 ·obtain ⟨f', h1, h2, h3⟩ := h.op.fs i hi
  refine ⟨f', h1, h2, fun hm => ?_, by omega⟩
  rcases List.mem_cons.1 hm with rfl | hm
  ·have := h.gB; omega
  ·have := h.low _ hm; omega
 ·rcases List.mem_cons.1 hk with rfl | hk
  ·have := h.g0; omega
  ·exact hsn k hk
 ·obtain ⟨mb, h1, h2, h3, h4, h5⟩ := h.fold
  have hdg : db ≠ g := fun e => by
   have r1 := h1.row
   have r2 := h.op.sto.row
   rw [e, r2] at r1
   injection r1 with r1
   injection r1 with r1 r3 r4
   exact absurd r3 (by decide)
  have hmg : mb ≠ g := fun e => by
   obtain ⟨L, hm, -⟩ := h1.map
   have r2 := h.op.sto.row
   obtain ⟨D, ⟨es, clock, hb, r⟩, hs⟩ := hm
   rw [e, r2] at hb
   cases hb
  exact ⟨db, mb, rfl, fold_any h1 rfl (by simp) (by simp), by simp [hdg, h2], by simp [hmg, h3], by omega, by omega⟩
section
variable {w0 w : World} {d g nd n C : Nat} {sz : Int} {hnd : nd < 64} {s : Sto} {S : List Nat} {f : Nat}
theorem Fresh.nextC (h : Fresh w0 w d g nd n C sz hnd s S f) : ∀ W, Below w.heap.size w W → Calls Tryz.prog 35 #[.pointer (some ⟨f, 0, none⟩)] W fun e w' => e = .returned (.int .u64 ((1 : Nat) : Int)) ∧ Below W.heap.size W w' := fun W hW =>
 Fd.next_bare d f (nd : Int) sz 0 0 none 0 0 W (h.bare.1.below hW) (by omega)
structure Wrote (w0 w' : World) (d g nd C : Nat) (sz : Int) (hnd : nd < 64) (s : Sto) (S : List Nat) (f : Nat) (y : Ev) (e : Ending) : Prop where
 ends : ∃ A' n' c', e = .returned (.tuple #[(plainE y).val A' n' c', .int .i64 0]) ∧ Sees w' A' n' (plainE y).text
 sto : StoAt w' g (noteS s y)
 below : Below w0.heap.size w0 w'
theorem Fresh.fineY (X0 : List Nat) (hX0 : ∀ k ∈ X0, k < w.heap.size) (h : Fresh w0 w d g nd n C sz hnd s S f) (T : Chk.Tabs w0) (ST : STabs w0) (hC : C ≤ 1000000) (hC0 : 10000 ≤ C) (hn : nd < n) (ev : Ev) (Be : Option Addr) (me ke : Nat) (hsw : Sees w Be me ev.text) (hout : Out (g :: (S ++ [f])) Be me) (hfit : ev.Fit) (htx : ev.text.length ≤ 500) (hkey : ev.key.size ≤ 1048576) (hw : rightE (asOwn ev nd 1 1) = 0)
  (h5 : ev.kind = 5 → ∃ nj : Nat, ev.node = (nj : Int) ∧ nj < 64 ∧ ¬ nj < n) :
  Calls Tryz.prog 7 #[.pointer (some ⟨g, 0, none⟩), ev.val Be me ke] w (fun e w' => Writes (g :: (w.heap.size + 1) :: X0) d f g nd C sz hnd hC S s (asOwn ev nd 1 1) w e w' ∧ Wrote w0 w' d g nd C sz hnd s S f (asOwn ev nd 1 1) e) := by
 obtain ⟨hb1, hb2, hb3⟩ := h.bare
 have hlow : ∀ k ∈ g :: (S ++ [f]), w0.heap.size ≤ k := fun k hk => by
  rcases List.mem_cons.1 hk with rfl | hk
  ·exact h.new _ (by simp)
  ·rcases List.mem_append.1 hk with hk | hk
   ·exact h.new _ (List.mem_cons.2 (.inr hk))
   ·simp at hk; subst hk; exact hb3
 have hfS : f ∉ S := fun hm => hb2 (List.mem_cons.2 (.inr hm))
 have hgf : g ∉ S ++ [f] := fun hm => by
  rcases List.mem_append.1 hm with hm | hm
  ·exact h.off hm
  ·simp at hm; exact hb2 (by rw [hm]; simp)
 have hTT := TabsOn.of (S := g :: (S ++ [f])) T ST h.below hlow
 have hme : me = ev.text.length := hsw.1.symm
 have fin : ∀ e w', Writes (g :: (w.heap.size + 1) :: X0) d f g nd C sz hnd hC S s (asOwn ev nd 1 1) w e w' → Wrote w0 w' d g nd C sz hnd s S f (asOwn ev nd 1 1) e := fun e w' hw => by
  obtain ⟨A', n', c', h1, h2, h3, _, h4⟩ := hw
  exact ⟨⟨A', n', c', h1, h2⟩, h3, Below.beside h.below h4 h.below.size hlow⟩
 by_cases hk5 : ev.kind = 5
 ·obtain ⟨nj, hj1, hj2, hj3⟩ := h5 hk5
  have := write_ok5 X0 d C sz S g nd f 1 s ev Be me ke w h.sto hnd h.node (by rw [h.jn nd hnd]; exact decide_eq_true hn) (by rw [h.mem]; exact decide_eq_true hn) h.own (by rw [h.ck]; omega) (by omega) h.nextC hfit hme (by omega) (by omega) (by rw [h.ck]; exact hw) hC hC0 hb1 h.disk hfS hgf hTT hsw hout htx rfl hX0 hkey hk5 nj hj1 hj2 (by rw [h.jn nj hj2]; exact decide_eq_false hj3)
  rw [h.ck] at this
  exact this.mono fun e w' hw => ⟨hw, fin e w' hw⟩
 ·have := write_ok X0 d C sz S g nd f 1 s ev Be me ke w h.sto hnd h.node (by rw [h.jn nd hnd]; exact decide_eq_true hn) (by rw [h.mem]; exact decide_eq_true hn) h.own (by rw [h.ck]; omega) (by omega) h.nextC hfit hme (by omega) (by omega) (by rw [h.ck]; exact hw) hC hC0 hb1 h.disk hfS hgf hTT hsw hout htx rfl hX0 hkey hk5
  rw [h.ck] at this
  exact this.mono fun e w' hw => ⟨hw, fin e w' hw⟩
end
end Go.Proofs.YtinjbdgjcadodaaGreatDoor.St
namespace Go.Proofs.YtinjbdgjcadodaaGreatDoor.St
open Go Go.RowKit Words Enc Go.Proofs.YtinjbdgjcadodaaGreatDoor.Made Dsk Seg
open Mtx (noHav MatAt mat_new)
section
variable {P : Program} {ops : Array Oper} {rest : List Oper} {op : Oper} {a : Act} {w : World} {Q : Exit → Act → World → Prop}
end
theorem h0_64 : 0 < 64 := by decide
end Go.Proofs.YtinjbdgjcadodaaGreatDoor.St
