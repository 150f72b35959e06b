/- store: Write by a node that has not joined, or has retired. store: Write, up to event.Right. store: the manifest of a new store. store: an event is noted. -/
import Derived.Deep.RegionHeld3
import Derived.Deep.MidRow
import Derived.StillTailTactics
import Derived.Test.YtfkiajidcbefjaaGreatDoorSWp03
import Derived.Test.YtfkiajidcbefjaaGreatDoorSWp05
import Derived.Test.YtfkiajidcbefjaaGreatDoorSWp09
import Derived.Test.YtfkiajidcbefjaaGreatDoorSWp15
import Derived.Test.YtfkiajidcbefjaaGreatDoorSWp19
import Derived.Test.YtfkiajidcbefjaaGreatDoorSWp24
namespace Go.Proofs.YtfkiajidcbefjaaGreatDoor.St
open Go Go.RowKit Go.Proofs.YtfkiajidcbefjaaGreatDoor.Words Go.Proofs.YtfkiajidcbefjaaGreatDoor.Enc Go.Proofs.YtfkiajidcbefjaaGreatDoor.Made Go.Proofs.YtfkiajidcbefjaaGreatDoor.Evt
set_option linter.unusedVariables false
set_option linter.unusedSimpArgs false

def zRowE : Array Value := #[.int .i64 0, .int .u64 0, .int .u64 0, .int .u8 0, .string ⟨#[]⟩, .slice none 0 0, .float .f64 0, .int .i64 0]
def zEv : Value := .agg zRowE
/-- Write's two boxes. -/
structure Boxes (w u : World) (g : Nat) (s : Sto) (ev : Ev) (Be : Option Addr) (me ke : Nat) : Prop where
  below : Below w.heap.size w u
  sto : StoAt u g s
  e : u.heap[w.heap.size]? = some (.cells (ev.row Be me ke) 26 (0, 0))
  z : u.heap[w.heap.size + 1]? = some (.cells zRowE 26 (0, 0))
theorem boxes_new (w : World) (g : Nat) (s : Sto) (ev : Ev) (Be : Option Addr) (me ke : Nat) (hs : StoAt w g s) : Boxes w ((w.alloc (.cells (ev.row Be me ke) 26)).alloc (.cells zRowE 26)) g s ev Be me ke := by
  have h1 : Below w.heap.size w (w.alloc (.cells (ev.row Be me ke) 26)) := (Below.refl _ _).alloc (Nat.le_refl _) _
  have h2 : Below w.heap.size w ((w.alloc (.cells (ev.row Be me ke) 26)).alloc (.cells zRowE 26)) := h1.alloc h1.size _
  have e1 := heap_alloc_new w (.cells (ev.row Be me ke) 26)
  refine ⟨h2, hs.below h2, (Below.heap_alloc _ _ w.heap.size (by simp)).trans e1, ?_⟩
  have := heap_alloc_new (w.alloc (.cells (ev.row Be me ke) 26)) (.cells zRowE 26)
  rw [show (w.alloc (.cells (ev.row Be me ke) 26)).heap.size = w.heap.size + 1 by simp] at this
  exact this
theorem Boxes.next {w u v : World} {g : Nat} {s : Sto} {ev : Ev} {Be : Option Addr} {me ke : Nat} (h : Boxes w u g s ev Be me ke) (hb : Below u.heap.size u v) : Boxes w v g s ev Be me ke :=
  ⟨h.below.trans (hb.mono h.below.size), h.sto.below hb, (hb.block _ (Array.getElem?_eq_some_iff.1 h.e).1).trans h.e, (hb.block _ (Array.getElem?_eq_some_iff.1 h.z).1).trans h.z⟩
set_option maxRecDepth 100000 in
set_option maxHeartbeats 1000000 in
theorem write_member (g nd : Nat) (s : Sto) (ev : Ev) (Be : Option Addr) (me ke : Nat) (w : World) (hs : StoAt w g s) (hnd : nd < 64) (hn : s.node = (nd : Int)) (hJ : s.J.getD nd false = false) :
    Calls Tryz.prog 8 #[.pointer (some ⟨g, 0, none⟩), ev.val Be me ke] w fun e w' => e = .returned (.tuple #[zEv, .int .i64 11]) ∧ Below w.heap.size w w' := by
  have hsf := store_float Tryz.prog
  have hb := boxes_new w g s ev Be me ke hs
  obtain ⟨u, hu⟩ : ∃ u, u = (w.alloc (.cells (ev.row Be me ke) 26)).alloc (.cells zRowE 26) := ⟨_, rfl⟩
  rw [← hu] at hb
  unfold Ev.row zRowE at hu
  have HB := Lib.hid hb
  have NODE := Lib.hid (node_any g s u hb.sto)
  have JOIN := Lib.hid (joined_s g s nd u hb.sto hnd)
  rw [hn] at NODE
  rw [hJ] at JOIN
  have HU := Lib.hid hu
  have HB := Lib.hid hb
  clear hb hu hs hn hJ
  unfold Ev.val
  go_enter Tryz.func8, Tryz.ntmps8
  go_wp2_with fail
  rw [← HU.out]
  refine NODE.out.mono ?_
  rintro e w1 ⟨rfl, rfl⟩
  go_wp2_with fail
  refine JOIN.out.mono ?_
  rintro e w2 ⟨rfl, hb2⟩
  have HB2 := Lib.hid (HB.out.next hb2)
  clear hb2
  obtain ⟨b4, hb4⟩ : ∃ b4, b4 = w.heap.size + 1 := ⟨_, rfl⟩
  have G4 := HB2.out.z
  rw [← hb4] at G4 ⊢
  have G4 := Lib.hid G4
  have HB4 := Lib.hid hb4
  clear hb4
  go_wp2_with (first
    | (refine wpList_putRow rfl 26 (.tmp 4) (.tmp 20) rfl b4 26 zRowE zRowE rfl rfl G4.out (by kernel_rfl) rfl (by simp [zRowE, Value.oneCell']) ?_))
  intro w3 hW3 hbe3
  have BEL := Lib.hid (Below.beside HB2.out.below hbe3 HB2.out.below.size (by simp; have := HB4.out; omega))
  unfold zRowE at hW3
  obtain ⟨k0, k1, k2, k3, k4, k5, k6, k7⟩ := box8 hW3
  clear hW3 hbe3
  go_wp2
  refine bodyPost_ret (v := .tuple #[zEv, .int .i64 11]) ?_ rfl ⟨rfl, BEL.out⟩
  simp [results, zEv, zRowE, Tryz.results8, go_sem, k0, k1, k2, k3, k4, k5, k6, k7]
set_option maxRecDepth 100000 in
set_option maxHeartbeats 1000000 in
theorem write_retired (g nd : Nat) (s : Sto) (ev : Ev) (Be : Option Addr) (me ke : Nat) (w : World) (hs : StoAt w g s) (hnd : nd < 64) (hn : s.node = (nd : Int)) (hJ : s.J.getD nd false = true) (hR : memS s nd = false) :
    Calls Tryz.prog 8 #[.pointer (some ⟨g, 0, none⟩), ev.val Be me ke] w fun e w' => e = .returned (.tuple #[zEv, .int .i64 12]) ∧ Below w.heap.size w w' := by
  have hsf := store_float Tryz.prog
  have hb := boxes_new w g s ev Be me ke hs
  obtain ⟨u, hu⟩ : ∃ u, u = (w.alloc (.cells (ev.row Be me ke) 26)).alloc (.cells zRowE 26) := ⟨_, rfl⟩
  rw [← hu] at hb
  unfold Ev.row zRowE at hu
  have HB := Lib.hid hb
  have NODE := Lib.hid (node_any g s u hb.sto)
  have JOIN := Lib.hid (joined_s g s nd u hb.sto hnd)
  rw [hn] at NODE
  rw [hJ] at JOIN
  have MEM := Lib.hid (fun W (hW : Below u.heap.size u W) => (by have := member_s g s nd W (hb.sto.below hW) hnd; rw [hR] at this; exact this : Calls Tryz.prog 26 #[.pointer (some ⟨g, 0, none⟩), .int .i64 (nd : Int)] W fun e w' => e = .returned (.bool false) ∧ Below W.heap.size W w'))
  have NODE2 := Lib.hid (fun W (hW : Below u.heap.size u W) => (by have := node_any g s W (hb.sto.below hW); rw [hn] at this; exact this : Calls Tryz.prog 25 #[.pointer (some ⟨g, 0, none⟩)] W fun e w' => e = .returned (.int .i64 (nd : Int)) ∧ w' = W))
  have HU := Lib.hid hu
  have HB := Lib.hid hb
  clear hb hu hs hn hJ hR
  unfold Ev.val
  go_enter Tryz.func8, Tryz.ntmps8
  go_wp2_with fail
  rw [← HU.out]
  refine NODE.out.mono ?_
  rintro e w1 ⟨rfl, rfl⟩
  go_wp2_with fail
  refine JOIN.out.mono ?_
  rintro e w2 ⟨rfl, hb2⟩
  go_wp2_with fail
  refine (NODE2.out w2 hb2).mono ?_
  rintro e w2 ⟨rfl, rfl⟩
  go_wp2_with fail
  refine (MEM.out w2 hb2).mono ?_
  rintro e w3 ⟨rfl, hb3⟩
  replace hb2 := hb2.trans (hb3.mono hb2.size)
  clear hb3
  obtain ⟨w2, hw23⟩ : ∃ w2, w2 = w3 := ⟨_, rfl⟩
  rw [← hw23] at hb2 ⊢
  clear hw23
  have HB2 := Lib.hid (HB.out.next hb2)
  clear hb2
  obtain ⟨b4, hb4⟩ : ∃ b4, b4 = w.heap.size + 1 := ⟨_, rfl⟩
  have G4 := HB2.out.z
  rw [← hb4] at G4 ⊢
  have G4 := Lib.hid G4
  have HB4 := Lib.hid hb4
  clear hb4
  go_wp2_with (first
    | (refine wpList_putRow rfl 26 (.tmp 4) (.tmp 27) rfl b4 26 zRowE zRowE rfl rfl G4.out (by kernel_rfl) rfl (by simp [zRowE, Value.oneCell']) ?_))
  intro w3 hW3 hbe3
  have BEL := Lib.hid (Below.beside HB2.out.below hbe3 HB2.out.below.size (by simp; have := HB4.out; omega))
  unfold zRowE at hW3
  obtain ⟨k0, k1, k2, k3, k4, k5, k6, k7⟩ := box8 hW3
  clear hW3 hbe3
  go_wp2
  refine bodyPost_ret (v := .tuple #[zEv, .int .i64 12]) ?_ rfl ⟨rfl, BEL.out⟩
  simp [results, zEv, zRowE, Tryz.results8, go_sem, k0, k1, k2, k3, k4, k5, k6, k7]
end Go.Proofs.YtfkiajidcbefjaaGreatDoor.St
namespace Go.Proofs.YtfkiajidcbefjaaGreatDoor.St
open Go Go.RowKit Go.Proofs.YtfkiajidcbefjaaGreatDoor.Words Go.Proofs.YtfkiajidcbefjaaGreatDoor.Enc Go.Proofs.YtfkiajidcbefjaaGreatDoor.Made Go.Proofs.YtfkiajidcbefjaaGreatDoor.Evt
set_option linter.unusedVariables false
set_option linter.unusedSimpArgs false

/-- The event as it is written. -/
def asOwn (ev : Ev) (nd nx tm : Nat) : Ev := ⟨(nd : Int), nx, tm, ev.kind, ev.key, ev.text, ev.num, ev.node⟩
theorem own_fit {ev : Ev} {nd nx tm : Nat} (h : ev.Fit) (hn : nd < 64) (h1 : nx < 18446744073709551616) (h2 : tm < 18446744073709551616) : (asOwn ev nd nx tm).Fit :=
  ⟨by show _ ≤ (nd : Int); omega, by show (nd : Int) ≤ _; omega, h1, h2, h.k, h.q, h.n1, h.n2⟩
set_option maxRecDepth 100000 in
set_option maxHeartbeats 4000000 in
theorem write_wrong (g nd f nx : Nat) (s : Sto) (ev : Ev) (Be : Option Addr) (me ke : Nat) (w : World) (hs : StoAt w g s) (hnd : nd < 64) (hn : s.node = (nd : Int)) (hJ : s.J.getD nd false = true) (hR : memS s nd = true) (hF : s.F[nd]? = some (.pointer (some ⟨f, 0, none⟩))) (hck : s.ck < 9223372036854775808) (hnx64 : nx < 18446744073709551616)
    (hnx : ∀ W, Below w.heap.size w W → Calls Tryz.prog 27 #[.pointer (some ⟨f, 0, none⟩)] W fun e w' => e = .returned (.int .u64 (nx : Int)) ∧ Below W.heap.size W w')
    (hfit : ev.Fit) (hme : me = ev.text.length) (hl : ev.text.length ≤ 9223372036854775807) (hl2 : ev.key.size ≤ 9223372036854775807) (hwrong : rightE (asOwn ev nd nx (s.ck + 1)) ≠ 0) :
    Calls Tryz.prog 8 #[.pointer (some ⟨g, 0, none⟩), ev.val Be me ke] w fun e w' => e = .returned (.tuple #[zEv, .int .i64 (rightE (asOwn ev nd nx (s.ck + 1)) : Int)]) ∧ Below w.heap.size w w' := by
  have hsf := store_float Tryz.prog
  have hb := boxes_new w g s ev Be me ke hs
  obtain ⟨u, hu⟩ : ∃ u, u = (w.alloc (.cells (ev.row Be me ke) 26)).alloc (.cells zRowE 26) := ⟨_, rfl⟩
  rw [← hu] at hb
  unfold Ev.row zRowE at hu
  have HB := Lib.hid hb
  have NODE := Lib.hid (fun W (hW : Below u.heap.size u W) => (by have := node_any g s W (hb.sto.below hW); rw [hn] at this; exact this : Calls Tryz.prog 25 #[.pointer (some ⟨g, 0, none⟩)] W fun e w' => e = .returned (.int .i64 (nd : Int)) ∧ w' = W))
  have JOIN := Lib.hid (joined_s g s nd u hb.sto hnd)
  rw [hJ] at JOIN
  have MEM := Lib.hid (fun W (hW : Below u.heap.size u W) => (by have := member_s g s nd W (hb.sto.below hW) hnd; rw [hR] at this; exact this : Calls Tryz.prog 26 #[.pointer (some ⟨g, 0, none⟩), .int .i64 (nd : Int)] W fun e w' => e = .returned (.bool true) ∧ Below W.heap.size W w'))
  have HU := Lib.hid hu
  have HN := Lib.hid hn
  have HND := Lib.hid hnd
  have HF := Lib.hid hF
  have NX := Lib.hid hnx
  have HCK := Lib.hid hck
  have HS0 := Lib.hid hs
  have hnd64 : (nd : Int) < 64 := by omega
  have hwr : IntKind.u64.wrap ((s.ck : Int) + 1) = ((s.ck + 1 : Nat) : Int) := by rw [IntKind.wrap_u64]; omega
  clear hb hu hs hn hJ hR hnd hF hnx hck
  obtain ⟨E, hE⟩ : ∃ E, E = rightE (asOwn ev nd nx (s.ck + 1)) := ⟨_, rfl⟩
  rw [← hE] at hwrong ⊢
  have HH := Lib.hid (And.intro hfit (And.intro hme (And.intro hl hl2)))
  have hE1 : ((E : Int) == 0) = false := by rw [beq_eq_false_iff_ne]; omega
  have HE := Lib.hid hE
  clear hfit hme hl hl2 hwrong hE
  obtain ⟨tm, htm⟩ : ∃ tm, tm = s.ck + 1 := ⟨_, rfl⟩
  rw [← htm] at hwr
  have HTM := Lib.hid htm
  clear htm
  unfold Ev.val
  go_enter Tryz.func8, Tryz.ntmps8
  go_wp2_with fail
  rw [← HU.out]
  refine (NODE.out u (Below.refl _ _)).mono ?_
  rintro e w1 ⟨rfl, rfl⟩
  go_wp2_with fail
  refine JOIN.out.mono ?_
  rintro e w2 ⟨rfl, hb2⟩
  go_wp2_with fail
  refine (NODE.out w2 hb2).mono ?_
  rintro e w2 ⟨rfl, rfl⟩
  go_wp2_with fail
  refine (MEM.out w2 hb2).mono ?_
  rintro e w3 ⟨rfl, hb3⟩
  have HB3 := Lib.hid (hb2.trans (hb3.mono hb2.size))
  have HX3 := Lib.hid (HB.out.next HB3.out)
  have FC := fun (W : World) (hW : Below w3.heap.size w3 W) => (HX3.out.sto.below hW).cF HND.out HF.out
  have NODE3 : ∀ W, Below w3.heap.size w3 W → Calls Tryz.prog 25 #[.pointer (some ⟨g, 0, none⟩)] W fun e w' => e = .returned (.int .i64 (nd : Int)) ∧ Hid (Below w3.heap.size w3 w') ∧ w'.cell? ⟨g, 8 + nd, none⟩ = some (.pointer (some ⟨f, 0, none⟩)) := fun W hW => by
    refine (NODE.out W (HB3.out.trans (hW.mono HB3.out.size))).mono ?_
    rintro e w' ⟨rfl, rfl⟩
    exact ⟨rfl, Lib.hid hW, FC _ hW⟩
  have cF := FC w3 (Below.refl _ _)
  have q0 : (0 : Int) ≤ (nd : Int) := by omega
  clear hb2 hb3 FC MEM JOIN
  go_upto_region 7 with fail
  go_region_held3 (fun w' => w'.cell? ⟨g, 8 + nd, none⟩ = some (.pointer (some ⟨f, 0, none⟩))) (go_keep)
    (first
      | (go_at_call 25
         refine (NODE3 _ ?h1).mono ?_
         case h1 => first | exact Below.refl _ _ | exact (Below.refl _ _).drew
         rintro e w4 ⟨rfl, HN4, cF⟩))
  have HX4 := Lib.hid (HX3.out.next HN4.out)
  have HB4 := Lib.hid (HB3.out.trans (HN4.out.mono HB3.out.size))
  obtain ⟨b3, hb3⟩ : ∃ b3, b3 = w.heap.size := ⟨_, rfl⟩
  have G3 := HX4.out.e
  rw [← hb3] at G3 ⊢
  have HB3E := Lib.hid hb3
  have hgb : ¬ g = b3 := by have := HS0.out.lt; omega
  have hbg : ¬ b3 = g := by omega
  unfold Ev.row at G3
  have R8 := fun (W : World) (hW : Below w4.heap.size w4 W) => (by
    have k3 := (hW.block b3 (Array.getElem?_eq_some_iff.1 G3).1).trans G3
    obtain ⟨x0, x1, x2, _⟩ := box8 k3
    exact ⟨(HX4.out.sto.below hW).cC, x0, x1, x2, frozen_row0 k3, frozen_row0 k3, frozen_row0 k3, (Array.getElem?_eq_some_iff.1 k3).1⟩ : W.cell? ⟨g, 72, none⟩ = some (.int .u64 (s.ck : Int)) ∧ W.cell? ⟨b3, 0, none⟩ = some (.int .i64 ev.writer) ∧ W.cell? ⟨b3, 1, none⟩ = some (.int .u64 (ev.seq : Int)) ∧ W.cell? ⟨b3, 2, none⟩ = some (.int .u64 (ev.time : Int)) ∧ W.frozen? ⟨b3, 0, none⟩ = false ∧ W.frozen? ⟨b3, 1, none⟩ = false ∧ W.frozen? ⟨b3, 2, none⟩ = false ∧ b3 < W.heap.size)
  have NODE4 : ∀ W, Below w4.heap.size w4 W → Calls Tryz.prog 25 #[.pointer (some ⟨g, 0, none⟩)] W fun e w' => e = .returned (.int .i64 (nd : Int)) ∧ Hid (Below w4.heap.size w4 w') ∧ w'.cell? ⟨g, 72, none⟩ = some (.int .u64 (s.ck : Int)) ∧ w'.cell? ⟨b3, 0, none⟩ = some (.int .i64 ev.writer) ∧ w'.cell? ⟨b3, 1, none⟩ = some (.int .u64 (ev.seq : Int)) ∧ w'.cell? ⟨b3, 2, none⟩ = some (.int .u64 (ev.time : Int)) ∧ w'.frozen? ⟨b3, 0, none⟩ = false ∧ w'.frozen? ⟨b3, 1, none⟩ = false ∧ w'.frozen? ⟨b3, 2, none⟩ = false ∧ b3 < w'.heap.size := fun W hW => by
    refine (NODE.out W (HB4.out.trans (hW.mono HB4.out.size))).mono ?_
    rintro e w' ⟨rfl, rfl⟩
    exact ⟨rfl, Lib.hid hW, R8 _ hW⟩
  have NEXT4 : ∀ W, Below w4.heap.size w4 W → Calls Tryz.prog 27 #[.pointer (some ⟨f, 0, none⟩)] W fun e w' => e = .returned (.int .u64 (nx : Int)) ∧ Hid (Below w4.heap.size w4 w') ∧ w'.cell? ⟨g, 72, none⟩ = some (.int .u64 (s.ck : Int)) ∧ w'.cell? ⟨b3, 0, none⟩ = some (.int .i64 ev.writer) ∧ w'.cell? ⟨b3, 1, none⟩ = some (.int .u64 (ev.seq : Int)) ∧ w'.cell? ⟨b3, 2, none⟩ = some (.int .u64 (ev.time : Int)) ∧ w'.frozen? ⟨b3, 0, none⟩ = false ∧ w'.frozen? ⟨b3, 1, none⟩ = false ∧ w'.frozen? ⟨b3, 2, none⟩ = false ∧ b3 < w'.heap.size := fun W hW => by
    have hbu := HB4.out.trans (hW.mono HB4.out.size)
    refine (NX.out W (HB.out.below.trans (hbu.mono HB.out.below.size))).mono ?_
    rintro e w' ⟨rfl, hb⟩
    have hb2 := hW.trans (hb.mono hW.size)
    exact ⟨rfl, Lib.hid hb2, R8 _ hb2⟩
  obtain ⟨c72, x0, x1, x2, y0, y1, y2, hbl⟩ := R8 w4 (Below.refl _ _)
  have G3H := Lib.hid G3
  clear R8 cF NODE3 G3 hb3
  go_upto_region 8 with fail
  go_region_held3 (fun w' => w'.cell? ⟨g, 72, none⟩ = some (.int .u64 (s.ck : Int))) (go_keep)
    (first
      | (go_at_call 25
         refine (NODE4 _ ?h1).mono ?_
         case h1 => first | exact Below.refl _ _ | exact (Below.refl _ _).drew | exact HN6.out | exact HN6.out.drew
         rintro e w5 ⟨rfl, HN5, c72, x0, x1, x2, y0, y1, y2, hbl⟩)
      | (go_at_call 27
         refine (NEXT4 _ ?h1).mono ?_
         case h1 => first | exact Below.refl _ _ | exact (Below.refl _ _).drew | exact HN5.out | exact HN5.out.drew
         rintro e w6 ⟨rfl, HN6, c72, x0, x1, x2, y0, y1, y2, hbl⟩))
  have hbe : Beside [b3] w6 (((w6.setCell ⟨b3, 0, none⟩ (.int .i64 (nd : Int))).setCell ⟨b3, 1, none⟩ (.int .u64 (nx : Int))).setCell ⟨b3, 2, none⟩ (.int .u64 (tm : Int))) :=
    (((Beside.refl [b3] w6).setCell (by simp) _).setCell (by simp) _).setCell (by simp) _
  have HX6 := HX4.out.next HN6.out
  have hb36 : w6.heap[b3]? = some (.cells (ev.row Be me ke) 26 (0, 0)) := by rw [HB3E.out]; exact HX6.e
  have G10 := Lib.hid (show (((w6.setCell ⟨b3, 0, none⟩ (.int .i64 (nd : Int))).setCell ⟨b3, 1, none⟩ (.int .u64 (nx : Int))).setCell ⟨b3, 2, none⟩ (.int .u64 (tm : Int))).heap[b3]? = some (.cells ((asOwn ev nd nx tm).row Be me ke) 26 (0, 0)) from (heapSame (i := 2) (v := .int .u64 (tm : Int)) (heapSame (i := 1) (v := .int .u64 (nx : Int)) (heapSame (i := 0) (v := .int .i64 (nd : Int)) hb36))).trans rfl)
  have hz6 : w6.heap[b3 + 1]? = some (.cells zRowE 26 (0, 0)) := by rw [HB3E.out]; exact HX6.z
  have Z10 := Lib.hid ((hbe.block (b3 + 1) (Array.getElem?_eq_some_iff.1 hz6).1 (by simp)).trans hz6)
  have S10 := Lib.hid (HX6.sto.beside hbe (by simpa using hgb))
  have B10 := Lib.hid (Below.beside HX6.below hbe HX6.below.size (by simp; have := HB3E.out; omega))
  clear hbe HX6 hb36 hz6 c72 x0 x1 x2 y0 y1 y2 hbl NODE4 NEXT4
  generalize ((w6.setCell ⟨b3, 0, none⟩ (.int .i64 (nd : Int))).setCell ⟨b3, 1, none⟩ (.int .u64 (nx : Int))).setCell ⟨b3, 2, none⟩ (.int .u64 (tm : Int)) = w7 at G10 Z10 S10 B10 ⊢
  have G10r := G10.out
  unfold Ev.row asOwn at G10r
  obtain ⟨x0, x1, x2, x3, x4, x5, x6, x7⟩ := box8 G10r
  clear G10r
  have RI := right_any (asOwn ev nd nx tm) Be me ke w7 (own_fit HH.out.1 HND.out hnx64 (by have := HCK.out; have := HTM.out; omega)) HH.out.2.1 HH.out.2.2.1 HH.out.2.2.2
  rw [show rightE (asOwn ev nd nx tm) = E by rw [HE.out, HTM.out]] at RI
  have RI := Lib.hid RI
  unfold Ev.val asOwn at RI
  go_wp2_with fail
  refine RI.out.mono ?_
  rintro e w8 ⟨rfl, hb8⟩
  have Z11 := Lib.hid ((hb8.block _ (Array.getElem?_eq_some_iff.1 Z10.out).1).trans Z10.out)
  have B11 := Lib.hid (B10.out.trans (hb8.mono B10.out.size))
  obtain ⟨b4, hb4⟩ : ∃ b4, b4 = b3 + 1 := ⟨_, rfl⟩
  rw [← hb4] at Z11 ⊢
  have HB4 := Lib.hid hb4
  clear hb8 hb4 x0 x1 x2 x3 x4 x5 x6 x7
  go_wp2_with (first
    | (refine wpList_putRow rfl 26 (.tmp 4) (.tmp 51) rfl b4 26 zRowE zRowE rfl rfl Z11.out (by kernel_rfl) rfl (by simp [zRowE, Value.oneCell']) ?_))
  intro w9 hW9 hbe9
  have BEL := Lib.hid (Below.beside B11.out hbe9 B11.out.size (by simp; have := HB4.out; have := HB3E.out; omega))
  unfold zRowE at hW9
  obtain ⟨k0, k1, k2, k3, k4, k5, k6, k7⟩ := box8 hW9
  clear hW9 hbe9
  go_wp2
  refine bodyPost_ret (v := .tuple #[zEv, .int .i64 (E : Int)]) ?_ rfl ⟨rfl, BEL.out⟩
  simp [results, zEv, zRowE, Tryz.results8, go_sem, k0, k1, k2, k3, k4, k5, k6, k7]
end Go.Proofs.YtfkiajidcbefjaaGreatDoor.St
namespace Go.Proofs.YtfkiajidcbefjaaGreatDoor.St
open Go Go.RowKit Go.Proofs.YtfkiajidcbefjaaGreatDoor.Words Go.Proofs.YtfkiajidcbefjaaGreatDoor.Enc Go.Proofs.YtfkiajidcbefjaaGreatDoor.Made Go.Proofs.YtfkiajidcbefjaaGreatDoor.Dsk Go.Proofs.YtfkiajidcbefjaaGreatDoor.Seg
set_option linter.unusedVariables false
set_option linter.unusedSimpArgs false

/-- The manifest of a new store. -/
def mn0 (nd : Nat) : Man.Mn := ⟨(nd : Int), 1, [], 0, ⟨#[]⟩⟩
def mbytes (nd : Nat) : List UInt8 := Man.fileL (mn0 nd)
def mfile (nd : Nat) : File := ⟨Man.mN, mbytes nd, (mbytes nd).length⟩
theorem mn0_fits (nd : Nat) : Vec.Fits (mn0 nd).floor := fun j => by simp [mn0, Vec.at_]
theorem mn0_may {nd : Nat} (h : nd < 64) : Man.mayB (mn0 nd) = true := by
  have h1 : decide ((0 : Int) ≤ (nd : Int)) = true := decide_eq_true (by omega)
  have h2 : decide ((nd : Int) < 64) = true := decide_eq_true (by omega)
  show (decide ((0 : Int) ≤ (nd : Int)) && decide ((nd : Int) < 64) && Man.foldB ⟨#[]⟩) = true
  rw [h1, h2]
  rfl
theorem mbytes_len {nd : Nat} (h : nd < 64) : (mbytes nd).length ≤ 2100 := by
  have hn : 0 ≤ (mn0 nd).node ∧ (mn0 nd).node < 64 := by simp only [mn0]; omega
  exact (Man.fileL_len hn (by simp [mn0]) (Man.manL_small hn (by simp [mn0]) (by simp [mn0]) (mn0_fits nd) (by simp [mn0]) (by show (0 : Nat) ≤ 1000; omega))).1
theorem StoAt.setM {w : World} {g : Nat} {s : Sto} (h : StoAt w g s) (nd : Int) (sr tm : Nat) (fl : Value) (fo : ByteArray) :
    StoAt (w.setCells g 2 [.int .i64 nd, .int .u64 (sr : Int), fl, .int .u64 (tm : Int), .string fo]) g { s with node := nd, ser := sr, fl := fl, tm := tm, fo := fo } := by
  refine ⟨?_, ⟨h.ok.f, h.ok.j, h.ok.r⟩⟩
  have := heapSame (i := 6) (v := .string fo) (heapSame (i := 5) (v := .int .u64 (tm : Int)) (heapSame (i := 4) (v := fl) (heapSame (i := 3) (v := .int .u64 (sr : Int)) (heapSame (i := 2) (v := .int .i64 nd) h.row))))
  refine Eq.trans this ?_
  unfold Sto.row
  simp only [List.setIfInBounds_toArray]
  rfl
theorem setM_beside (w : World) (g : Nat) (a b c d e : Value) : Beside [g] w (w.setCells g 2 [a, b, c, d, e]) :=
  (((((Beside.refl [g] w).setCell (by simp) a).setCell (by simp) b).setCell (by simp) c).setCell (by simp) d).setCell (by simp) e
set_option maxRecDepth 100000 in
set_option maxHeartbeats 1000000 in
theorem identify_0 (g nd C : Nat) (s : Sto) (S : List Nat) (w : World) (hs : StoAt w g s) (hd : Disk w s.d S [] ⟨(C : Int), 0, -1, 0, false⟩) (hgS : g ∉ S) (T : TabsOn S w) (hnd : nd < 64) (hC : 10000 ≤ C ∧ C ≤ 1000000) :
    Calls Tryz.prog 42 #[.pointer (some ⟨g, 0, none⟩), .int .i64 (nd : Int)] w fun e w' => e = .returned (.int .i64 0) ∧ StoAt w' g { s with node := (nd : Int), ser := 1, fl := .slice none 0 0, tm := 0, fo := ⟨#[]⟩ } ∧ Beside (g :: S) w w' ∧ ∃ S', Disk w' s.d S' [mfile nd] ⟨(C : Int), 4, -1, 0, false⟩ ∧ (∀ k ∈ S', k ∈ S ∨ w.heap.size ≤ k) := by
  have hg0 := hs.lt
  have RD := (Man.read_err s.d 2 w (.inl rfl) fun W hW => (Sht.read_none s.d S [] _ Man.mN W (hd.below hW) (by simp) (by simp [sumA]) rfl (by simp [lookA])))
  rw [show Man.errM 2 = 2 from rfl] at RD
  have RD := Lib.hid RD
  have HS := Lib.hid hs
  have HD := Lib.hid hd
  have HT := Lib.hid T
  have HM := Lib.hid (And.intro (mn0_may hnd) (mbytes_len hnd))
  have HC := Lib.hid hC
  have HGS := Lib.hid hgS
  obtain ⟨c0, _⟩ := hs.head
  clear hs hd T hgS hC
  go_enter Tryz.func42, Tryz.ntmps42
  go_wp2_with fail
  refine RD.out.mono ?_
  rintro e w1 ⟨rfl, hb1⟩
  have B1 := Lib.hid hb1
  have ha1 : Below w1.heap.size w1 (w1.alloc (.cells #[.int .i64 0, .int .u64 0, .slice none 0 0, .int .u64 0, .string ⟨#[]⟩] 74)) := (Below.refl _ _).alloc (Nat.le_refl _) _
  have Z1 := Lib.hid (heap_alloc_new w1 (.cells #[.int .i64 0, .int .u64 0, .slice none 0 0, .int .u64 0, .string ⟨#[]⟩] 74))
  have HA1 := Lib.hid (B1.out.trans (ha1.mono B1.out.size))
  clear hb1 ha1
  unfold Man.zeroM
  go_wp2_with (first | (refine wpList_putRow rfl 74 (.tmp 5) (.tmp 13) rfl w1.heap.size 74 #[.int .i64 0, .int .u64 0, .slice none 0 0, .int .u64 0, .string ⟨#[]⟩] #[.int .i64 0, .int .u64 0, .slice none 0 0, .int .u64 0, .string ⟨#[]⟩] rfl rfl ?g1 (by kernel_rfl) rfl (by simp [Value.oneCell']) ?_))
  case g1 => exact Z1.out
  intro w2 hW2 hbe2
  have hbS : ∀ k ∈ [w1.heap.size], w.heap.size ≤ k := fun k hk => by simp at hk; have := B1.out.size; omega
  have B2 := Lib.hid (Below.beside HA1.out hbe2 HA1.out.size hbS)
  have G2 := Lib.hid hW2
  clear hW2 hbe2 Z1 HA1
  go_wp2_with (first | (refine wpList_putRow rfl 74 (.tmp 5) (.tmp 19) rfl w1.heap.size 74 #[.int .i64 0, .int .u64 0, .slice none 0 0, .int .u64 0, .string ⟨#[]⟩] #[.int .i64 (nd : Int), .int .u64 1, .slice none 0 0, .int .u64 0, .string ⟨#[]⟩] rfl rfl ?g1 (by kernel_rfl) rfl (by simp [Value.oneCell']) ?_))
  case g1 => exact G2.out
  intro w3 hW3 hbe3
  have B3 := Lib.hid (Below.beside B2.out hbe3 B2.out.size hbS)
  obtain ⟨m, hm⟩ : ∃ m, m = w1.heap.size := ⟨_, rfl⟩
  rw [← hm] at hW3
  have hmw : w.heap.size ≤ m := by rw [hm]; exact B1.out.size
  have hml := (Array.getElem?_eq_some_iff.1 hW3).1
  have hs3 := HS.out.below B3.out
  have hd3 := HD.out.below B3.out
  have c03 := hs3.head.1
  obtain ⟨m0, m1, m2, m3, m4⟩ := Man.box5 hW3
  have hbd : Below w.heap.size w w3.drew := B3.out.drew
  have WR := Man.write_any s.d S [] _ (mn0 nd) none 0 0 w3.drew (fun W hW => ((HT.out.below hbd) W hW).1) (HD.out.below hbd) (Sht.hd_fits5 (by have := HC.out; simp only []; omega) (by have := HC.out; simp only []; omega) (by simp) (by simp) (by simp) (by simp) (by simp)) (by simp) HM.out.1 (by simp [mn0]) (by simp [mn0]) ⟨Vec.SeesU.nil _ _, mn0_fits nd, Nat.le_refl _, by omega, by omega⟩ (by omega) (by simp [sumA]) (by simp)
  rw [Sht.swap_newN Man.mN_ne (room := (C : Int)) (left := -1) (torn := 0) (acts := 0) (q := Man.fileL (mn0 nd)) (by decide) (by have := HM.out.2; have := HC.out; show ((mbytes nd).length : Int) ≤ _; omega)] at WR
  have WR := Lib.hid WR
  have G3 := Lib.hid hW3
  have HB3 := Lib.hid hbd
  have HMM := Lib.hid (And.intro hm (And.intro hmw hml))
  rw [← hm]
  clear hm hs3 hd3 hbd hW3 hbe3 B2 G2 hbS c0 hmw hml
  unfold Man.Mn.val Man.Mn.row mn0 at WR
  go_wp2
  go_still_tail 5, (by kernel_rfl)
  change wpList _ _ _ _ _ w3.drew
  go_wp2_with fail
  refine WR.out.mono ?_
  rintro e w4 ⟨rfl, S', hd4, hb4, hk4⟩
  obtain ⟨hm, hmw, hml⟩ := HMM.out
  have hmS : m ∉ S := fun h => by have := HD.out.lt _ h; omega
  have hgS := HGS.out
  have G4 := (hb4.block m (show m < w3.drew.heap.size from hml) hmS).trans (show w3.drew.heap[m]? = _ from G3.out)
  obtain ⟨m0, m1, m2, m3, m4⟩ := Man.box5 G4
  have hs4 := (HS.out.below HB3.out).beside hb4 hgS
  have FIN := Lib.hid (And.intro (hs4.setM (nd : Int) 1 0 (.slice none 0 0) ⟨#[]⟩) (And.intro ((((Beside.of_below HB3.out (g :: S)).trans hb4 fun k hk => .inl (List.mem_cons.2 (.inr hk)))).trans (setM_beside w4 g (.int .i64 (nd : Int)) (.int .u64 ((1 : Nat) : Int)) (.slice none 0 0) (.int .u64 ((0 : Nat) : Int)) (.string ⟨#[]⟩)) fun k hk => .inl (by simp at hk; simp [hk]))
    (And.intro (hd4.beside (setM_beside w4 g (.int .i64 (nd : Int)) (.int .u64 ((1 : Nat) : Int)) (.slice none 0 0) (.int .u64 ((0 : Nat) : Int)) (.string ⟨#[]⟩)) (fun k hk hm => by
      simp at hk
      subst hk
      exact (hk4 _ hm).elim hgS (fun h => by have := HS.out.lt; have := HB3.out.size; omega))) (fun k hk => (hk4 k hk).imp id (fun h => Nat.le_trans HB3.out.size h)))))
  have TH : w4.there g 2 5 := fun j hj => by
    have hr := hs4.row
    refine ⟨?_, frozen_row0 hr⟩
    rw [cell_of_row w4 g _ _ _ _ hr]
    have hz := row_size hs4.ok
    rw [Array.getElem?_eq_getElem (by omega)]
    rfl
  have HTH := Lib.hid TH
  have G4H := Lib.hid G4
  clear hd4 hb4 hk4 hs4 hgS hmS TH c03 WR G3 G4 hm hmw hml
  go_wp2_with (first
    | (refine wpList_getRow rfl 74 (.tmp 5) rfl m 74 #[.int .i64 (nd : Int), .int .u64 1, .slice none 0 0, .int .u64 0, .string ⟨#[]⟩] (0, 0) _ rfl G4H.out Tryz.underlying74 rfl (by kernel_rfl) ?_)
    | (refine wpList_store_mid rfl 74 (.tmp 38) (.tmp 36) rfl g 2 #[.int .i64 (nd : Int), .int .u64 1, .slice none 0 0, .int .u64 0, .string ⟨#[]⟩] rfl rfl HTH.out (by kernel_rfl) (by simp [Value.oneCell']) ?_))
  go_ret
  exact ⟨rfl, FIN.out.1, FIN.out.2.1, S', FIN.out.2.2.1, FIN.out.2.2.2⟩
end Go.Proofs.YtfkiajidcbefjaaGreatDoor.St
namespace Go.Proofs.YtfkiajidcbefjaaGreatDoor.St
open Go Go.RowKit Go.Proofs.YtfkiajidcbefjaaGreatDoor.Words Go.Proofs.YtfkiajidcbefjaaGreatDoor.Enc Go.Proofs.YtfkiajidcbefjaaGreatDoor.Made Go.Proofs.YtfkiajidcbefjaaGreatDoor.Evt
set_option linter.unusedVariables false
set_option linter.unusedSimpArgs false

/-- What follows from an event besides. -/
def noteS (s : Sto) (e : Ev) : Sto := { s with ck := e.time, J := if e.kind = 5 then s.J.set e.node.toNat true else s.J, R := if e.kind = 6 then s.R.set e.writer.toNat true else s.R }
set_option maxRecDepth 100000 in
set_option maxHeartbeats 1000000 in
theorem note_any (g : Nat) (s : Sto) (wr : Int) (sq tm kd : Nat) (key : ByteArray) (tx : List UInt8) (A : Option Addr) (n c num : Nat) (node : Int) (w : World) (hs : StoAt w g s) (hck : s.ck ≤ tm) (h5 : kd = 5 → 0 ≤ node ∧ node < 64) (h6 : kd = 6 → 0 ≤ wr ∧ wr < 64) :
    Calls Tryz.prog 53 #[.pointer (some ⟨g, 0, none⟩), Ev.val ⟨wr, sq, tm, kd, key, tx, num, node⟩ A n c] w fun e w' => e = .returned (.tuple #[]) ∧ StoAt w' g (noteS s ⟨wr, sq, tm, kd, key, tx, num, node⟩) ∧ Beside [g] w w' := by
  have hsf := store_float Tryz.prog
  obtain ⟨u, hu⟩ : ∃ u, u = w.alloc (.cells #[.int .i64 wr, .int .u64 (sq : Int), .int .u64 (tm : Int), .int .u8 (kd : Int), .string key, .slice A n c, .float .f64 num, .int .i64 node] 26) := ⟨_, rfl⟩
  have hb : Below w.heap.size w u := by rw [hu]; exact (Below.refl _ _).alloc (Nat.le_refl _) _
  have hgl := hs.lt
  have g3 : u.heap[w.heap.size]? = some (.cells #[.int .i64 wr, .int .u64 (sq : Int), .int .u64 (tm : Int), .int .u8 (kd : Int), .string key, .slice A n c, .float .f64 num, .int .i64 node] 26 (0, 0)) := by rw [hu]; exact heap_alloc_new w _
  obtain ⟨b, hbb⟩ : ∃ b, b = w.heap.size := ⟨_, rfl⟩
  rw [← hbb] at g3
  have hgb : g ≠ b := by omega
  obtain ⟨e0, e1, e2, e3, e4, e5, e6, e7⟩ := box8 g3
  have hs1 := hs.below hb
  have c72 := hs1.cC
  have y72 := hs1.frozen 72
  have hgu := hs1.lt
  have hmx : max (s.ck : Int) (tm : Int) = (tm : Int) := by omega
  have H2 := Lib.hid ((hs1.setC tm).below ((Below.refl _ _).drew))
  have G2 := Lib.hid (show (u.setCell ⟨g, 72, none⟩ (.int .u64 (tm : Int))).drew.heap[b]? = some (.cells #[.int .i64 wr, .int .u64 (sq : Int), .int .u64 (tm : Int), .int .u8 (kd : Int), .string key, .slice A n c, .float .f64 num, .int .i64 node] 26 (0, 0)) from (heapOther (w := u) hgb.symm).trans g3)
  have B2 := Lib.hid (show Beside [g] w (u.setCell ⟨g, 72, none⟩ (.int .u64 (tm : Int))).drew from ((Beside.of_below hb [g]).trans ((Beside.refl _ _).setCell (by simp) _) fun k hk => .inl hk).trans (Beside.of_below ((Below.refl _ _).drew) [g]) fun k hk => .inl hk)
  have HU := Lib.hid hu
  have HB := Lib.hid hbb
  have H5 := Lib.hid h5
  have H6 := Lib.hid h6
  clear hs hb hu hbb g3 hs1 hck h5 h6 hgl
  unfold Ev.val
  go_enter Tryz.func53, Tryz.ntmps53
  go_wp2_with fail
  rw [← HU.out, ← HB.out]
  go_still_tail 10, (by kernel_rfl)
  change wpList _ _ _ _ _ u.drew
  go_upto_region 2 with fail
  generalize (u.setCell ⟨g, 72, none⟩ (.int .u64 (tm : Int))).drew = w2 at H2 G2 B2 ⊢
  clear e0 e1 e2 e3 e4 e5 e6 e7 c72 y72 hgu hmx
  obtain ⟨e0, e1, e2, e3, e4, e5, e6, e7⟩ := box8 G2.out
  have HS3 := Lib.hid (fun (W : World) (hW : Below w2.heap.size w2 W) => H2.out.below hW)
  have hgw2 := H2.out.lt
  have fin : ∀ x, noteS s ⟨wr, sq, tm, kd, key, tx, num, node⟩ = x → noteS s ⟨wr, sq, tm, kd, key, tx, num, node⟩ = x := fun _ h => h
  by_cases k5 : kd = 5
  · obtain ⟨h50, h51⟩ := H5.out k5
    subst k5
    obtain ⟨nd, hnd⟩ : ∃ nd : Nat, node = (nd : Int) := ⟨node.toNat, by omega⟩
    subst hnd
    have hn64 : nd < 64 := by omega
    have hn64' : (nd : Int) < 64 := by omega
    have hn0 : (0 : Int) ≤ (nd : Int) := by omega
    have cJ := H2.out.cJ hn64
    have yJ := H2.out.frozen (73 + nd)
    have FIN := Lib.hid (And.intro ((H2.out.setJ hn64 true).below ((Below.refl _ _).drew)) (B2.out.trans (((Beside.refl [g] w2).setCell (p := ⟨g, 73 + nd, none⟩) (by simp) (.bool true)).trans (Beside.of_below ((Below.refl _ _).drew) [g]) fun k hk => .inl hk) fun k hk => .inl hk))
    clear fin HS3 hn64
    go_wp2
    go_still_tail 6, (by kernel_rfl)
    change wpList _ _ _ _ _ w2.drew
    go_wp2
    go_returns
    exact ⟨rfl, FIN.out.1, FIN.out.2⟩
  · by_cases k6 : kd = 6
    · obtain ⟨h60, h61⟩ := H6.out k6
      subst k6
      obtain ⟨nd, hnd⟩ : ∃ nd : Nat, wr = (nd : Int) := ⟨wr.toNat, by omega⟩
      subst hnd
      have hn64 : nd < 64 := by omega
      have hn64' : (nd : Int) < 64 := by omega
      have hn0 : (0 : Int) ≤ (nd : Int) := by omega
      have cR := H2.out.cR hn64
      have yR := H2.out.frozen (137 + nd)
      have FIN := Lib.hid (And.intro ((H2.out.setR hn64 true).below ((Below.refl _ _).drew)) (B2.out.trans (((Beside.refl [g] w2).setCell (p := ⟨g, 137 + nd, none⟩) (by simp) (.bool true)).trans (Beside.of_below ((Below.refl _ _).drew) [g]) fun k hk => .inl hk) fun k hk => .inl hk))
      clear fin HS3 hn64 k5
      go_wp2
      go_still_tail 6, (by kernel_rfl)
      change wpList _ _ _ _ _ w2.drew
      go_wp2
      go_returns
      exact ⟨rfl, FIN.out.1, FIN.out.2⟩
    · have q5 : ((kd : Int) == 5) = false := by rw [beq_eq_false_iff_ne]; omega
      have q6 : ((kd : Int) == 6) = false := by rw [beq_eq_false_iff_ne]; omega
      have hn : noteS s ⟨wr, sq, tm, kd, key, tx, num, node⟩ = { s with ck := tm } := by simp [noteS, k5, k6]
      have FIN : Hid (StoAt w2 g (noteS s ⟨wr, sq, tm, kd, key, tx, num, node⟩)) := Lib.hid (by rw [hn]; exact H2.out)
      clear fin HS3 hn k5 k6
      go_wp2
      go_returns
      exact ⟨rfl, FIN.out, B2.out⟩
end Go.Proofs.YtfkiajidcbefjaaGreatDoor.St
