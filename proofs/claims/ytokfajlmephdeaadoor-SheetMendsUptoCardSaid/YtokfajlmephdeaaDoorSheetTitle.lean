/- sheet.titleOf, of a title's bytes: its contract. -/
import Derived.Test.YtokfajlmephdeaaDoorSheetHead
import Derived.Test.YtokfajlmephdeaaDoorTape
import Derived.Lib.SlBytesConst
namespace Go.Proofs.YtokfajlmephdeaaDoor.Sht
open Go Go.RowKit Go.Proofs.YtokfajlmephdeaaDoor.Words Go.Proofs.YtokfajlmephdeaaDoor.Enc Go.Proofs.YtokfajlmephdeaaDoor.Made Go.Proofs.YtokfajlmephdeaaDoor.Tape
set_option linter.unusedVariables false

theorem title_drop (k : UInt8) (a b j : Nat) (h : j < 4) : ∃ u : UInt8, [97, 110, 97, 49][j]? = some u ∧ (titleL k a b).drop j = u :: (titleL k a b).drop (j + 1) := by
  match j, h with
  | 0, _ => exact ⟨97, rfl, rfl⟩
  | 1, _ => exact ⟨110, rfl, rfl⟩
  | 2, _ => exact ⟨97, rfl, rfl⟩
  | 3, _ => exact ⟨49, rfl, rfl⟩

set_option maxRecDepth 100000 in
set_option maxHeartbeats 1000000 in
theorem titleOf_any (A : Option Addr) (n c : Nat) (k : UInt8) (a b : Nat) (w : World) (ha : a < 18446744073709551616) (hb : b < 18446744073709551616) (hs : Sees w A n (titleL k a b)) (hc : n ≤ c) :
    Calls Tryd.prog 48 #[.slice A n c] w fun e w' => e = .returned (.tuple #[titleV k a b, .int .i64 0]) ∧ Below w.heap.size w w' := by
  have hlen := titleL_len (k := k) ha hb
  have hn : n ≤ 100 := by have := hs.1; omega
  clear hlen
  go_enter_defers Tryd.func48, Tryd.ntmps48
  go_wp2_with fail
  have hb0 : Below w.heap.size w ((w.alloc (.cells #[.int .u8 0, .int .u64 0, .int .u64 0] 24)).alloc (.cells #[.int .i64 0] 30)) := ((Below.refl _ _).alloc (Nat.le_refl _) _).alloc (by simp) _
  refine (newTape_any A n c (titleL k a b) _ (hs.below hb0) hc (by omega)).mono ?_
  rintro e w1 ⟨t, rfl, ht, htp, hb1⟩
  have g0 : w1.heap[w.heap.size]? = some (.cells #[.int .u8 0, .int .u64 0, .int .u64 0] 24 (0, 0)) := by
    rw [hb1.block w.heap.size (by simp; omega), Below.heap_alloc _ _ _ (by simp)]
    exact heap_alloc_new w _
  have g1 : w1.heap[w.heap.size + 1]? = some (.cells #[.int .i64 0] 30 (0, 0)) := by
    rw [hb1.block (w.heap.size + 1) (by simp)]
    have := heap_alloc_new (w.alloc (.cells #[.int .u8 0, .int .u64 0, .int .u64 0] 24)) (.cells #[.int .i64 0] 30)
    simpa using this
  have b1 := hb0.trans (hb1.mono hb0.size)
  have hsz1 := hb1.size
  simp only [World.size_alloc] at hsz1 ht
  have hconv := Lib.run_convert_bytes_const (P := Tryd.prog) w1 37 5 #[.int .u8 97, .int .u8 110, .int .u8 97, .int .u8 49] 4 4 Tryd.underlying37 Tryd.underlying5
  have htlt : t < w1.heap.size := by
    obtain ⟨_, _, _, h, _⟩ := htp
    exact (Array.getElem?_eq_some_iff.1 h).1
  clear hb1 hb0 hs
  go_wp2_with fail
  have hbm : Below w1.heap.size w1 (w1.alloc (.cells #[.int .u8 97, .int .u8 110, .int .u8 97, .int .u8 49] 5 (4, 5))) := (Below.refl _ _).alloc (Nat.le_refl _) _
  have gm : (w1.alloc (.cells #[.int .u8 97, .int .u8 110, .int .u8 97, .int .u8 49] 5 (4, 5))).heap[w1.heap.size]? = some (.cells #[.int .u8 97, .int .u8 110, .int .u8 97, .int .u8 49] 5 (4, 5)) := heap_alloc_new w1 _
  have htp2 := htp.below hbm
  have g02 := (hbm.block w.heap.size (by omega)).trans g0
  have g12 := (hbm.block (w.heap.size + 1) (by omega)).trans g1
  have b2 := b1.trans (hbm.mono b1.size)
  have hgt : w1.heap.size ≠ t := by omega
  generalize w1.alloc (.cells #[.int .u8 97, .int .u8 110, .int .u8 97, .int .u8 49] 5 (4, 5)) = W2 at gm htp2 g02 g12 b2 ⊢
  generalize w1.heap.size = g at gm hgt ⊢
  clear hconv hbm htp g0 g1 b1 hsz1 htlt
  go_loopw [13] (fun x wr => ∃ j : Nat, x = .int .i64 (j : Int) ∧ j ≤ 4 ∧ TapeAt wr t ((titleL k a b).drop j) ∧ Beside [t] W2 wr) (fun x _ => 4 - (intOf x).toNat)
  case atStart => exact ⟨0, rfl, by omega, by simpa using htp2, Beside.refl _ _⟩
  case round =>
    obtain ⟨j, rfl, hj, htj, hbj⟩ := hrel
    by_cases hlt : j < 4
    · obtain ⟨u, hu, hdrop⟩ := title_drop k a b j hlt
      rw [hdrop] at htj
      have hg := (hbj.block g (Array.getElem?_eq_some_iff.1 gm).1 (by simpa using hgt)).trans gm
      have hcell : wr.cell? ⟨g, j, none⟩ = some (.int .u8 (u.toNat : Int)) := by
        rw [cell_of_row wr g j _ _ _ hg]
        match j, hlt, hu with
        | 0, _, hu => simp at hu; subst hu; rfl
        | 1, _, hu => simp at hu; subst hu; rfl
        | 2, _, hu => simp at hu; subst hu; rfl
        | 3, _, hu => simp at hu; subst hu; rfl
      clear hdrop hu hg
      go_wp2_with fail
      refine (byte_any t u _ wr htj).mono ?_
      rintro e w3 ⟨rfl, ht3, hb3⟩
      go_wp2
      go_roundw
      case rel => exact ⟨j + 1, rfl, by omega, ht3, hbj.trans hb3 fun x hx => .inl hx⟩
      case measure => simp [intOf]; omega
    · obtain rfl : j = 4 := by omega
      rw [show (titleL k a b).drop 4 = k :: (enc a ++ enc b) from rfl] at htj
      go_wp2_with fail
      refine (byte_any t k _ wr htj).mono ?_
      rintro e w3 ⟨rfl, ht3, hb3⟩
      go_wp2_with fail
      refine (num_any t a _ w3 ht3 ha (by have := enc_ten hb; omega)).mono ?_
      rintro e w4 ⟨rfl, ht4, hb4⟩
      rw [← List.append_nil (enc b)] at ht4
      go_wp2_with fail
      refine (num_any t b [] w4 ht4 hb (by simp)).mono ?_
      rintro e w5 ⟨rfl, ht5, hb5⟩
      have hbs : Beside [t] W2 w5 := ((hbj.trans hb3 fun x hx => .inl hx).trans hb4 fun x hx => .inl hx).trans hb5 fun x hx => .inl hx
      have k0 := (hbs.block w.heap.size (Array.getElem?_eq_some_iff.1 g02).1 (by simp; omega)).trans g02
      have k1 := (hbs.block (w.heap.size + 1) (Array.getElem?_eq_some_iff.1 g12).1 (by simp; omega)).trans g12
      have b5 : Below w.heap.size w w5 := Below.beside b2 hbs b2.size fun x hx => by simp at hx; omega
      clear hbj hb3 hb4 hb5 htj ht3 ht4 hbs g02 g12 b2 gm
      have hlt5 : w.heap.size + 1 < w5.heap.size := (Array.getElem?_eq_some_iff.1 k1).1
      go_wp2_with fail
      refine (done_any t _ (ht5.below ((Below.refl _ _).alloc (Nat.le_refl _) _))).mono ?_
      rintro e w6 ⟨rfl, rfl⟩
      have hb6 : Below w5.heap.size w5 (w5.alloc (.cells #[.int .u8 (k.toNat : Int), .int .u64 (a : Int), .int .u64 (b : Int)] 24)) := (Below.refl _ _).alloc (Nat.le_refl _) _
      have q0 := (hb6.block w.heap.size (by omega)).trans k0
      have q1 := (hb6.block (w.heap.size + 1) (by omega)).trans k1
      have q2 : (w5.alloc (.cells #[.int .u8 (k.toNat : Int), .int .u64 (a : Int), .int .u64 (b : Int)] 24)).heap[w5.heap.size]? = some (.cells #[.int .u8 (k.toNat : Int), .int .u64 (a : Int), .int .u64 (b : Int)] 24 (0, 0)) := heap_alloc_new w5 _
      have b6 := b5.trans (hb6.mono b5.size)
      generalize w5.alloc (.cells #[.int .u8 (k.toNat : Int), .int .u64 (a : Int), .int .u64 (b : Int)] 24) = W6 at q0 q1 q2 b6 ⊢
      generalize w5.heap.size = r at q2 hlt5 ⊢
      clear k0 k1 hb6 b5 ht5
      obtain ⟨m, hm⟩ : ∃ m, m = w.heap.size := ⟨_, rfl⟩
      have hb6' : m ≤ W6.heap.size := by have := b6.size; omega
      have HB6 := Lib.hid b6
      have c00 : W6.cell? ⟨w.heap.size, 0, none⟩ = some (.int .u8 0) := by rw [cell_of_row W6 w.heap.size _ _ _ _ q0]; rfl
      have c01 : W6.cell? ⟨w.heap.size, 1, none⟩ = some (.int .u64 0) := by rw [cell_of_row W6 w.heap.size _ _ _ _ q0]; rfl
      have c02 : W6.cell? ⟨w.heap.size, 2, none⟩ = some (.int .u64 0) := by rw [cell_of_row W6 w.heap.size _ _ _ _ q0]; rfl
      have c10 : W6.cell? ⟨w.heap.size + 1, 0, none⟩ = some (.int .i64 0) := by rw [cell_of_row W6 (w.heap.size + 1) _ _ _ _ q1]; rfl
      have c20 : W6.cell? ⟨r, 0, none⟩ = some (.int .u8 (k.toNat : Int)) := by rw [cell_of_row W6 r _ _ _ _ q2]; rfl
      have c21 : W6.cell? ⟨r, 1, none⟩ = some (.int .u64 (a : Int)) := by rw [cell_of_row W6 r _ _ _ _ q2]; rfl
      have c22 : W6.cell? ⟨r, 2, none⟩ = some (.int .u64 (b : Int)) := by rw [cell_of_row W6 r _ _ _ _ q2]; rfl
      have f00 : W6.frozen? ⟨w.heap.size, 0, none⟩ = false := frozen_row0 q0
      have f01 : W6.frozen? ⟨w.heap.size, 1, none⟩ = false := frozen_row0 q0
      have f02 : W6.frozen? ⟨w.heap.size, 2, none⟩ = false := frozen_row0 q0
      have f10 : W6.frozen? ⟨w.heap.size + 1, 0, none⟩ = false := frozen_row0 q1
      clear q0 q1 q2 b6
      go_wp2
      refine leaves_cons (f := 66) (args := #[.pointer (some ⟨w.heap.size + 1, 0, none⟩)]) (by simp) (by simp [go_sem]) ?_
      refine (caught_idle _ _).mono ?_
      rintro e u' w'' ⟨rfl, rfl, rfl⟩
      have hbel : Below w.heap.size w ((((W6.setCell ⟨w.heap.size, 0, none⟩ (.int .u8 (k.toNat : Int))).setCell ⟨w.heap.size, 1, none⟩ (.int .u64 (a : Int))).setCell ⟨w.heap.size, 2, none⟩ (.int .u64 (b : Int))).setCell ⟨w.heap.size + 1, 0, none⟩ (.int .i64 0)) :=
        Below.beside HB6.out (((((Beside.refl [w.heap.size, w.heap.size + 1] W6).setCell (by simp) _).setCell (by simp) _).setCell (by simp) _).setCell (by simp) _) HB6.out.size (fun x hx => by simp at hx; omega)
      have HBEL := Lib.hid hbel
      clear hbel HB6 hm hb6'
      simp [Leaves, settle, results, Tryd.results48, go_sem, c00, c01, c02, c10, titleV]
      exact HBEL.out
end Go.Proofs.YtokfajlmephdeaaDoor.Sht
