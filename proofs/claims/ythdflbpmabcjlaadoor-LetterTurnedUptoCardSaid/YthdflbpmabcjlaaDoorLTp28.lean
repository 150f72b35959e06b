/- Layer 16: package letter's take. -/
import Derived.Test.YthdflbpmabcjlaaDoorLTp25
import Derived.Test.YthdflbpmabcjlaaDoorLTp26
import Derived.Test.YthdflbpmabcjlaaDoorLTp27
namespace Go.Proofs.YthdflbpmabcjlaaDoor.Lt
open Go Go.RowKit Go.Proofs.YthdflbpmabcjlaaDoor.Words Go.Proofs.YthdflbpmabcjlaaDoor.Enc Go.Proofs.YthdflbpmabcjlaaDoor.Evt Go.Proofs.YthdflbpmabcjlaaDoor.Made Go.Proofs.YthdflbpmabcjlaaDoor.Tape Go.Proofs.YthdflbpmabcjlaaDoor.Seg
set_option linter.unusedVariables false
set_option linter.unusedSimpArgs false

theorem fields_any (PA : Option Addr) (PN : Nat) (L : List UInt8) (t xb : Nat) (l : List UInt8) (k s d : Nat) (m : Bool) (q : Nat) (w : World) (hk : 1 ≤ k ∧ k ≤ 7) (ht : TapeOn PA PN L w t l) (hP : Sees w PA PN L) (hll : l.length ≤ 100000) (hb : w.heap[xb]? = some (.cells (ltV (x0 k s d m q) Adr.zero) 37 (0, 0))) (hne : xb ≠ t) (hox : Out [xb] PA PN) :
    Calls Tryd.prog 39 #[.pointer (some ⟨t, 0, none⟩), .pointer (some ⟨xb, 0, none⟩)] w (FldGives PA PN L t xb (fieldsT (x0 k s d m q) l) w) := by
  have h : k = 1 ∨ k = 2 ∨ k = 3 ∨ k = 4 ∨ k = 5 ∨ k = 6 ∨ k = 7 := by omega
  rcases h with rfl | rfl | rfl | rfl | rfl | rfl | rfl
  · exact fields_k1 PA PN L t xb l s d m q w ht hP hll hb hne hox
  · exact fields_k2 PA PN L t xb l s d m q w ht hP hll hb hne hox
  · exact fields_k3 PA PN L t xb l s d m q w ht hP hll hb hne hox
  · exact fields_k4 PA PN L t xb l s d m q w ht hP hll hb hne hox
  · exact fields_k5 PA PN L t xb l s d m q w ht hP hll hb hne hox
  · exact fields_k6 PA PN L t xb l s d m q w ht hP hll hb hne hox
  · exact fields_k7 PA PN L t xb l s d m q w ht hP hll hb hne hox
theorem box14 {w : World} {b : Nat} {v0 v1 v2 v3 v4 v5 v6 v7 v8 v9 v10 v11 v12 v13 : Value} {T : TypeId} {f : Nat × Nat} (h : w.heap[b]? = some (.cells #[v0, v1, v2, v3, v4, v5, v6, v7, v8, v9, v10, v11, v12, v13] T f)) : w.cell? ⟨b, 0, none⟩ = some v0 ∧ w.cell? ⟨b, 1, none⟩ = some v1 ∧ w.cell? ⟨b, 2, none⟩ = some v2 ∧ w.cell? ⟨b, 3, none⟩ = some v3 ∧ w.cell? ⟨b, 4, none⟩ = some v4 ∧ w.cell? ⟨b, 5, none⟩ = some v5 ∧ w.cell? ⟨b, 6, none⟩ = some v6 ∧ w.cell? ⟨b, 7, none⟩ = some v7 ∧ w.cell? ⟨b, 8, none⟩ = some v8 ∧ w.cell? ⟨b, 9, none⟩ = some v9 ∧ w.cell? ⟨b, 10, none⟩ = some v10 ∧ w.cell? ⟨b, 11, none⟩ = some v11 ∧ w.cell? ⟨b, 12, none⟩ = some v12 ∧ w.cell? ⟨b, 13, none⟩ = some v13 := by
  refine ⟨?_, ?_, ?_, ?_, ?_, ?_, ?_, ?_, ?_, ?_, ?_, ?_, ?_, ?_⟩ <;> (rw [cell_of_row w b _ _ _ _ h]; rfl)
/-- What take answers. -/
def TakeGives (PA : Option Addr) (PN : Nat) (L : List UInt8) (t : Nat) (g : Tk Lt) (w : World) (e : Ending) (w' : World) : Prop :=
  match g with
  | .bad E => e = fault E ∧ Beside [t] w w'
  | .no => ∃ x v, e = .returned (.tuple #[.agg (ltV x v), .bool false]) ∧ Beside [t] w w'
  | .ok x r => ∃ v S, e = .returned (.tuple #[.agg (ltV x v), .bool true]) ∧ LtB (w.heap.size + 1) w' x v S ∧ TapeOn PA PN L w' t r ∧ Beside [t] w w'
/-- Before there is a letter. -/
structure TSt (PA : Option Addr) (PN : Nat) (L : List UInt8) (t : Nat) (w W : World) (r : List UInt8) : Prop where
  box : W.heap[w.heap.size]? = some (.cells #[.int .u8 0, .int .i64 0, .int .i64 0, .bool false, .int .u64 0, .slice none 0 0, .slice none 0 0, .slice none 0 0, .int .u64 0, .int .u64 0, .int .u32 0, .int .u64 0, .slice none 0 0, .int .i64 0] 37 (0, 0))
  tape : TapeOn PA PN L W t r
  see : Sees W PA PN L
  bes : Beside [t] w W
  old : t < w.heap.size
theorem TSt.read {PA : Option Addr} {PN : Nat} {L : List UInt8} {t : Nat} {w W W' : World} {r r' : List UInt8} (h : TSt PA PN L t w W r) (hb : Beside [t] W W') (ht : TapeOn PA PN L W' t r') : TSt PA PN L t w W' r' :=
  ⟨(hb.block w.heap.size (Array.getElem?_eq_some_iff.1 h.box).1 (by have := h.old; simp; omega)).trans h.box, ht, h.see.beside hb (by obtain ⟨A', n', c', hb', -⟩ := h.tape; exact sees_off hb' h.see), h.bes.trans hb (by simp), h.old⟩
/-- The letter's box xb is there, too: what the readers did. -/
theorem TSt.after {PA : Option Addr} {PN : Nat} {L : List UInt8} {t xb : Nat} {w u W : World} {r : List UInt8} (h : TSt PA PN L t w u r) (hx : w.heap.size < xb) (hs : Beside [t, xb] u W) : W.heap[w.heap.size]? = some (.cells #[.int .u8 0, .int .i64 0, .int .i64 0, .bool false, .int .u64 0, .slice none 0 0, .slice none 0 0, .slice none 0 0, .int .u64 0, .int .u64 0, .int .u32 0, .int .u64 0, .slice none 0 0, .int .i64 0] 37 (0, 0)) ∧ Beside [t] w W :=
  ⟨(hs.block w.heap.size (Array.getElem?_eq_some_iff.1 h.box).1 (by have := h.old; simp; omega)).trans h.box, h.bes.trans hs (by simp; omega)⟩
set_option maxRecDepth 100000 in
set_option maxHeartbeats 4000000 in
theorem take_any (PA : Option Addr) (PN : Nat) (L : List UInt8) (t : Nat) (l : List UInt8) (w : World) (ht : TapeOn PA PN L w t l) (hP : Sees w PA PN L) (hll : l.length ≤ 100000) :
    Calls Tryd.prog 22 #[.pointer (some ⟨t, 0, none⟩)] w (TakeGives PA PN L t (takeT l) w) := by
  obtain ⟨G, hG⟩ : ∃ G, G = takeT l := ⟨_, rfl⟩
  rw [← hG]
  have HG := Lib.hid hG
  have hb0 : Below w.heap.size w (w.alloc (.cells #[.int .u8 0, .int .i64 0, .int .i64 0, .bool false, .int .u64 0, .slice none 0 0, .slice none 0 0, .slice none 0 0, .int .u64 0, .int .u64 0, .int .u32 0, .int .u64 0, .slice none 0 0, .int .i64 0] 37)) := (Below.refl _ _).alloc (Nat.le_refl _) _
  have ts0 : TSt PA PN L t w (w.alloc (.cells #[.int .u8 0, .int .i64 0, .int .i64 0, .bool false, .int .u64 0, .slice none 0 0, .slice none 0 0, .slice none 0 0, .int .u64 0, .int .u64 0, .int .u32 0, .int .u64 0, .slice none 0 0, .int .i64 0] 37)) l := ⟨heap_alloc_new w _, ht.keep (hb0.block t ht.lt), hP.below hb0, Beside.of_below hb0 _, ht.lt⟩
  obtain ⟨u0, hu0⟩ : ∃ u, u = w.alloc (.cells #[.int .u8 0, .int .i64 0, .int .i64 0, .bool false, .int .u64 0, .slice none 0 0, .slice none 0 0, .slice none 0 0, .int .u64 0, .int .u64 0, .int .u32 0, .int .u64 0, .slice none 0 0, .int .i64 0] 37) := ⟨_, rfl⟩
  rw [← hu0] at ts0
  have HU0 := Lib.hid hu0
  clear hG hb0 ht hP hu0
  go_enter Tryd.func22, Tryd.ntmps22
  go_wp2_with fail
  rw [← HU0.out]
  cases l with
  | nil =>
    obtain rfl : G = .bad 5 := HG.out
    have NB := Lib.hid (byte_bad t u0 (ts0.tape.at_ ts0.see))
    have TS := Lib.hid ts0
    clear HG ts0 hll
    refine NB.out.mono ?_
    rintro e wb ⟨rfl, rfl⟩
    clear NB
    unfold fault
    go_wp2
    exact ⟨rfl, rfl, TS.out.bes⟩
  | cons b l1 =>
  have hl1 : l1.length ≤ 100000 := by simp at hll; omega
  have NB := Lib.hid (byte_ok t b l1 u0 ts0.tape ts0.see (by omega))
  have TS0 := Lib.hid ts0
  obtain ⟨bn, hbn⟩ : ∃ bn, bn = b.toNat := ⟨_, rfl⟩
  rw [← hbn] at NB
  have HBN := Lib.hid hbn
  clear hbn ts0 hll
  refine NB.out.mono ?_
  rintro e w1 ⟨rfl, ht1, hb1⟩
  have TS1 := Lib.hid (TS0.out.read hb1 ht1)
  clear ht1 hb1 NB TS0
  by_cases h1 : bn ≠ 1
  · have hd : ((bn : Int) != 1) = true := by rw [bne_iff_ne]; omega
    obtain rfl : G = .no := by rw [HG.out]; unfold takeT; simp only []; rw [if_pos (by rw [← HBN.out]; exact h1)]
    clear HG HBN h1
    have y0 := TS1.out.box
    go_wp2_with (first
      | (refine wpList_putRow rfl 37 (.tmp 2) (.tmp 9) rfl w.heap.size 37 #[.int .u8 0, .int .i64 0, .int .i64 0, .bool false, .int .u64 0, .slice none 0 0, .slice none 0 0, .slice none 0 0, .int .u64 0, .int .u64 0, .int .u32 0, .int .u64 0, .slice none 0 0, .int .i64 0] #[.int .u8 0, .int .i64 0, .int .i64 0, .bool false, .int .u64 0, .slice none 0 0, .slice none 0 0, .slice none 0 0, .int .u64 0, .int .u64 0, .int .u32 0, .int .u64 0, .slice none 0 0, .int .i64 0] rfl rfl ?g1 (by kernel_rfl) rfl (by simp [Value.oneCell']) ?_))
    case g1 => exact y0
    intro W' hW' hbe
    have HB := Lib.hid (TS1.out.bes.trans hbe (fun x hx => by simp at hx; subst hx; exact .inr (Nat.le_refl _)))
    obtain ⟨c0, c1, c2, c3, c4, c5, c6, c7, c8, c9, c10, c11, c12, c13⟩ := box14 hW'
    clear hW' hbe y0
    go_wp2
    refine bodyPost_ret (v := .tuple #[.agg #[.int .u8 0, .int .i64 0, .int .i64 0, .bool false, .int .u64 0, .slice none 0 0, .slice none 0 0, .slice none 0 0, .int .u64 0, .int .u64 0, .int .u32 0, .int .u64 0, .slice none 0 0, .int .i64 0], .bool false]) ?_ rfl ⟨zeroL, Adr.zero, rfl, HB.out⟩
    simp [results, Tryd.results22, go_sem, c0, c1, c2, c3, c4, c5, c6, c7, c8, c9, c10, c11, c12, c13]
  have hd : ((bn : Int) != 1) = false := by rw [bne_eq_false_iff_eq]; omega
  cases l1 with
  | nil =>
    obtain rfl : G = .bad 5 := by rw [HG.out]; unfold takeT; simp only []; rw [if_neg (by rw [← HBN.out]; exact h1)]
    have NB := Lib.hid (byte_bad t w1 (TS1.out.tape.at_ TS1.out.see))
    clear HG hl1 HBN h1
    go_wp2_with fail
    refine NB.out.mono ?_
    rintro e wb ⟨rfl, rfl⟩
    clear NB
    unfold fault
    go_wp2
    exact ⟨rfl, rfl, TS1.out.bes⟩
  | cons kb l2 =>
  have hl2 : l2.length ≤ 100000 := by simp at hl1; omega
  have NB := Lib.hid (byte_ok t kb l2 w1 TS1.out.tape TS1.out.see (by omega))
  have HG1 := Lib.hid (show G = if kb.toNat < 1 ∨ 7 < kb.toNat then .no else (headT kb.toNat l2).bind fieldsT by rw [HG.out]; unfold takeT; simp only []; rw [if_neg (by rw [← HBN.out]; exact h1)])
  obtain ⟨K, hK⟩ : ∃ K, K = kb.toNat := ⟨_, rfl⟩
  rw [← hK] at NB HG1
  have hK256 : K < 256 := by rw [hK]; exact kb.toNat_lt
  clear hl1 HG HBN h1 hK
  go_wp2_with fail
  refine NB.out.mono ?_
  rintro e w2 ⟨rfl, ht2, hb2⟩
  have TS2 := Lib.hid (TS1.out.read hb2 ht2)
  clear ht2 hb2 NB TS1 hd
  obtain ⟨xb, hxb⟩ : ∃ xb, xb = w2.heap.size := ⟨_, rfl⟩
  obtain ⟨u, hu⟩ : ∃ u, u = w2.alloc (.cells #[.int .u8 (K : Int), .int .i64 0, .int .i64 0, .bool false, .int .u64 0, .slice none 0 0, .slice none 0 0, .slice none 0 0, .int .u64 0, .int .u64 0, .int .u32 0, .int .u64 0, .slice none 0 0, .int .i64 0] 37) := ⟨_, rfl⟩
  have hal : Below w2.heap.size w2 u := by rw [hu]; exact (Below.refl _ _).alloc (Nat.le_refl _) _
  have hxw : w.heap.size < xb := by rw [hxb]; exact (Array.getElem?_eq_some_iff.1 TS2.out.box).1
  have TSU : TSt PA PN L t w u l2 := TS2.out.read (Beside.of_below hal _) (TS2.out.tape.keep (hal.block t TS2.out.tape.lt))
  have hbox : u.heap[xb]? = some (.cells (ltV (x0 K 0 0 false 0) Adr.zero) 37 (0, 0)) := by rw [hu, hxb]; exact heap_alloc_new w2 _
  have FS0 : FSt PA PN L t xb u u _ l2 := ⟨hbox, TSU.tape, TSU.see, Beside.refl _ _, by have := TS2.out.old; omega, Out.of_lt TS2.out.see (Nat.le_refl _) (by simp; omega), (Array.getElem?_eq_some_iff.1 hbox).1, TSU.tape.lt⟩
  have HU := Lib.hid hu
  have HXB := Lib.hid hxb
  have TU := Lib.hid TSU
  have FS := Lib.hid FS0
  have k0 : u.cell? ⟨xb, 0, none⟩ = some (.int .u8 (K : Int)) := FS0.cell 0
  have HXW := Lib.hid hxw
  clear hu hal TSU hbox FS0 hxb hxw
  by_cases hk : K < 1 ∨ 7 < K
  · obtain rfl : G = .no := by rw [HG1.out, if_pos hk]
    clear FS hl2 HG1
    by_cases hk1 : K < 1
    · have hd1 : (K : Int) < 1 := by omega
      have hd2 : decide ((K : Int) < 1) = true := decide_eq_true hd1
      clear hk
      go_upto_region 4 with fail
      rw [← HXB.out, ← HU.out]
      have y0 := TU.out.box
      go_wp2_with (first
        | (refine wpList_putRow rfl 37 (.tmp 2) (.tmp 21) rfl w.heap.size 37 #[.int .u8 0, .int .i64 0, .int .i64 0, .bool false, .int .u64 0, .slice none 0 0, .slice none 0 0, .slice none 0 0, .int .u64 0, .int .u64 0, .int .u32 0, .int .u64 0, .slice none 0 0, .int .i64 0] #[.int .u8 0, .int .i64 0, .int .i64 0, .bool false, .int .u64 0, .slice none 0 0, .slice none 0 0, .slice none 0 0, .int .u64 0, .int .u64 0, .int .u32 0, .int .u64 0, .slice none 0 0, .int .i64 0] rfl rfl ?g1 (by kernel_rfl) rfl (by simp [Value.oneCell']) ?_))
      case g1 => exact y0
      intro W' hW' hbe
      have HB := Lib.hid (TU.out.bes.trans hbe (fun x hx => by simp at hx; subst hx; exact .inr (Nat.le_refl _)))
      obtain ⟨c0, c1, c2, c3, c4, c5, c6, c7, c8, c9, c10, c11, c12, c13⟩ := box14 hW'
      clear hW' hbe y0
      go_wp2
      refine bodyPost_ret (v := .tuple #[.agg #[.int .u8 0, .int .i64 0, .int .i64 0, .bool false, .int .u64 0, .slice none 0 0, .slice none 0 0, .slice none 0 0, .int .u64 0, .int .u64 0, .int .u32 0, .int .u64 0, .slice none 0 0, .int .i64 0], .bool false]) ?_ rfl ⟨zeroL, Adr.zero, rfl, HB.out⟩
      simp [results, Tryd.results22, go_sem, c0, c1, c2, c3, c4, c5, c6, c7, c8, c9, c10, c11, c12, c13]
    · have hd1 : ¬ (K : Int) < 1 := by omega
      have hd2 : decide ((K : Int) < 1) = false := decide_eq_false hd1
      have hd3 : (7 : Int) < (K : Int) := by omega
      have hd4 : decide ((7 : Int) < (K : Int)) = true := decide_eq_true hd3
      clear hk
      go_upto_region 4 with fail
      rw [← HXB.out, ← HU.out]
      have y0 := TU.out.box
      go_wp2_with (first
        | (refine wpList_putRow rfl 37 (.tmp 2) (.tmp 21) rfl w.heap.size 37 #[.int .u8 0, .int .i64 0, .int .i64 0, .bool false, .int .u64 0, .slice none 0 0, .slice none 0 0, .slice none 0 0, .int .u64 0, .int .u64 0, .int .u32 0, .int .u64 0, .slice none 0 0, .int .i64 0] #[.int .u8 0, .int .i64 0, .int .i64 0, .bool false, .int .u64 0, .slice none 0 0, .slice none 0 0, .slice none 0 0, .int .u64 0, .int .u64 0, .int .u32 0, .int .u64 0, .slice none 0 0, .int .i64 0] rfl rfl ?g1 (by kernel_rfl) rfl (by simp [Value.oneCell']) ?_))
      case g1 => exact y0
      intro W' hW' hbe
      have HB := Lib.hid (TU.out.bes.trans hbe (fun x hx => by simp at hx; subst hx; exact .inr (Nat.le_refl _)))
      obtain ⟨c0, c1, c2, c3, c4, c5, c6, c7, c8, c9, c10, c11, c12, c13⟩ := box14 hW'
      clear hW' hbe y0
      go_wp2
      refine bodyPost_ret (v := .tuple #[.agg #[.int .u8 0, .int .i64 0, .int .i64 0, .bool false, .int .u64 0, .slice none 0 0, .slice none 0 0, .slice none 0 0, .int .u64 0, .int .u64 0, .int .u32 0, .int .u64 0, .slice none 0 0, .int .i64 0], .bool false]) ?_ rfl ⟨zeroL, Adr.zero, rfl, HB.out⟩
      simp [results, Tryd.results22, go_sem, c0, c1, c2, c3, c4, c5, c6, c7, c8, c9, c10, c11, c12, c13]
  · have hK7 : 1 ≤ K ∧ K ≤ 7 := by omega
    have HG2 := Lib.hid (show G = (headT K l2).bind fieldsT by rw [HG1.out, if_neg hk])
    have hd1 : ¬ (K : Int) < 1 := by omega
    have hd2 : decide ((K : Int) < 1) = false := decide_eq_false hd1
    have hd3 : ¬ (7 : Int) < (K : Int) := by omega
    have hd4 : decide ((7 : Int) < (K : Int)) = false := decide_eq_false hd3
    clear hk HG1
    go_upto_region 4 with fail
    rw [← HXB.out, ← HU.out]
    have HG := Lib.hid (show G = ((gT (numG 63 l2)).bind fun a l1 => (gT (numG 63 l1)).bind fun b l2 => (gT (numG 1 l2)).bind fun m l3 => (gT (numG 9223372036854775807 l3)).bind fun s l4 => .ok (x0 K a b (decide (m = 1)) s) l4).bind fieldsT from HG2.out)
    clear HG2
    cases ga : numG 63 l2 with
    | bad E =>
      obtain rfl : G = .bad E := by rw [HG.out, ga]; rfl
      have NB := Lib.hid (node_bad t E l2 u (FS.out.tape.at_ FS.out.see) (by omega) ga)
      clear ga HG
      clear hl2
      go_wp2_with fail
      refine NB.out.mono ?_
      rintro e wb ⟨rfl, hbb⟩
      have HB := Lib.hid ((TU.out.after HXW.out (FS.out.bad hbb)).2)
      clear hbb NB
      unfold fault
      go_wp2
      exact ⟨rfl, rfl, HB.out⟩
    | ok a l3 =>
    have ba : a ≤ 63 := (Vec.numG_enc ga).2
    have hl3 : l3.length ≤ 100000 := by have := (Vec.numG_enc ga).1; have h2 := congrArg List.length this; rw [List.length_append] at h2; omega
    have NB := Lib.hid (node_ok t a l2 l3 u FS.out.tape FS.out.see (by omega) ga)
    have Ga := Lib.hid ga
    clear ga
    go_wp2_with fail
    refine NB.out.mono ?_
    rintro e w3 ⟨rfl, ht, hb⟩
    have FS3 := Lib.hid (FS.out.read hb ht)
    clear ht hb NB
    clear k0
    have HG := Lib.hid (show G = ((gT (numG 63 l3)).bind fun b l2 => (gT (numG 1 l2)).bind fun m l3 => (gT (numG 9223372036854775807 l3)).bind fun s l4 => .ok (x0 K a b (decide (m = 1)) s) l4).bind fieldsT by rw [HG.out, Ga.out]; rfl)
    cases gb : numG 63 l3 with
    | bad E =>
      obtain rfl : G = .bad E := by rw [HG.out, gb]; rfl
      have NB := Lib.hid (node_bad t E l3 w3 (FS3.out.tape.at_ FS3.out.see) (by omega) gb)
      clear gb HG
      clear hl2
      go_wp2_with fail
      refine NB.out.mono ?_
      rintro e wb ⟨rfl, hbb⟩
      have HB := Lib.hid ((TU.out.after HXW.out (FS3.out.bad hbb)).2)
      clear hbb NB
      unfold fault
      go_wp2
      exact ⟨rfl, rfl, HB.out⟩
    | ok b l4 =>
    have bb : b ≤ 63 := (Vec.numG_enc gb).2
    have hl4 : l4.length ≤ 100000 := by have := (Vec.numG_enc gb).1; have h2 := congrArg List.length this; rw [List.length_append] at h2; omega
    have NB := Lib.hid (node_ok t b l3 l4 w3 FS3.out.tape FS3.out.see (by omega) gb)
    have Gb := Lib.hid gb
    clear gb
    go_wp2_with fail
    refine NB.out.mono ?_
    rintro e w4 ⟨rfl, ht, hb⟩
    have FS4 := Lib.hid (FS3.out.read hb ht)
    clear ht hb NB
    have HG := Lib.hid (show G = ((gT (numG 1 l4)).bind fun m l3 => (gT (numG 9223372036854775807 l3)).bind fun s l4 => .ok (x0 K a b (decide (m = 1)) s) l4).bind fieldsT by rw [HG.out, Gb.out]; rfl)
    have c1 : w4.cell? ⟨xb, 1, none⟩ = some (.int .i64 0) := (FS4.out.cell 1).trans rfl
    have c2 : w4.cell? ⟨xb, 2, none⟩ = some (.int .i64 0) := (FS4.out.cell 2).trans rfl
    have f1 := FS4.out.froz 1
    have f2 := FS4.out.froz 2
    have FS5 := Lib.hid ((FS4.out.set 1 (.int .i64 (a : Int))).set 2 (.int .i64 (b : Int)))
    clear FS3 FS4 FS Ga Gb
    go_upto_region 7 with fail
    generalize (w4.setCell ⟨xb, 1, none⟩ (.int .i64 (a : Int))).setCell ⟨xb, 2, none⟩ (.int .i64 (b : Int)) = w5 at FS5 ⊢
    clear c1 c2 f1 f2
    cases gmi : numG 1 l4 with
    | bad E =>
      obtain rfl : G = .bad E := by rw [HG.out, gmi]; rfl
      have NB := Lib.hid (num_bad t 1 E l4 w5 (FS5.out.tape.at_ FS5.out.see) (by omega) gmi)
      clear gmi HG
      clear hl2
      go_wp2_with fail
      refine NB.out.mono ?_
      rintro e wb ⟨rfl, hbb⟩
      have HB := Lib.hid ((TU.out.after HXW.out (FS5.out.bad hbb)).2)
      clear hbb NB
      unfold fault
      go_wp2
      exact ⟨rfl, rfl, HB.out⟩
    | ok mi l5 =>
    have bmi : mi ≤ 1 := (Vec.numG_enc gmi).2
    have hl5 : l5.length ≤ 100000 := by have := (Vec.numG_enc gmi).1; have h2 := congrArg List.length this; rw [List.length_append] at h2; omega
    have NB := Lib.hid (num_ok t 1 mi l4 l5 w5 FS5.out.tape FS5.out.see (by omega) gmi)
    have Gmi := Lib.hid gmi
    clear gmi
    go_wp2_with fail
    refine NB.out.mono ?_
    rintro e w6 ⟨rfl, ht, hb⟩
    have FS6 := Lib.hid (FS5.out.read hb ht)
    clear ht hb NB
    have HG := Lib.hid (show G = ((gT (numG 9223372036854775807 l5)).bind fun s l4 => .ok (x0 K a b (decide (mi = 1)) s) l4).bind fieldsT by rw [HG.out, Gmi.out]; rfl)
    cases gq : numG 9223372036854775807 l5 with
    | bad E =>
      obtain rfl : G = .bad E := by rw [HG.out, gq]; rfl
      have NB := Lib.hid (num_bad t 9223372036854775807 E l5 w6 (FS6.out.tape.at_ FS6.out.see) (by omega) gq)
      clear gq HG
      clear hl2
      go_wp2_with fail
      refine NB.out.mono ?_
      rintro e wb ⟨rfl, hbb⟩
      have HB := Lib.hid ((TU.out.after HXW.out (FS6.out.bad hbb)).2)
      clear hbb NB
      unfold fault
      go_wp2
      exact ⟨rfl, rfl, HB.out⟩
    | ok q l6 =>
    have bq : q ≤ 9223372036854775807 := (Vec.numG_enc gq).2
    have hl6 : l6.length ≤ 100000 := by have := (Vec.numG_enc gq).1; have h2 := congrArg List.length this; rw [List.length_append] at h2; omega
    have NB := Lib.hid (num_ok t 9223372036854775807 q l5 l6 w6 FS6.out.tape FS6.out.see (by omega) gq)
    have Gq := Lib.hid gq
    clear gq
    go_wp2_with fail
    refine NB.out.mono ?_
    rintro e w7 ⟨rfl, ht, hb⟩
    have FS7 := Lib.hid (FS6.out.read hb ht)
    clear ht hb NB
    have HG := Lib.hid (show G = fieldsT (x0 K a b (decide (mi = 1)) q) l6 by rw [HG.out, Gq.out]; rfl)
    obtain ⟨mb, hmb⟩ : ∃ mb, mb = decide (mi = 1) := ⟨_, rfl⟩
    rw [← hmb] at HG
    have hmc : ((mi : Int) == 1) = mb := by
      rw [hmb]
      by_cases h : mi = 1
      · subst h; rfl
      · rw [decide_eq_false h, beq_eq_false_iff_ne]; omega
    have c3 : w7.cell? ⟨xb, 3, none⟩ = some (.bool false) := (FS7.out.cell 3).trans rfl
    have c4 : w7.cell? ⟨xb, 4, none⟩ = some (.int .u64 0) := (FS7.out.cell 4).trans rfl
    have f3 := FS7.out.froz 3
    have f4 := FS7.out.froz 4
    have FS8 := Lib.hid ((FS7.out.set 3 (.bool mb)).set 4 (.int .u64 (q : Int)))
    clear FS5 FS6 FS7 Gmi Gq hmb
    go_upto_region 8 with fail
    generalize (w7.setCell ⟨xb, 3, none⟩ (.bool mb)).setCell ⟨xb, 4, none⟩ (.int .u64 (q : Int)) = w8 at FS8 ⊢
    clear c3 c4 f3 f4 hmc
    have FLD := fields_any PA PN L t xb l6 K a b mb q w8 hK7 FS8.out.tape FS8.out.see hl6 (FS8.out.box.trans rfl) FS8.out.ne FS8.out.out
    cases gf : fieldsT (x0 K a b mb q) l6 with
    | bad E =>
      rw [gf] at FLD
      obtain rfl : G = .bad E := by rw [HG.out, gf]
      have NB := Lib.hid FLD
      clear FLD gf HG
      go_wp2_with fail
      refine NB.out.mono ?_
      rintro e wb ⟨rfl, hbb⟩
      have HB := Lib.hid (TU.out.after HXW.out (FS8.out.bes.trans hbb (by simp))).2
      clear hbb NB
      unfold fault
      go_wp2
      exact ⟨rfl, rfl, HB.out⟩
    | no =>
      rw [gf] at FLD
      obtain rfl : G = .no := by rw [HG.out, gf]
      have NB := Lib.hid FLD
      clear FLD gf HG
      go_wp2_with fail
      refine NB.out.mono ?_
      rintro e w9 ⟨x, v, rfl, hbx, hbb⟩
      have HB := Lib.hid (TU.out.after HXW.out (FS8.out.bes.trans hbb (by simp)))
      have HBX := Lib.hid hbx
      clear hbb NB hbx
      go_wp2_with (first
        | (refine wpList_getRow rfl 37 (.tmp 4) rfl xb 37 (ltV x v) (0, 0) _ rfl ?g1 Tryd.underlying37 rfl (by kernel_rfl) ?_)
        | (refine wpList_putRow rfl 37 (.tmp 2) (.tmp 37) rfl w.heap.size 37 #[.int .u8 0, .int .i64 0, .int .i64 0, .bool false, .int .u64 0, .slice none 0 0, .slice none 0 0, .slice none 0 0, .int .u64 0, .int .u64 0, .int .u32 0, .int .u64 0, .slice none 0 0, .int .i64 0] (ltV x v) rfl rfl ?g2 (by kernel_rfl) rfl (by simp [ltV, Value.oneCell']) ?_))
      case g1 => exact HBX.out
      case g2 => exact HB.out.1
      intro W' hW' hbe
      have FIN : Hid (TakeGives PA PN L t .no w (.returned (.tuple #[.agg (ltV x v), .bool false])) W') := Lib.hid ⟨x, v, rfl, HB.out.2.trans hbe (fun y hy => by simp at hy; subst hy; exact .inr (Nat.le_refl _))⟩
      obtain ⟨c0, c1, c2, c3, c4, c5, c6, c7, c8, c9, c10, c11, c12, c13⟩ := lt_cells hW'
      clear hW' hbe
      go_wp2
      refine bodyPost_ret (v := .tuple #[.agg (ltV x v), .bool false]) ?_ rfl FIN.out
      simp [results, Tryd.results22, go_sem, ltV, c0, c1, c2, c3, c4, c5, c6, c7, c8, c9, c10, c11, c12, c13]
    | ok x r =>
      rw [gf] at FLD
      obtain rfl : G = .ok x r := by rw [HG.out, gf]
      have NB := Lib.hid FLD
      clear FLD gf HG
      go_wp2_with fail
      refine NB.out.mono ?_
      rintro e w9 ⟨v, S, rfl, hbx, hat, htp, hbb⟩
      have HB := Lib.hid (TU.out.after HXW.out (FS8.out.bes.trans hbb (by simp)))
      have HBX := Lib.hid hbx
      have HAT := Lib.hid (And.intro hat htp)
      clear hbb NB hbx hat htp
      go_wp2_with (first
        | (refine wpList_getRow rfl 37 (.tmp 4) rfl xb 37 (ltV x v) (0, 0) _ rfl ?g1 Tryd.underlying37 rfl (by kernel_rfl) ?_)
        | (refine wpList_putRow rfl 37 (.tmp 2) (.tmp 37) rfl w.heap.size 37 #[.int .u8 0, .int .i64 0, .int .i64 0, .bool false, .int .u64 0, .slice none 0 0, .slice none 0 0, .slice none 0 0, .int .u64 0, .int .u64 0, .int .u32 0, .int .u64 0, .slice none 0 0, .int .i64 0] (ltV x v) rfl rfl ?g2 (by kernel_rfl) rfl (by simp [ltV, Value.oneCell']) ?_))
      case g1 => exact HBX.out
      case g2 => exact HB.out.1
      intro W' hW' hbe
      have FIN : Hid (TakeGives PA PN L t (.ok x r) w (.returned (.tuple #[.agg (ltV x v), .bool true])) W') := Lib.hid ⟨v, S, rfl, (HAT.out.1.beside hbe (by have h1 := HXW.out; have h2 := FS8.out.old.1; have h3 := FS8.out.bes.size; simp; omega)).lower (by have h1 := HXW.out; have h2 := FS8.out.old.1; have h3 := FS8.out.bes.size; omega), HAT.out.2.keep (hbe.block t (by have := HAT.out.2.lt; omega) (by have := TU.out.old; simp; omega)), HB.out.2.trans hbe (fun y hy => by simp at hy; subst hy; exact .inr (Nat.le_refl _))⟩
      obtain ⟨c0, c1, c2, c3, c4, c5, c6, c7, c8, c9, c10, c11, c12, c13⟩ := lt_cells hW'
      clear hW' hbe
      go_wp2
      refine bodyPost_ret (v := .tuple #[.agg (ltV x v), .bool true]) ?_ rfl FIN.out
      simp [results, Tryd.results22, go_sem, ltV, c0, c1, c2, c3, c4, c5, c6, c7, c8, c9, c10, c11, c12, c13]
end Go.Proofs.YthdflbpmabcjlaaDoor.Lt
