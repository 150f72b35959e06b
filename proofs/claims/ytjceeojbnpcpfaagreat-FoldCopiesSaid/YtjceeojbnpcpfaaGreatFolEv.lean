/- The law's event: its contract. -/
import Derived.Test.YtjceeojbnpcpfaaGreatFolX
import Derived.Test.YtjceeojbnpcpfaaGreatFolC2
namespace Go.Proofs.YtjceeojbnpcpfaaGreat.Fol
open Go Go.RowKit Go.Proofs.YtjceeojbnpcpfaaGreat.Words Go.Proofs.YtjceeojbnpcpfaaGreat.Enc Go.Proofs.YtjceeojbnpcpfaaGreat.Q Go.Proofs.YtjceeojbnpcpfaaGreat.Evt Go.Proofs.YtjceeojbnpcpfaaGreat.Made
set_option linter.unusedVariables false
set_option linter.unusedSimpArgs false

/-- An event in small numbers. -/
structure Pu where
  W : Nat
  T : Nat
  K : Nat
  A : Nat
  X : Nat
def Pu.cells (x : Pu) : List Value := [.int .u8 (x.W : Int), .int .u8 (x.T : Int), .int .u8 (x.K : Int), .int .u8 (x.A : Int), .float .f64 x.X]
def Pu.ev (x : Pu) (F : Fo) : Ev := ⟨((x.W % 4 : Nat) : Int), if 240 ≤ x.T then x.A % 5 else F.H.getD (x.W % 4) 0 + 1, F.time + x.T % 3, 1 + x.K % 6, ⟨#[UInt8.ofNat (97 + x.A % 4)]⟩, if x.K % 6 = 0 then [UInt8.ofNat x.A, UInt8.ofNat x.T] else [], x.X, ((x.A % 70 : Nat) : Int)⟩
structure Pu.Good (x : Pu) : Prop where
  w : x.W < 256
  t : x.T < 256
  k : x.K < 256
  a : x.A < 256
  x : x.X < 18446744073709551616
/-- A small event that was made. -/
def TextIn (w : World) (A : Option Addr) (l : List UInt8) : Prop := 0 < l.length → ∃ g cur fr, A = some ⟨g, 0, none⟩ ∧ w.heap[g]? = some (.cells cur 5 fr)
theorem TextIn.below {w w' : World} {A : Option Addr} {l : List UInt8} (h : TextIn w A l) (hb : Below w.heap.size w w') : TextIn w' A l := fun h0 => by
  obtain ⟨g, cur, fr, h1, h2⟩ := h h0
  exact ⟨g, cur, fr, h1, (hb.block g (Array.getElem?_eq_some_iff.1 h2).1).trans h2⟩
def EvGives (e : Ev) (w : World) (r : Ending) (w' : World) : Prop := ∃ A c, r = .returned (e.val A e.text.length c) ∧ ((∀ S : List Nat, (∀ x ∈ S, x < w.heap.size) → SeesV w' S A (cs e.text)) ∧ TextIn w' A e.text) ∧ Below w.heap.size w w'
theorem b5cells {w : World} {b : Nat} {v0 v1 v2 v3 v4 : Value} {T : TypeId} {f : Nat × Nat} (h : w.heap[b]? = some (.cells #[v0, v1, v2, v3, v4] T f)) :
    w.cell? ⟨b, 0, none⟩ = some v0 ∧ w.cell? ⟨b, 1, none⟩ = some v1 ∧ w.cell? ⟨b, 2, none⟩ = some v2 ∧ w.cell? ⟨b, 3, none⟩ = some v3 ∧ w.cell? ⟨b, 4, none⟩ = some v4 := by
  refine ⟨?_, ?_, ?_, ?_, ?_⟩ <;> (rw [cell_of_row w b _ _ _ _ h]; rfl)
theorem ev_slice (i : Int) (s t k : Nat) (key : ByteArray) (A : Option Addr) (n c x : Nat) (nd : Int) (tx : List UInt8) : Ev.val ⟨i, s, t, k, key, tx, x, nd⟩ A n c = .agg #[.int .i64 i, .int .u64 (s : Int), .int .u64 (t : Int), .int .u8 (k : Int), .string key, .slice A n c, .float .f64 x, .int .i64 nd] := rfl

section
variable {La Ja Ra Ha : Option Addr} {lc Jc Rc Hc tm W0 M : Nat} {L : List (Key × RC)} {F : Fo} {S : List Nat}
set_option maxRecDepth 100000 in
set_option maxHeartbeats 4000000 in
theorem putEv_any (x : Pu) (hx : x.Good) (w : World) (r : RefAt w S La lc L ⟨Ja, Jc, Ra, Rc, Ha, Hc, tm, W0, M⟩ F) (ok : Ok F) :
    Calls Tryz.prog 7 #[.agg x.cells.toArray, .agg (rv La L.length lc ⟨Ja, Jc, Ra, Rc, Ha, Hc, tm, W0, M⟩)] w (EvGives (x.ev F) w) := by
  have hsf := store_float Tryz.prog
  obtain ⟨W, T, K, A, X⟩ := x
  obtain ⟨hw, ht, hk, ha, hX⟩ := hx
  simp only at hw ht hk ha hX
  have htm : tm = F.time := r.T
  have htm64 : tm < 9223372036854775808 := by rw [htm]; exact ok.time
  obtain ⟨n', hnl⟩ : ∃ n', n' = L.length := ⟨_, rfl⟩
  unfold rv
  rw [← hnl]
  show Calls _ _ #[.agg #[.int .u8 (W : Int), .int .u8 (T : Int), .int .u8 (K : Int), .int .u8 (A : Int), .float .f64 X], .agg #[.slice La n' lc, .slice Ja 64 Jc, .slice Ra 64 Rc, .slice Ha 64 Hc, .int .u64 (tm : Int), .int .i64 (W0 : Int), .int .u64 (M : Int)]] _ _
  have hHne : Vec.us F.H ≠ [] := fun e => by have := congrArg List.length e; rw [Vec.us_length, ok.h] at this; simp at this
  obtain ⟨hb, ho, hHa, -, -⟩ := r.H hHne
  simp only at hHa
  subst hHa
  obtain ⟨wn, hwn⟩ : ∃ wn, wn = W % 4 := ⟨_, rfl⟩
  have hwc : (W : Int) % 4 = (wn : Int) := by omega
  have hw4 : wn < 4 := by omega
  have hwi : (wn : Int) < 64 := by omega
  obtain ⟨h0, hh0⟩ : ∃ h0, h0 = F.H.getD wn 0 := ⟨_, rfl⟩
  have hHget : (Vec.us F.H)[wn]? = some (.int .u64 (h0 : Int)) := by
    rw [hh0]
    unfold Vec.us
    rw [List.getElem?_map, List.getElem?_eq_getElem (by rw [ok.h]; omega), List.getD_eq_getElem?_getD, List.getElem?_eq_getElem (by rw [ok.h]; omega)]
    rfl
  have hh63 : h0 < 9223372036854775808 := by
    rw [hh0]
    have hl : wn < F.H.length := by rw [ok.h]; omega
    have : F.H.getD wn 0 ∈ F.H := by rw [List.getD_eq_getElem?_getD, List.getElem?_eq_getElem hl]; exact List.getElem_mem hl
    exact ok.hs _ this
  obtain ⟨B, hB⟩ : ∃ B, B = w.heap.size := ⟨_, rfl⟩
  have BX := Lib.hid (fun (W' : World) hW => boxesT #[.int .u8 (W : Int), .int .u8 (T : Int), .int .u8 (K : Int), .int .u8 (A : Int), .float .f64 X] #[.slice La n' lc, .slice Ja 64 Jc, .slice Ra 64 Rc, .slice (some ⟨hb, ho, none⟩) 64 Hc, .int .u64 (tm : Int), .int .i64 (W0 : Int), .int .u64 (M : Int)] #[.int .i64 0, .int .u64 0, .int .u64 0, .int .u8 0, .string ⟨#[]⟩, .slice none 0 0, .float .f64 0, .int .i64 0] 40 33 38 w W' hW)
  rw [← hB] at BX
  have RH := Lib.hid (fun (W' : World) (hW : Below w.heap.size w W') => (by
    obtain ⟨b', o', hA', _, hc'⟩ := (r.H.below hW) hHne
    simp only at hA'
    injection hA' with hA'
    injection hA' with h1 h2
    subst h1; subst h2
    exact hc' wn _ hHget : W'.cell? ⟨hb, ho + wn, none⟩ = some (.int .u64 (h0 : Int))))
  obtain ⟨u, hu⟩ : ∃ u, u = ((w.alloc (.cells #[.int .u8 (W : Int), .int .u8 (T : Int), .int .u8 (K : Int), .int .u8 (A : Int), .float .f64 X] 40)).alloc (.cells #[.slice La n' lc, .slice Ja 64 Jc, .slice Ra 64 Rc, .slice (some ⟨hb, ho, none⟩) 64 Hc, .int .u64 (tm : Int), .int .i64 (W0 : Int), .int .u64 (M : Int)] 33)).alloc (.cells #[.int .i64 0, .int .u64 0, .int .u64 0, .int .u8 0, .string ⟨#[]⟩, .slice none 0 0, .float .f64 0, .int .i64 0] 38) := ⟨_, rfl⟩
  have hus : u.heap.size = B + 3 := by rw [hu, hB]; simp
  obtain ⟨KB, hKB⟩ : ∃ KB : ByteArray, KB = ⟨#[UInt8.ofNat (97 + A % 4)]⟩ := ⟨_, rfl⟩
  rw [← hu] at BX
  have CELLS := Lib.hid (fun (W' : World) (hW : Below u.heap.size u W') => (by
    obtain ⟨b1', g0, g1, g2, z1⟩ := BX.out W' (by rw [← hus]; exact hW)
    have b1 : Below w.heap.size w W' := by rw [← hB]; exact b1'
    exact ⟨b5cells g0, rv_cells (h := ⟨Ja, Jc, Ra, Rc, some ⟨hb, ho, none⟩, Hc, tm, W0, M⟩) g1, RH.out W' b1, g0, g1, g2, b1, z1⟩ : (W'.cell? ⟨B, 0, none⟩ = some (.int .u8 (W : Int)) ∧ W'.cell? ⟨B, 1, none⟩ = some (.int .u8 (T : Int)) ∧ W'.cell? ⟨B, 2, none⟩ = some (.int .u8 (K : Int)) ∧ W'.cell? ⟨B, 3, none⟩ = some (.int .u8 (A : Int)) ∧ W'.cell? ⟨B, 4, none⟩ = some (.float .f64 X)) ∧ (W'.cell? ⟨B + 1, 0, none⟩ = some (.slice La n' lc) ∧ W'.cell? ⟨B + 1, 1, none⟩ = some (.slice Ja 64 Jc) ∧ W'.cell? ⟨B + 1, 2, none⟩ = some (.slice Ra 64 Rc) ∧ W'.cell? ⟨B + 1, 3, none⟩ = some (.slice (some ⟨hb, ho, none⟩) 64 Hc) ∧ W'.cell? ⟨B + 1, 4, none⟩ = some (.int .u64 (tm : Int)) ∧ W'.cell? ⟨B + 1, 5, none⟩ = some (.int .i64 (W0 : Int)) ∧ W'.cell? ⟨B + 1, 6, none⟩ = some (.int .u64 (M : Int))) ∧ W'.cell? ⟨hb, ho + wn, none⟩ = some (.int .u64 (h0 : Int)) ∧ W'.heap[B]? = some (.cells #[.int .u8 (W : Int), .int .u8 (T : Int), .int .u8 (K : Int), .int .u8 (A : Int), .float .f64 X] 40 (0, 0)) ∧ W'.heap[B + 1]? = some (.cells #[.slice La n' lc, .slice Ja 64 Jc, .slice Ra 64 Rc, .slice (some ⟨hb, ho, none⟩) 64 Hc, .int .u64 (tm : Int), .int .i64 (W0 : Int), .int .u64 (M : Int)] 33 (0, 0)) ∧ W'.heap[B + 2]? = some (.cells #[.int .i64 0, .int .u64 0, .int .u64 0, .int .u8 0, .string ⟨#[]⟩, .slice none 0 0, .float .f64 0, .int .i64 0] 38 (0, 0)) ∧ Below w.heap.size w W' ∧ B + 3 ≤ W'.heap.size))
  have hkey : ∀ (W' : World) (A' : Option Addr) (c' : Nat), Sees W' A' 1 [UInt8.ofNat (97 + A % 4)] → (convert 35 9 (.slice A' 1 c')).run Tryz.prog W' = .ok (.string KB) W' := fun W' A' c' h => by rw [hKB]; exact h.string c' Tryz.underlying35 Tryz.underlying5 Tryz.underlying9
  have hk8 : (97 + (A : Int) % 4) = ((UInt8.ofNat (97 + A % 4)).toNat : Int) := by rw [UInt8.toNat_ofNat']; omega
  have HKEY := Lib.hid hkey
  have HK8 := Lib.hid hk8
  have HU := Lib.hid hu
  have HB := Lib.hid hB
  have HUS := Lib.hid hus
  have HEV : ∀ (e : Ev), e = (⟨W, T, K, A, X⟩ : Pu).ev F → e = ⟨(wn : Int), if 240 ≤ T then A % 5 else h0 + 1, tm + T % 3, 1 + K % 6, KB, if K % 6 = 0 then [UInt8.ofNat A, UInt8.ofNat T] else [], X, ((A % 70 : Nat) : Int)⟩ := fun e he => by rw [he, hKB, hh0, hwn, htm]; rfl
  obtain ⟨ev, hev⟩ : ∃ e, e = (⟨W, T, K, A, X⟩ : Pu).ev F := ⟨_, rfl⟩
  have he := HEV ev hev
  rw [← hev]
  have HE := Lib.hid he
  have w3 : IntKind.u64.wrap ((T : Int) % 3) = (T : Int) % 3 := by rw [IntKind.wrap_u64]; omega
  have w25 : IntKind.u64.wrap ((tm : Int) + (T : Int) % 3) = (tm : Int) + (T : Int) % 3 := by rw [IntKind.wrap_u64]; omega
  have w17 : IntKind.u64.wrap ((h0 : Int) + 1) = (h0 : Int) + 1 := by rw [IntKind.wrap_u64]; omega
  have w29 : IntKind.u8.wrap (1 + (K : Int) % 6) = 1 + (K : Int) % 6 := by rw [IntKind.wrap_u8]; omega
  have tT : (T : Int).tmod 3 = (T : Int) % 3 := Int.tmod_eq_emod_of_nonneg (by omega)
  have tK : (K : Int).tmod 6 = (K : Int) % 6 := Int.tmod_eq_emod_of_nonneg (by omega)
  have tA : (A : Int).tmod 4 = (A : Int) % 4 := Int.tmod_eq_emod_of_nonneg (by omega)
  have tN : (A : Int).tmod 70 = (A : Int) % 70 := Int.tmod_eq_emod_of_nonneg (by omega)
  have w33 : IntKind.u8.wrap (97 + (A : Int) % 4) = 97 + (A : Int) % 4 := by rw [IntKind.wrap_u8]; omega
  clear hev he HEV hu hB hus hkey hk8 hKB hh0 hHget hHne htm hnl r ok hwn BX RH
  go_enter Tryz.func7, Tryz.ntmps7
  go_upto_region 1 with fail
  rw [← HU.out, ← HB.out]
  obtain ⟨⟨p0, p1, p2, p3, p4⟩, -⟩ := CELLS.out u (Below.refl _ _)
  go_upto_region 2 with fail
  rw [hwc]
  clear p0 p1 p2 p3 p4
  have HC := Lib.hid (fun (W' : World) (hW : Below u.drew.heap.size u.drew W') => (by
    have h := (Below.refl u.heap.size u).drew.trans hW
    have c := CELLS.out W' h
    exact ⟨c.1, c.2.1, c.2.2.1, h⟩ : (W'.cell? ⟨B, 0, none⟩ = some (.int .u8 (W : Int)) ∧ W'.cell? ⟨B, 1, none⟩ = some (.int .u8 (T : Int)) ∧ W'.cell? ⟨B, 2, none⟩ = some (.int .u8 (K : Int)) ∧ W'.cell? ⟨B, 3, none⟩ = some (.int .u8 (A : Int)) ∧ W'.cell? ⟨B, 4, none⟩ = some (.float .f64 X)) ∧ (W'.cell? ⟨B + 1, 0, none⟩ = some (.slice La n' lc) ∧ W'.cell? ⟨B + 1, 1, none⟩ = some (.slice Ja 64 Jc) ∧ W'.cell? ⟨B + 1, 2, none⟩ = some (.slice Ra 64 Rc) ∧ W'.cell? ⟨B + 1, 3, none⟩ = some (.slice (some ⟨hb, ho, none⟩) 64 Hc) ∧ W'.cell? ⟨B + 1, 4, none⟩ = some (.int .u64 (tm : Int)) ∧ W'.cell? ⟨B + 1, 5, none⟩ = some (.int .i64 (W0 : Int)) ∧ W'.cell? ⟨B + 1, 6, none⟩ = some (.int .u64 (M : Int))) ∧ W'.cell? ⟨hb, ho + wn, none⟩ = some (.int .u64 (h0 : Int)) ∧ Below u.heap.size u W'))
  refine Facts.wp_region_tail 33 (n := 61) (by kernel_rfl) (by kernel_rfl) (by kernel_rfl) rfl [Facts.Pred.is (.int .i64 (wn : Int)), Facts.Pred.is (.pointer (some ⟨B + 1, 3, none⟩)), Facts.Pred.is (.slice (some ⟨hb, ho, none⟩) 64 Hc), Facts.Pred.is (.int .i64 (wn : Int)), Facts.Pred.is (.pointer (some ⟨hb, ho + wn, none⟩)), Facts.Pred.is (.int .u64 (h0 : Int)), Facts.Pred.is (.int .u64 ((h0 : Int) + 1)), Facts.Pred.is (.pointer (some ⟨B + 1, 4, none⟩)), Facts.Pred.is (.pointer (some ⟨B + 1, 4, none⟩)), Facts.Pred.is (.int .u64 (tm : Int)), Facts.Pred.is (.pointer (some ⟨B, 1, none⟩)), Facts.Pred.is (.int .u8 (T : Int)), Facts.Pred.is (.int .u8 ((T : Int) % 3)), Facts.Pred.is (.int .u64 ((T : Int) % 3)), Facts.Pred.is (.int .u64 ((tm : Int) + (T : Int) % 3)), Facts.Pred.is (.pointer (some ⟨B, 2, none⟩)), Facts.Pred.is (.int .u8 (K : Int)), Facts.Pred.is (.int .u8 ((K : Int) % 6)), Facts.Pred.is (.int .u8 (1 + (K : Int) % 6)), Facts.Pred.is (.pointer (some ⟨B, 3, none⟩)), Facts.Pred.is (.int .u8 (A : Int)), Facts.Pred.is (.int .u8 ((A : Int) % 4)), Facts.Pred.is (.int .u8 (97 + (A : Int) % 4)), PRowE ([UInt8.ofNat (97 + A % 4)]), Facts.Pred.is (.string KB), Facts.Pred.is (.pointer (some ⟨B, 4, none⟩)), Facts.Pred.is (.float .f64 X), Facts.Pred.is (.pointer (some ⟨B, 3, none⟩)), Facts.Pred.is (.int .u8 (A : Int)), Facts.Pred.is (.int .u8 ((A : Int) % 70)), Facts.Pred.is (.int .i64 ((A : Int) % 70)), Facts.Pred.is (.agg #[.int .i64 (wn : Int), .int .u64 ((h0 : Int) + 1), .int .u64 ((tm : Int) + (T : Int) % 3), .int .u8 (1 + (K : Int) % 6), .string KB, .slice none 0 0, .float .f64 X, .int .i64 ((A : Int) % 70)]), PBox u.heap.size #[.int .i64 0, .int .u64 0, .int .u64 0, .int .u8 0, .string ⟨#[]⟩, .slice none 0 0, .float .f64 0, .int .i64 0] 38] ?_ ?_
  · refine ⟨?_, ?_, ?_, ?_, ?_, ?_, ?_, ?_, ?_, ?_, ?_, ?_, ?_, ?_, ?_, ?_, ?_, ?_, ?_, ?_, ?_, ?_, ?_, ?_, ?_, ?_, ?_, ?_, ?_, ?_, ?_, ?_, ?_, trivial⟩
    · refine Facts.step_is (.int .i64 (wn : Int)) fun a W' hR hold hnew => ?_
      have f5 : a.tmps.getD 5 undef = .int .i64 (wn : Int) := hold 5 (by kernel_rfl)
      refine ⟨Facts.wanted_free rfl, ?_, fun _ => rfl⟩
      simp [go_sem, Act.eval, f5]
    · refine Facts.step_is (.pointer (some ⟨B + 1, 3, none⟩)) fun a W' hR hold hnew => ?_
      have f3 : a.tmps.getD 3 undef = .pointer (some ⟨B + 1, 0, none⟩) := hold 3 (by kernel_rfl)
      refine ⟨Facts.wanted_free rfl, ?_, fun _ => rfl⟩
      simp [go_sem, Act.eval, f3]
    · refine Facts.step_is (.slice (some ⟨hb, ho, none⟩) 64 Hc) fun a W' hR hold hnew => ?_
      have f12 : a.tmps.getD 12 undef = .pointer (some ⟨B + 1, 3, none⟩) := hnew 1 12 (by kernel_rfl)
      have q := (HC.out W' hR).2.1.2.2.2.1
      refine ⟨Facts.wanted_free rfl, ?_, fun _ => rfl⟩
      simp [go_sem, Act.eval, f12, q]
    · refine Facts.step_is (.int .i64 (wn : Int)) fun a W' hR hold hnew => ?_
      have f5 : a.tmps.getD 5 undef = .int .i64 (wn : Int) := hold 5 (by kernel_rfl)
      refine ⟨Facts.wanted_free rfl, ?_, fun _ => rfl⟩
      simp [go_sem, Act.eval, f5]
    · refine Facts.step_is (.pointer (some ⟨hb, ho + wn, none⟩)) fun a W' hR hold hnew => ?_
      have f13 : a.tmps.getD 13 undef = .slice (some ⟨hb, ho, none⟩) 64 Hc := hnew 2 13 (by kernel_rfl)
      have f14 : a.tmps.getD 14 undef = .int .i64 (wn : Int) := hnew 3 14 (by kernel_rfl)
      refine ⟨Facts.wanted_free rfl, ?_, fun _ => rfl⟩
      simp [go_sem, Act.eval, f13, f14, hwi]
    · refine Facts.step_is (.int .u64 (h0 : Int)) fun a W' hR hold hnew => ?_
      have f15 : a.tmps.getD 15 undef = .pointer (some ⟨hb, ho + wn, none⟩) := hnew 4 15 (by kernel_rfl)
      have q := (HC.out W' hR).2.2.1
      refine ⟨Facts.wanted_free rfl, ?_, fun _ => rfl⟩
      simp [go_sem, Act.eval, f15, q]
    · refine Facts.step_is (.int .u64 ((h0 : Int) + 1)) fun a W' hR hold hnew => ?_
      have f16 : a.tmps.getD 16 undef = .int .u64 (h0 : Int) := hnew 5 16 (by kernel_rfl)
      refine ⟨Facts.wanted_free rfl, ?_, fun _ => rfl⟩
      simp [go_sem, Act.eval, f16, w17]
    · refine Facts.step_is (.pointer (some ⟨B + 1, 4, none⟩)) fun a W' hR hold hnew => ?_
      have f3 : a.tmps.getD 3 undef = .pointer (some ⟨B + 1, 0, none⟩) := hold 3 (by kernel_rfl)
      refine ⟨Facts.wanted_free rfl, ?_, fun _ => rfl⟩
      simp [go_sem, Act.eval, f3]
    · refine Facts.step_is (.pointer (some ⟨B + 1, 4, none⟩)) fun a W' hR hold hnew => ?_
      have f18 : a.tmps.getD 18 undef = .pointer (some ⟨B + 1, 4, none⟩) := hnew 7 18 (by kernel_rfl)
      refine ⟨Facts.wanted_free rfl, ?_, fun _ => rfl⟩
      simp [go_sem, Act.eval, f18]
    · refine Facts.step_is (.int .u64 (tm : Int)) fun a W' hR hold hnew => ?_
      have f19 : a.tmps.getD 19 undef = .pointer (some ⟨B + 1, 4, none⟩) := hnew 8 19 (by kernel_rfl)
      have q := (HC.out W' hR).2.1.2.2.2.2.1
      refine ⟨Facts.wanted_free rfl, ?_, fun _ => rfl⟩
      simp [go_sem, Act.eval, f19, q]
    · refine Facts.step_is (.pointer (some ⟨B, 1, none⟩)) fun a W' hR hold hnew => ?_
      have f2 : a.tmps.getD 2 undef = .pointer (some ⟨B, 0, none⟩) := hold 2 (by kernel_rfl)
      refine ⟨Facts.wanted_free rfl, ?_, fun _ => rfl⟩
      simp [go_sem, Act.eval, f2]
    · refine Facts.step_is (.int .u8 (T : Int)) fun a W' hR hold hnew => ?_
      have f21 : a.tmps.getD 21 undef = .pointer (some ⟨B, 1, none⟩) := hnew 10 21 (by kernel_rfl)
      have q := (HC.out W' hR).1.2.1
      refine ⟨Facts.wanted_free rfl, ?_, fun _ => rfl⟩
      simp [go_sem, Act.eval, f21, q]
    · refine Facts.step_is (.int .u8 ((T : Int) % 3)) fun a W' hR hold hnew => ?_
      have f22 : a.tmps.getD 22 undef = .int .u8 (T : Int) := hnew 11 22 (by kernel_rfl)
      refine ⟨Facts.wanted_free rfl, ?_, fun _ => rfl⟩
      simp [go_sem, Act.eval, f22, tT]
    · refine Facts.step_is (.int .u64 ((T : Int) % 3)) fun a W' hR hold hnew => ?_
      have f23 : a.tmps.getD 23 undef = .int .u8 ((T : Int) % 3) := hnew 12 23 (by kernel_rfl)
      refine ⟨Facts.wanted_free rfl, ?_, fun _ => rfl⟩
      simp [go_sem, Act.eval, f23, w3]
    · refine Facts.step_is (.int .u64 ((tm : Int) + (T : Int) % 3)) fun a W' hR hold hnew => ?_
      have f20 : a.tmps.getD 20 undef = .int .u64 (tm : Int) := hnew 9 20 (by kernel_rfl)
      have f24 : a.tmps.getD 24 undef = .int .u64 ((T : Int) % 3) := hnew 13 24 (by kernel_rfl)
      refine ⟨Facts.wanted_free rfl, ?_, fun _ => rfl⟩
      simp [go_sem, Act.eval, f20, f24, w25]
    · refine Facts.step_is (.pointer (some ⟨B, 2, none⟩)) fun a W' hR hold hnew => ?_
      have f2 : a.tmps.getD 2 undef = .pointer (some ⟨B, 0, none⟩) := hold 2 (by kernel_rfl)
      refine ⟨Facts.wanted_free rfl, ?_, fun _ => rfl⟩
      simp [go_sem, Act.eval, f2]
    · refine Facts.step_is (.int .u8 (K : Int)) fun a W' hR hold hnew => ?_
      have f26 : a.tmps.getD 26 undef = .pointer (some ⟨B, 2, none⟩) := hnew 15 26 (by kernel_rfl)
      have q := (HC.out W' hR).1.2.2.1
      refine ⟨Facts.wanted_free rfl, ?_, fun _ => rfl⟩
      simp [go_sem, Act.eval, f26, q]
    · refine Facts.step_is (.int .u8 ((K : Int) % 6)) fun a W' hR hold hnew => ?_
      have f27 : a.tmps.getD 27 undef = .int .u8 (K : Int) := hnew 16 27 (by kernel_rfl)
      refine ⟨Facts.wanted_free rfl, ?_, fun _ => rfl⟩
      simp [go_sem, Act.eval, f27, tK]
    · refine Facts.step_is (.int .u8 (1 + (K : Int) % 6)) fun a W' hR hold hnew => ?_
      have f28 : a.tmps.getD 28 undef = .int .u8 ((K : Int) % 6) := hnew 17 28 (by kernel_rfl)
      refine ⟨Facts.wanted_free rfl, ?_, fun _ => rfl⟩
      simp [go_sem, Act.eval, f28, w29]
    · refine Facts.step_is (.pointer (some ⟨B, 3, none⟩)) fun a W' hR hold hnew => ?_
      have f2 : a.tmps.getD 2 undef = .pointer (some ⟨B, 0, none⟩) := hold 2 (by kernel_rfl)
      refine ⟨Facts.wanted_free rfl, ?_, fun _ => rfl⟩
      simp [go_sem, Act.eval, f2]
    · refine Facts.step_is (.int .u8 (A : Int)) fun a W' hR hold hnew => ?_
      have f30 : a.tmps.getD 30 undef = .pointer (some ⟨B, 3, none⟩) := hnew 19 30 (by kernel_rfl)
      have q := (HC.out W' hR).1.2.2.2.1
      refine ⟨Facts.wanted_free rfl, ?_, fun _ => rfl⟩
      simp [go_sem, Act.eval, f30, q]
    · refine Facts.step_is (.int .u8 ((A : Int) % 4)) fun a W' hR hold hnew => ?_
      have f31 : a.tmps.getD 31 undef = .int .u8 (A : Int) := hnew 20 31 (by kernel_rfl)
      refine ⟨Facts.wanted_free rfl, ?_, fun _ => rfl⟩
      simp [go_sem, Act.eval, f31, tA]
    · refine Facts.step_is (.int .u8 (97 + (A : Int) % 4)) fun a W' hR hold hnew => ?_
      have f32 : a.tmps.getD 32 undef = .int .u8 ((A : Int) % 4) := hnew 21 32 (by kernel_rfl)
      refine ⟨Facts.wanted_free rfl, ?_, fun _ => rfl⟩
      simp [go_sem, Act.eval, f32, w33]
    · refine Facts.step_new fun a W' hR hold hnew => ?_
      have f33 : a.tmps.getD 33 undef = .int .u8 (97 + (A : Int) % 4) := hnew 22 33 (by kernel_rfl)
      rw [Array.getD_eq_getD_getElem?] at f33
      exact ⟨Facts.wanted_free rfl, .slice (some ⟨W'.heap.size, 0, none⟩) 1 1, W'.alloc (.cells #[.int .u8 (97 + (A : Int) % 4)] 5), by simp [go_sem, Act.eval, f33], (Below.refl _ _).alloc (Nat.le_refl _) _, _, _, rfl, Sees.fresh W' _ _ _ HK8.out⟩
    · refine Facts.step_is (.string KB) fun a W' hR hold hnew => ?_
      have h34 : ∃ A' c', a.tmps.getD 34 undef = .slice A' ([UInt8.ofNat (97 + A % 4)]).length c' ∧ Sees W' A' ([UInt8.ofNat (97 + A % 4)]).length ([UInt8.ofNat (97 + A % 4)]) := hnew 23 34 (by kernel_rfl)
      obtain ⟨A34, c34, f34, s34⟩ := h34
      have q := HKEY.out W' A34 c34 s34
      have hl1 : ([UInt8.ofNat (97 + A % 4)] : List UInt8).length = 1 := rfl
      rw [hl1] at f34
      refine ⟨Facts.wanted_free rfl, ?_, fun _ => rfl⟩
      simp [go_sem, Act.eval, f34, q]
    · refine Facts.step_is (.pointer (some ⟨B, 4, none⟩)) fun a W' hR hold hnew => ?_
      have f2 : a.tmps.getD 2 undef = .pointer (some ⟨B, 0, none⟩) := hold 2 (by kernel_rfl)
      refine ⟨Facts.wanted_free rfl, ?_, fun _ => rfl⟩
      simp [go_sem, Act.eval, f2]
    · refine Facts.step_is (.float .f64 X) fun a W' hR hold hnew => ?_
      have f36 : a.tmps.getD 36 undef = .pointer (some ⟨B, 4, none⟩) := hnew 25 36 (by kernel_rfl)
      have q := (HC.out W' hR).1.2.2.2.2
      refine ⟨Facts.wanted_free rfl, ?_, fun _ => rfl⟩
      simp [go_sem, Act.eval, f36, q]
    · refine Facts.step_is (.pointer (some ⟨B, 3, none⟩)) fun a W' hR hold hnew => ?_
      have f2 : a.tmps.getD 2 undef = .pointer (some ⟨B, 0, none⟩) := hold 2 (by kernel_rfl)
      refine ⟨Facts.wanted_free rfl, ?_, fun _ => rfl⟩
      simp [go_sem, Act.eval, f2]
    · refine Facts.step_is (.int .u8 (A : Int)) fun a W' hR hold hnew => ?_
      have f38 : a.tmps.getD 38 undef = .pointer (some ⟨B, 3, none⟩) := hnew 27 38 (by kernel_rfl)
      have q := (HC.out W' hR).1.2.2.2.1
      refine ⟨Facts.wanted_free rfl, ?_, fun _ => rfl⟩
      simp [go_sem, Act.eval, f38, q]
    · refine Facts.step_is (.int .u8 ((A : Int) % 70)) fun a W' hR hold hnew => ?_
      have f39 : a.tmps.getD 39 undef = .int .u8 (A : Int) := hnew 28 39 (by kernel_rfl)
      refine ⟨Facts.wanted_free rfl, ?_, fun _ => rfl⟩
      simp [go_sem, Act.eval, f39, tN]
    · refine Facts.step_is (.int .i64 ((A : Int) % 70)) fun a W' hR hold hnew => ?_
      have f40 : a.tmps.getD 40 undef = .int .u8 ((A : Int) % 70) := hnew 29 40 (by kernel_rfl)
      have w41 : IntKind.i64.wrap ((A : Int) % 70) = (A : Int) % 70 := by rw [IntKind.wrap_i64]; omega
      refine ⟨Facts.wanted_free rfl, ?_, fun _ => rfl⟩
      simp [go_sem, Act.eval, f40, w41]
    · refine Facts.step_is (.agg #[.int .i64 (wn : Int), .int .u64 ((h0 : Int) + 1), .int .u64 ((tm : Int) + (T : Int) % 3), .int .u8 (1 + (K : Int) % 6), .string KB, .slice none 0 0, .float .f64 X, .int .i64 ((A : Int) % 70)]) fun a W' hR hold hnew => ?_
      have f11 : a.tmps.getD 11 undef = .int .i64 (wn : Int) := hnew 0 11 (by kernel_rfl)
      have f17 : a.tmps.getD 17 undef = .int .u64 ((h0 : Int) + 1) := hnew 6 17 (by kernel_rfl)
      have f25 : a.tmps.getD 25 undef = .int .u64 ((tm : Int) + (T : Int) % 3) := hnew 14 25 (by kernel_rfl)
      have f29 : a.tmps.getD 29 undef = .int .u8 (1 + (K : Int) % 6) := hnew 18 29 (by kernel_rfl)
      have f35 : a.tmps.getD 35 undef = .string KB := hnew 24 35 (by kernel_rfl)
      have f37 : a.tmps.getD 37 undef = .float .f64 X := hnew 26 37 (by kernel_rfl)
      have f41 : a.tmps.getD 41 undef = .int .i64 ((A : Int) % 70) := hnew 30 41 (by kernel_rfl)
      rw [Array.getD_eq_getD_getElem?] at f11 f17 f25 f29 f35 f37 f41
      refine ⟨Facts.wanted_free rfl, ?_, fun _ => rfl⟩
      simp [go_sem, Act.eval, f11, f17, f25, f29, f35, f37, f41]
    · refine Facts.step_new fun a W' hR hold hnew => ?_
      exact ⟨Facts.wanted_free rfl, _, _, by simp [go_sem, Act.eval], (Below.refl _ _).alloc (Nat.le_refl _) _, W'.heap.size, rfl, (by have := hR.size; exact this), heap_alloc_new W' _⟩
  · intro a w3 hR' hsize hdef hnew hold
    have f42 : a.tmps.getD 42 undef = .agg #[.int .i64 (wn : Int), .int .u64 ((h0 : Int) + 1), .int .u64 ((tm : Int) + (T : Int) % 3), .int .u8 (1 + (K : Int) % 6), .string KB, .slice none 0 0, .float .f64 X, .int .i64 ((A : Int) % 70)] := hnew 31 42 (by omega) (by kernel_rfl)
    have h6 : ∃ g, a.tmps.getD 6 undef = .pointer (some ⟨g, 0, none⟩) ∧ u.heap.size ≤ g ∧ w3.heap[g]? = some (.cells #[.int .i64 0, .int .u64 0, .int .u64 0, .int .u8 0, .string ⟨#[]⟩, .slice none 0 0, .float .f64 0, .int .i64 0] 38 (0, 0)) := hnew 32 6 (by omega) (by kernel_rfl)
    obtain ⟨g6, f6, hg6, hgh6⟩ := h6
    have f2 : a.tmps.getD 2 undef = Value.pointer (some ⟨B, 0, none⟩) := hold 2 (fun i _ => Facts.not_dst (by kernel_rfl) i)
    have f3 : a.tmps.getD 3 undef = Value.pointer (some ⟨B + 1, 0, none⟩) := hold 3 (fun i _ => Facts.not_dst (by kernel_rfl) i)
    have f4 : a.tmps.getD 4 undef = Value.pointer (some ⟨B + 1 + 1, 0, none⟩) := hold 4 (fun i _ => Facts.not_dst (by kernel_rfl) i)
    have f5 : a.tmps.getD 5 undef = Value.int .i64 (wn : Int) := hold 5 (fun i _ => Facts.not_dst (by kernel_rfl) i)
    obtain ⟨tm, df⟩ := a
    simp only [] at hdef hsize f2 f3 f4 f5 f42 f6
    have hlit : tm = #[tm.getD 0 undef, tm.getD 1 undef, tm.getD 2 undef, tm.getD 3 undef, tm.getD 4 undef, tm.getD 5 undef, tm.getD 6 undef, tm.getD 7 undef, tm.getD 8 undef, tm.getD 9 undef, tm.getD 10 undef, tm.getD 11 undef, tm.getD 12 undef, tm.getD 13 undef, tm.getD 14 undef, tm.getD 15 undef, tm.getD 16 undef, tm.getD 17 undef, tm.getD 18 undef, tm.getD 19 undef, tm.getD 20 undef, tm.getD 21 undef, tm.getD 22 undef, tm.getD 23 undef, tm.getD 24 undef, tm.getD 25 undef, tm.getD 26 undef, tm.getD 27 undef, tm.getD 28 undef, tm.getD 29 undef, tm.getD 30 undef, tm.getD 31 undef, tm.getD 32 undef, tm.getD 33 undef, tm.getD 34 undef, tm.getD 35 undef, tm.getD 36 undef, tm.getD 37 undef, tm.getD 38 undef, tm.getD 39 undef, tm.getD 40 undef, tm.getD 41 undef, tm.getD 42 undef, tm.getD 43 undef, tm.getD 44 undef, tm.getD 45 undef, tm.getD 46 undef, tm.getD 47 undef, tm.getD 48 undef, tm.getD 49 undef, tm.getD 50 undef, tm.getD 51 undef, tm.getD 52 undef, tm.getD 53 undef, tm.getD 54 undef, tm.getD 55 undef, tm.getD 56 undef, tm.getD 57 undef, tm.getD 58 undef, tm.getD 59 undef, tm.getD 60 undef] := (Facts.array_lit tm hsize).trans rfl
    rw [f2, f3, f4, f5, f42, f6] at hlit
    clear f2 f3 f4 f5 f42 f6 hsize hnew hold
    generalize tm.getD 0 undef = x0 at hlit
    generalize tm.getD 1 undef = x1 at hlit
    generalize tm.getD 7 undef = x7 at hlit
    generalize tm.getD 8 undef = x8 at hlit
    generalize tm.getD 9 undef = x9 at hlit
    generalize tm.getD 10 undef = x10 at hlit
    generalize tm.getD 11 undef = x11 at hlit
    generalize tm.getD 12 undef = x12 at hlit
    generalize tm.getD 13 undef = x13 at hlit
    generalize tm.getD 14 undef = x14 at hlit
    generalize tm.getD 15 undef = x15 at hlit
    generalize tm.getD 16 undef = x16 at hlit
    generalize tm.getD 17 undef = x17 at hlit
    generalize tm.getD 18 undef = x18 at hlit
    generalize tm.getD 19 undef = x19 at hlit
    generalize tm.getD 20 undef = x20 at hlit
    generalize tm.getD 21 undef = x21 at hlit
    generalize tm.getD 22 undef = x22 at hlit
    generalize tm.getD 23 undef = x23 at hlit
    generalize tm.getD 24 undef = x24 at hlit
    generalize tm.getD 25 undef = x25 at hlit
    generalize tm.getD 26 undef = x26 at hlit
    generalize tm.getD 27 undef = x27 at hlit
    generalize tm.getD 28 undef = x28 at hlit
    generalize tm.getD 29 undef = x29 at hlit
    generalize tm.getD 30 undef = x30 at hlit
    generalize tm.getD 31 undef = x31 at hlit
    generalize tm.getD 32 undef = x32 at hlit
    generalize tm.getD 33 undef = x33 at hlit
    generalize tm.getD 34 undef = x34 at hlit
    generalize tm.getD 35 undef = x35 at hlit
    generalize tm.getD 36 undef = x36 at hlit
    generalize tm.getD 37 undef = x37 at hlit
    generalize tm.getD 38 undef = x38 at hlit
    generalize tm.getD 39 undef = x39 at hlit
    generalize tm.getD 40 undef = x40 at hlit
    generalize tm.getD 41 undef = x41 at hlit
    generalize tm.getD 43 undef = x43 at hlit
    generalize tm.getD 44 undef = x44 at hlit
    generalize tm.getD 45 undef = x45 at hlit
    generalize tm.getD 46 undef = x46 at hlit
    generalize tm.getD 47 undef = x47 at hlit
    generalize tm.getD 48 undef = x48 at hlit
    generalize tm.getD 49 undef = x49 at hlit
    generalize tm.getD 50 undef = x50 at hlit
    generalize tm.getD 51 undef = x51 at hlit
    generalize tm.getD 52 undef = x52 at hlit
    generalize tm.getD 53 undef = x53 at hlit
    generalize tm.getD 54 undef = x54 at hlit
    generalize tm.getD 55 undef = x55 at hlit
    generalize tm.getD 56 undef = x56 at hlit
    generalize tm.getD 57 undef = x57 at hlit
    generalize tm.getD 58 undef = x58 at hlit
    generalize tm.getD 59 undef = x59 at hlit
    generalize tm.getD 60 undef = x60 at hlit
    subst hlit
    subst hdef
    try simp only []
    simp only [List.drop_succ_cons, List.drop_zero]
    have HB3 := Lib.hid (HC.out w3 hR').2.2.2
    have HG6 := Lib.hid (And.intro hg6 hgh6)
    clear hR' hg6 HC
    go_wp2_with (first | (refine wpList_putRow rfl 38 (.tmp 6) (.tmp 42) rfl g6 38 #[.int .i64 0, .int .u64 0, .int .u64 0, .int .u8 0, .string ⟨#[]⟩, .slice none 0 0, .float .f64 0, .int .i64 0] #[.int .i64 (wn : Int), .int .u64 ((h0 : Int) + 1), .int .u64 ((tm : Int) + (T : Int) % 3), .int .u8 (1 + (K : Int) % 6), .string KB, .slice none 0 0, .float .f64 X, .int .i64 ((A : Int) % 70)] rfl rfl hgh6 (by kernel_rfl) rfl (by simp [Value.oneCell']) ?_))
    intro w4 g4 hb4
    have hgz : g6 < w3.heap.size := (Array.getElem?_eq_some_iff.1 hgh6).1
    have hg6B : u.heap.size ≤ g6 := HG6.out.1
    have B4 : Below u.heap.size u w4 := Below.beside HB3.out hb4 HB3.out.size (fun x hx => by simp at hx; omega)
    obtain ⟨⟨p0, p1, p2, p3, p4⟩, -⟩ := CELLS.out w4 B4
    obtain ⟨e0, e1, e2, e3, e4, e5, e6, e7⟩ := box8 g4
    have f5 : w4.frozen? ⟨g6, 5, none⟩ = false := frozen_row0 g4
    have f1 : w4.frozen? ⟨g6, 1, none⟩ = false := frozen_row0 g4
    have G4 := Lib.hid g4
    have HB4 := Lib.hid B4
    have hBg : B + 3 ≤ g6 := by have := HUS.out; omega
    clear hb4 hgh6 g4 B4
    have hk1 : (K % 6 = 0 ∧ ((1 + (K : Int) % 6) == 1) = true) ∨ (¬ K % 6 = 0 ∧ ((1 + (K : Int) % 6) == 1) = false) := by
      by_cases h : K % 6 = 0
      · exact .inl ⟨h, by rw [beq_iff_eq]; omega⟩
      · exact .inr ⟨h, by rw [beq_eq_false_iff_ne]; omega⟩
    have ht1 : (240 ≤ T ∧ decide ((T : Int) ≥ 240) = true ∧ decide ((240 : Int) ≤ (T : Int)) = true) ∨ (¬ 240 ≤ T ∧ decide ((T : Int) ≥ 240) = false ∧ decide ((240 : Int) ≤ (T : Int)) = false) := by
      by_cases h : 240 ≤ T
      · exact .inl ⟨h, decide_eq_true (by omega), decide_eq_true (by omega)⟩
      · exact .inr ⟨h, decide_eq_false (by omega), decide_eq_false (by omega)⟩
    rcases hk1 with ⟨hk0, hk1⟩ | ⟨hk0, hk1⟩
    · have HK0 := Lib.hid hk0
      have hgl := (Array.getElem?_eq_some_iff.1 G4.out).1
      have e5a : ∀ o, (w4.alloc o).cell? ⟨g6, 5, none⟩ = some (.slice none 0 0) := fun o => (((Below.refl w4.heap.size w4).alloc (Nat.le_refl _) o).cell (p := ⟨g6, 5, none⟩) hgl).trans e5
      have f5a : ∀ o, (w4.alloc o).frozen? ⟨g6, 5, none⟩ = false := fun o => (((Below.refl w4.heap.size w4).alloc (Nat.le_refl _) o).frozen (p := ⟨g6, 5, none⟩) hgl).trans f5
      clear hk0 hgl
      go_upto_region 5 with fail
      have h5 : Below u.heap.size u ((w4.alloc (.cells #[.int .u8 (A : Int), .int .u8 (T : Int)] 5)).setCell ⟨g6, 5, none⟩ (.slice (some ⟨w4.heap.size, 0, none⟩) 2 2)) := Below.beside (HB4.out.alloc HB4.out.size _) ((Beside.refl [g6] _).setCell (by simp) _) (by have := HB4.out.size; simp; omega) (fun x hx => by simp at hx; omega)
      have g5 : ((w4.alloc (.cells #[.int .u8 (A : Int), .int .u8 (T : Int)] 5)).setCell ⟨g6, 5, none⟩ (.slice (some ⟨w4.heap.size, 0, none⟩) 2 2)).heap[g6]? = some (.cells #[.int .i64 (wn : Int), .int .u64 ((h0 : Int) + 1), .int .u64 ((tm : Int) + (T : Int) % 3), .int .u8 (1 + (K : Int) % 6), .string KB, .slice (some ⟨w4.heap.size, 0, none⟩) 2 2, .float .f64 X, .int .i64 ((A : Int) % 70)] 38 (0, 0)) := by
        have hlt := (Array.getElem?_eq_some_iff.1 G4.out).1
        rw [heapSame ((Below.heap_alloc _ _ _ hlt).trans G4.out)]; rfl
      have g8 : ((w4.alloc (.cells #[.int .u8 (A : Int), .int .u8 (T : Int)] 5)).setCell ⟨g6, 5, none⟩ (.slice (some ⟨w4.heap.size, 0, none⟩) 2 2)).heap[w4.heap.size]? = some (.cells #[.int .u8 (A : Int), .int .u8 (T : Int)] 5 (0, 0)) := by
        have hlt := (Array.getElem?_eq_some_iff.1 G4.out).1
        exact (heapOther (by omega)).trans (heap_alloc_new w4 _)
      obtain ⟨b8n, hb8n⟩ : ∃ b, b = w4.heap.size := ⟨_, rfl⟩
      have hb8B : B + 3 ≤ b8n := by have := HB4.out.size; have := HUS.out; omega
      have hb8g : b8n ≠ g6 := by have hlt := (Array.getElem?_eq_some_iff.1 G4.out).1; omega
      rw [← hb8n] at h5 g5 g8 ⊢
      generalize ((w4.alloc (.cells #[.int .u8 (A : Int), .int .u8 (T : Int)] 5)).setCell ⟨g6, 5, none⟩ (.slice (some ⟨b8n, 0, none⟩) 2 2)) = w5 at h5 g5 g8 ⊢
      clear hb8n p0 p1 p2 p3 p4 e0 e1 e2 e3 e4 e5 e6 e7 f5 f1 hk1 G4 e5a f5a
      have G5 := Lib.hid g5
      have G8 := Lib.hid g8
      have H5 := Lib.hid h5
      obtain ⟨⟨p0, p1, p2, p3, p4⟩, -⟩ := CELLS.out w5 h5
      obtain ⟨e0, e1, e2, e3, e4, e5, e6, e7⟩ := box8 g5
      have f1 : w5.frozen? ⟨g6, 1, none⟩ = false := frozen_row0 g5
      clear g8 h5
      rcases ht1 with ⟨ht0, ht1, ht2⟩ | ⟨ht0, ht1, ht2⟩
      · have w58 : IntKind.u64.wrap ((A : Int) % 5) = (A : Int) % 5 := by rw [IntKind.wrap_u64]; omega
        go_upto_region 7 with fail
        have g6x : (w5.setCell ⟨g6, 1, none⟩ (.int .u64 ((A : Int) % 5))).heap[g6]? = some (.cells #[.int .i64 (wn : Int), .int .u64 ((A : Int) % 5), .int .u64 ((tm : Int) + (T : Int) % 3), .int .u8 (1 + (K : Int) % 6), .string KB, .slice (some ⟨b8n, 0, none⟩) 2 2, .float .f64 X, .int .i64 ((A : Int) % 70)] 38 (0, 0)) := by rw [heapSame g5]; rfl
        have b6x : Beside [g6] w5 (w5.setCell ⟨g6, 1, none⟩ (.int .u64 ((A : Int) % 5))) := (Beside.refl [g6] _).setCell (by simp) _
        generalize w5.setCell ⟨g6, 1, none⟩ (.int .u64 ((A : Int) % 5)) = w6 at g6x b6x ⊢
        have h6 : Below u.heap.size u w6 := Below.beside H5.out b6x H5.out.size (fun x hx => by simp at hx; omega)
        have g26 := (CELLS.out w6 h6).2.2.2.2.2.1
        have g86 := (b6x.block b8n (Array.getElem?_eq_some_iff.1 G8.out).1 (fun hm => by rw [List.mem_singleton] at hm; omega)).trans G8.out
        have H6 := Lib.hid h6
        have HB6 := Lib.hid b6x
        have G86 := Lib.hid g86
        clear p0 p1 p2 p3 p4 e0 e1 e2 e3 e4 e5 e6 e7 f1 g5 h6 b6x g86
        go_wp2_with (first
          | (refine wpList_getRow rfl 38 (.tmp 6) rfl g6 38 #[.int .i64 (wn : Int), .int .u64 ((A : Int) % 5), .int .u64 ((tm : Int) + (T : Int) % 3), .int .u8 (1 + (K : Int) % 6), .string KB, .slice (some ⟨b8n, 0, none⟩) 2 2, .float .f64 X, .int .i64 ((A : Int) % 70)] (0, 0) _ rfl g6x Tryz.underlying38 rfl (by kernel_rfl) ?_)
          | (refine wpList_putRow rfl 38 (.tmp 4) (.tmp 60) rfl (B + 1 + 1) 38 #[.int .i64 0, .int .u64 0, .int .u64 0, .int .u8 0, .string ⟨#[]⟩, .slice none 0 0, .float .f64 0, .int .i64 0] #[.int .i64 (wn : Int), .int .u64 ((A : Int) % 5), .int .u64 ((tm : Int) + (T : Int) % 3), .int .u8 (1 + (K : Int) % 6), .string KB, .slice (some ⟨b8n, 0, none⟩) 2 2, .float .f64 X, .int .i64 ((A : Int) % 70)] rfl rfl g26 (by kernel_rfl) rfl (by simp [Value.oneCell']) ?_))
        intro w7 g7 hb7
        obtain ⟨t0, t1, t2, t3, t4, t5, t6, t7⟩ := box8 g7
        have b7 : Below u.heap.size u w7 ∨ True := .inr trivial
        have HB7 := Lib.hid hb7
        clear g7 hb7 g26 g6x b7
        go_wp2
        refine bodyPost_ret (v := .agg #[.int .i64 (wn : Int), .int .u64 ((A : Int) % 5), .int .u64 ((tm : Int) + (T : Int) % 3), .int .u8 (1 + (K : Int) % 6), .string KB, .slice (some ⟨b8n, 0, none⟩) 2 2, .float .f64 X, .int .i64 ((A : Int) % 70)]) (by simp [results, Tryz.results7, go_sem, t0, t1, t2, t3, t4, t5, t6, t7]) rfl ?_
        have he := HE.out
        rw [if_pos HK0.out, if_pos ht0] at he
        have hbel : Below w.heap.size w w7 := Below.beside ((CELLS.out w6 H6.out).2.2.2.2.2.2.1) HB7.out ((CELLS.out w6 H6.out).2.2.2.2.2.2.1).size (fun x hx => by have := HB.out; simp at hx; omega)
        have g87 := (HB7.out.block b8n (Array.getElem?_eq_some_iff.1 G86.out).1 (fun hm => by rw [List.mem_singleton] at hm; omega)).trans G86.out
        refine ⟨some ⟨b8n, 0, none⟩, 2, ?_, ⟨?_, fun _ => ⟨b8n, _, _, rfl, g87⟩⟩, hbel⟩
        · rw [he]
          refine congrArg Ending.returned ?_
          refine (congrArg Value.agg ?_).trans (ev_slice _ _ _ _ _ _ _ _ _ _ _).symm
          simp
          try omega
        · intro S0 hS0 hne
          refine ⟨b8n, 0, rfl, fun hm => by have := hS0 _ hm; have := HB.out; omega, fun j v hv => ?_⟩
          rw [cell_of_row w7 _ _ _ _ _ g87, Nat.zero_add]
          rw [he] at hv
          have c1 : ((UInt8.ofNat A).toNat : Int) = (A : Int) := by rw [UInt8.toNat_ofNat']; omega
          have c2 : ((UInt8.ofNat T).toNat : Int) = (T : Int) := by rw [UInt8.toNat_ofNat']; omega
          simp only [cs, List.map_cons, List.map_nil, c1, c2] at hv
          simpa using hv
      · go_upto_region 7 with fail
        have g6x := g5
        have b6x : Beside [g6] w5 w5 := Beside.refl _ _
        obtain ⟨w6, hw6⟩ : ∃ w6, w6 = w5 := ⟨_, rfl⟩
        rw [← hw6] at g6x ⊢
        rw (occs := .pos [2]) [← hw6] at b6x
        clear hw6
        have h6 : Below u.heap.size u w6 := Below.beside H5.out b6x H5.out.size (fun x hx => by simp at hx; omega)
        have g26 := (CELLS.out w6 h6).2.2.2.2.2.1
        have g86 := (b6x.block b8n (Array.getElem?_eq_some_iff.1 G8.out).1 (fun hm => by rw [List.mem_singleton] at hm; omega)).trans G8.out
        have H6 := Lib.hid h6
        have HB6 := Lib.hid b6x
        have G86 := Lib.hid g86
        clear p0 p1 p2 p3 p4 e0 e1 e2 e3 e4 e5 e6 e7 f1 g5 h6 b6x g86
        go_wp2_with (first
          | (refine wpList_getRow rfl 38 (.tmp 6) rfl g6 38 #[.int .i64 (wn : Int), .int .u64 ((h0 : Int) + 1), .int .u64 ((tm : Int) + (T : Int) % 3), .int .u8 (1 + (K : Int) % 6), .string KB, .slice (some ⟨b8n, 0, none⟩) 2 2, .float .f64 X, .int .i64 ((A : Int) % 70)] (0, 0) _ rfl g6x Tryz.underlying38 rfl (by kernel_rfl) ?_)
          | (refine wpList_putRow rfl 38 (.tmp 4) (.tmp 60) rfl (B + 1 + 1) 38 #[.int .i64 0, .int .u64 0, .int .u64 0, .int .u8 0, .string ⟨#[]⟩, .slice none 0 0, .float .f64 0, .int .i64 0] #[.int .i64 (wn : Int), .int .u64 ((h0 : Int) + 1), .int .u64 ((tm : Int) + (T : Int) % 3), .int .u8 (1 + (K : Int) % 6), .string KB, .slice (some ⟨b8n, 0, none⟩) 2 2, .float .f64 X, .int .i64 ((A : Int) % 70)] rfl rfl g26 (by kernel_rfl) rfl (by simp [Value.oneCell']) ?_))
        intro w7 g7 hb7
        obtain ⟨t0, t1, t2, t3, t4, t5, t6, t7⟩ := box8 g7
        have b7 : Below u.heap.size u w7 ∨ True := .inr trivial
        have HB7 := Lib.hid hb7
        clear g7 hb7 g26 g6x b7
        go_wp2
        refine bodyPost_ret (v := .agg #[.int .i64 (wn : Int), .int .u64 ((h0 : Int) + 1), .int .u64 ((tm : Int) + (T : Int) % 3), .int .u8 (1 + (K : Int) % 6), .string KB, .slice (some ⟨b8n, 0, none⟩) 2 2, .float .f64 X, .int .i64 ((A : Int) % 70)]) (by simp [results, Tryz.results7, go_sem, t0, t1, t2, t3, t4, t5, t6, t7]) rfl ?_
        have he := HE.out
        rw [if_pos HK0.out, if_neg ht0] at he
        have hbel : Below w.heap.size w w7 := Below.beside ((CELLS.out w6 H6.out).2.2.2.2.2.2.1) HB7.out ((CELLS.out w6 H6.out).2.2.2.2.2.2.1).size (fun x hx => by have := HB.out; simp at hx; omega)
        have g87 := (HB7.out.block b8n (Array.getElem?_eq_some_iff.1 G86.out).1 (fun hm => by rw [List.mem_singleton] at hm; omega)).trans G86.out
        refine ⟨some ⟨b8n, 0, none⟩, 2, ?_, ⟨?_, fun _ => ⟨b8n, _, _, rfl, g87⟩⟩, hbel⟩
        · rw [he]
          refine congrArg Ending.returned ?_
          refine (congrArg Value.agg ?_).trans (ev_slice _ _ _ _ _ _ _ _ _ _ _).symm
          simp
          try omega
        · intro S0 hS0 hne
          refine ⟨b8n, 0, rfl, fun hm => by have := hS0 _ hm; have := HB.out; omega, fun j v hv => ?_⟩
          rw [cell_of_row w7 _ _ _ _ _ g87, Nat.zero_add]
          rw [he] at hv
          have c1 : ((UInt8.ofNat A).toNat : Int) = (A : Int) := by rw [UInt8.toNat_ofNat']; omega
          have c2 : ((UInt8.ofNat T).toNat : Int) = (T : Int) := by rw [UInt8.toNat_ofNat']; omega
          simp only [cs, List.map_cons, List.map_nil, c1, c2] at hv
          simpa using hv
    · have HK0 := Lib.hid hk0
      clear hk0
      go_upto_region 5 with fail
      have g5 := G4.out
      have G5 := Lib.hid G4.out
      have H5 := Lib.hid HB4.out
      obtain ⟨w5, hw5⟩ : ∃ w5, w5 = w4 := ⟨_, rfl⟩
      rw [← hw5] at g5 G5 H5 p0 p1 p2 p3 p4 e0 e1 e2 e3 e4 e5 e6 e7 f1 ⊢
      clear hw5 f5 G4 HB4
      rcases ht1 with ⟨ht0, ht1, ht2⟩ | ⟨ht0, ht1, ht2⟩
      · have w58 : IntKind.u64.wrap ((A : Int) % 5) = (A : Int) % 5 := by rw [IntKind.wrap_u64]; omega
        go_upto_region 7 with fail
        have g6x : (w5.setCell ⟨g6, 1, none⟩ (.int .u64 ((A : Int) % 5))).heap[g6]? = some (.cells #[.int .i64 (wn : Int), .int .u64 ((A : Int) % 5), .int .u64 ((tm : Int) + (T : Int) % 3), .int .u8 (1 + (K : Int) % 6), .string KB, .slice none 0 0, .float .f64 X, .int .i64 ((A : Int) % 70)] 38 (0, 0)) := by rw [heapSame g5]; rfl
        have b6x : Beside [g6] w5 (w5.setCell ⟨g6, 1, none⟩ (.int .u64 ((A : Int) % 5))) := (Beside.refl [g6] _).setCell (by simp) _
        generalize w5.setCell ⟨g6, 1, none⟩ (.int .u64 ((A : Int) % 5)) = w6 at g6x b6x ⊢
        have h6 : Below u.heap.size u w6 := Below.beside H5.out b6x H5.out.size (fun x hx => by simp at hx; omega)
        have g26 := (CELLS.out w6 h6).2.2.2.2.2.1
        have H6 := Lib.hid h6
        have HB6 := Lib.hid b6x
        clear p0 p1 p2 p3 p4 e0 e1 e2 e3 e4 e5 e6 e7 f1 g5 h6 b6x
        go_wp2_with (first
          | (refine wpList_getRow rfl 38 (.tmp 6) rfl g6 38 #[.int .i64 (wn : Int), .int .u64 ((A : Int) % 5), .int .u64 ((tm : Int) + (T : Int) % 3), .int .u8 (1 + (K : Int) % 6), .string KB, .slice none 0 0, .float .f64 X, .int .i64 ((A : Int) % 70)] (0, 0) _ rfl g6x Tryz.underlying38 rfl (by kernel_rfl) ?_)
          | (refine wpList_putRow rfl 38 (.tmp 4) (.tmp 60) rfl (B + 1 + 1) 38 #[.int .i64 0, .int .u64 0, .int .u64 0, .int .u8 0, .string ⟨#[]⟩, .slice none 0 0, .float .f64 0, .int .i64 0] #[.int .i64 (wn : Int), .int .u64 ((A : Int) % 5), .int .u64 ((tm : Int) + (T : Int) % 3), .int .u8 (1 + (K : Int) % 6), .string KB, .slice none 0 0, .float .f64 X, .int .i64 ((A : Int) % 70)] rfl rfl g26 (by kernel_rfl) rfl (by simp [Value.oneCell']) ?_))
        intro w7 g7 hb7
        obtain ⟨t0, t1, t2, t3, t4, t5, t6, t7⟩ := box8 g7
        have b7 : Below u.heap.size u w7 ∨ True := .inr trivial
        have HB7 := Lib.hid hb7
        clear g7 hb7 g26 g6x b7
        go_wp2
        refine bodyPost_ret (v := .agg #[.int .i64 (wn : Int), .int .u64 ((A : Int) % 5), .int .u64 ((tm : Int) + (T : Int) % 3), .int .u8 (1 + (K : Int) % 6), .string KB, .slice none 0 0, .float .f64 X, .int .i64 ((A : Int) % 70)]) (by simp [results, Tryz.results7, go_sem, t0, t1, t2, t3, t4, t5, t6, t7]) rfl ?_
        have he := HE.out
        rw [if_neg HK0.out, if_pos ht0] at he
        have hbel : Below w.heap.size w w7 := Below.beside ((CELLS.out w6 H6.out).2.2.2.2.2.2.1) HB7.out ((CELLS.out w6 H6.out).2.2.2.2.2.2.1).size (fun x hx => by have := HB.out; simp at hx; omega)
        refine ⟨none, 0, ?_, ⟨?_, fun h => absurd h (by rw [he]; exact Nat.lt_irrefl 0)⟩, hbel⟩
        · rw [he]
          refine congrArg Ending.returned ?_
          refine (congrArg Value.agg ?_).trans (ev_slice _ _ _ _ _ _ _ _ _ _ _).symm
          simp
          try omega
        · intro S0 hS0
          rw [he]
          exact SeesV.nil
      · go_upto_region 7 with fail
        have g6x := g5
        have b6x : Beside [g6] w5 w5 := Beside.refl _ _
        obtain ⟨w6, hw6⟩ : ∃ w6, w6 = w5 := ⟨_, rfl⟩
        rw [← hw6] at g6x ⊢
        rw (occs := .pos [2]) [← hw6] at b6x
        clear hw6
        have h6 : Below u.heap.size u w6 := Below.beside H5.out b6x H5.out.size (fun x hx => by simp at hx; omega)
        have g26 := (CELLS.out w6 h6).2.2.2.2.2.1
        have H6 := Lib.hid h6
        have HB6 := Lib.hid b6x
        clear p0 p1 p2 p3 p4 e0 e1 e2 e3 e4 e5 e6 e7 f1 g5 h6 b6x
        go_wp2_with (first
          | (refine wpList_getRow rfl 38 (.tmp 6) rfl g6 38 #[.int .i64 (wn : Int), .int .u64 ((h0 : Int) + 1), .int .u64 ((tm : Int) + (T : Int) % 3), .int .u8 (1 + (K : Int) % 6), .string KB, .slice none 0 0, .float .f64 X, .int .i64 ((A : Int) % 70)] (0, 0) _ rfl g6x Tryz.underlying38 rfl (by kernel_rfl) ?_)
          | (refine wpList_putRow rfl 38 (.tmp 4) (.tmp 60) rfl (B + 1 + 1) 38 #[.int .i64 0, .int .u64 0, .int .u64 0, .int .u8 0, .string ⟨#[]⟩, .slice none 0 0, .float .f64 0, .int .i64 0] #[.int .i64 (wn : Int), .int .u64 ((h0 : Int) + 1), .int .u64 ((tm : Int) + (T : Int) % 3), .int .u8 (1 + (K : Int) % 6), .string KB, .slice none 0 0, .float .f64 X, .int .i64 ((A : Int) % 70)] rfl rfl g26 (by kernel_rfl) rfl (by simp [Value.oneCell']) ?_))
        intro w7 g7 hb7
        obtain ⟨t0, t1, t2, t3, t4, t5, t6, t7⟩ := box8 g7
        have b7 : Below u.heap.size u w7 ∨ True := .inr trivial
        have HB7 := Lib.hid hb7
        clear g7 hb7 g26 g6x b7
        go_wp2
        refine bodyPost_ret (v := .agg #[.int .i64 (wn : Int), .int .u64 ((h0 : Int) + 1), .int .u64 ((tm : Int) + (T : Int) % 3), .int .u8 (1 + (K : Int) % 6), .string KB, .slice none 0 0, .float .f64 X, .int .i64 ((A : Int) % 70)]) (by simp [results, Tryz.results7, go_sem, t0, t1, t2, t3, t4, t5, t6, t7]) rfl ?_
        have he := HE.out
        rw [if_neg HK0.out, if_neg ht0] at he
        have hbel : Below w.heap.size w w7 := Below.beside ((CELLS.out w6 H6.out).2.2.2.2.2.2.1) HB7.out ((CELLS.out w6 H6.out).2.2.2.2.2.2.1).size (fun x hx => by have := HB.out; simp at hx; omega)
        refine ⟨none, 0, ?_, ⟨?_, fun h => absurd h (by rw [he]; exact Nat.lt_irrefl 0)⟩, hbel⟩
        · rw [he]
          refine congrArg Ending.returned ?_
          refine (congrArg Value.agg ?_).trans (ev_slice _ _ _ _ _ _ _ _ _ _ _).symm
          simp
          try omega
        · intro S0 hS0
          rw [he]
          exact SeesV.nil
end
end Go.Proofs.YtjceeojbnpcpfaaGreat.Fol
