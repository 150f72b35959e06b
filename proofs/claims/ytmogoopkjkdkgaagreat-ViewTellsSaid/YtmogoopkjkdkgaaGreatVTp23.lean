/- Layer 15: the law's told, over what a view is known to tell. -/
import Derived.Test.YtmogoopkjkdkgaaGreatVTp22
namespace Go.Proofs.YtmogoopkjkdkgaaGreat.Vw
open Go Go.RowKit Go.Proofs.YtmogoopkjkdkgaaGreat.Words Go.Proofs.YtmogoopkjkdkgaaGreat.Enc Go.Proofs.YtmogoopkjkdkgaaGreat.Q Go.Proofs.YtmogoopkjkdkgaaGreat.Evt Go.Proofs.YtmogoopkjkdkgaaGreat.Seg Go.Proofs.YtmogoopkjkdkgaaGreat.Fol
set_option linter.unusedVariables false
set_option linter.unusedSimpArgs false

theorem lk_getC {L : List (Key × Cel)} (hr : Rise L) : ∀ {j : Nat} {p : Key × Cel}, L[j]? = some p → lk p.1 L = some p.2 := by
  induction L with
  | nil => intro j p h; simp at h
  | cons q r ih =>
    intro j p h
    rw [lk_cons]
    cases j with
    | zero => simp at h; subst h; rw [if_pos rfl]
    | succ j =>
      have hp : r[j]? = some p := by simpa using h
      have hlt := (List.pairwise_cons.1 hr).1 p (List.mem_of_getElem? hp)
      rw [if_neg (key_ne hlt)]
      exact ih (List.pairwise_cons.1 hr).2 hp

theorem sees_ofV {w : World} {S : List Nat} {A : Option Addr} {l : List UInt8} (h : SeesV w S A (cs l)) : Sees w A l.length l :=
  ⟨rfl, fun hn => by
    obtain ⟨b, o, hA, _, hc⟩ := h (fun e => by rw [← cs_length, e] at hn; simp at hn)
    exact ⟨b, o, hA, fun j u hu => hc j _ (cs_get hu)⟩⟩
/-- An ending that hands out these bytes. -/
def GivesB (w : World) (l : List UInt8) (e : Ending) (w' : World) : Prop := ∃ A c, e = .returned (.slice A l.length c) ∧ Sees w' A l.length l ∧ Below w.heap.size w w'
/-- What the program's Encode and the document's are known to do (FolZ2, FolX), and the document's SameV (FolP). -/
def EncSaid (F : Fo) (fl : List UInt8) : Prop := ∀ (S : List Nat) (d mb : Nat) (w : World), FoldAt w S d mb F → Calls Tryz.prog 12 #[.pointer (some ⟨d, 0, none⟩)] w (GivesB w fl)
def RefEncSaid (F : Fo) (fl : List UInt8) : Prop := ∀ (S : List Nat) (La : Option Addr) (lc : Nat) (L : List (Key × RC)) (h : RH) (w : World), RefAt w S La lc L h F → Calls Tryz.prog 23 #[.agg (rv La L.length lc h)] w (GivesB w fl)
def SameVSaid : Prop := ∀ (A B : Option Addr) (n c m d : Nat) (a b : List Nat) (w : World), Vec.SeesU w A n a → Vec.SeesU w B m b → n ≤ 900000 → m ≤ 900000 → (∀ i, Vec.at_ a i = Vec.at_ b i) → Calls Tryz.prog 24 #[.slice A n c, .slice B m d] w fun e w' => e = .returned (.bool true) ∧ w' = w
/-- What a view of these events tells, of which so many are folded; F: what they come to. -/
structure Tells (w : World) (vb : Nat) (R : List EvS) (n : Nat) (F : Fo) : Prop where
  len : ∀ W, Below w.heap.size w W → Calls Tryz.prog 16 #[.pointer (some ⟨vb, 0, none⟩)] W fun e w' => e = .returned (.int .i64 ((R.length - n : Nat) : Int)) ∧ Below W.heap.size W w'
  mark : ∀ W, Below w.heap.size w W → Calls Tryz.prog 13 #[.pointer (some ⟨vb, 0, none⟩)] W fun e w' => e = .returned (.int .u64 (F.mark : Int)) ∧ Below W.heap.size W w'
  fold : ∀ W, Below w.heap.size w W → Calls Tryz.prog 14 #[.pointer (some ⟨vb, 0, none⟩)] W fun e w' => ∃ d mb, e = .returned (.pointer (some ⟨d, 0, none⟩)) ∧ FoldAt w' [d, mb] d mb F ∧ Below W.heap.size W w'
  has : ∀ W, Below w.heap.size w W → Calls Tryz.prog 25 #[.pointer (some ⟨vb, 0, none⟩)] W fun e w' => ∃ A k c l, e = .returned (.slice A k c) ∧ Vec.SeesU w' A k l ∧ k ≤ 64 ∧ (∀ i, Vec.at_ l i = Vec.at_ F.H i) ∧ Below W.heap.size W w'
  keys : ∀ W, Below w.heap.size w W → Calls Tryz.prog 26 #[.pointer (some ⟨vb, 0, none⟩)] W fun e w' => ∃ A c, e = .returned (.slice A F.L.length c) ∧ SeesV w' [] A ((F.L.map (·.1)).map encStr) ∧ Below W.heap.size W w'
  cell : ∀ W, Below w.heap.size w W → ∀ (k : ByteArray) (c : Cel), k.size ≤ 100000 → lk k.data.toList F.L = some c → Calls Tryz.prog 27 #[.pointer (some ⟨vb, 0, none⟩), .string k] W fun e w' => ∃ A n cap, e = .returned (.tuple #[.agg #[.int .u8 (c.kind : Int), .slice A n cap, .float .f64 c.num], .bool true]) ∧ Sees w' A n c.text ∧ Below W.heap.size W w'
  at_ : ∀ W, Below w.heap.size w W → ∀ (i : Nat) (r : EvS), R[n + i]? = some r → Calls Tryz.prog 28 #[.pointer (some ⟨vb, 0, none⟩), .int .i64 (i : Int)] W fun e w' => ∃ A m c, e = .returned (.tuple #[r.e.val A m c, .bool true]) ∧ Sees w' A m r.e.text ∧ Below W.heap.size W w'
  no : ∀ W, Below w.heap.size w W → ∀ i : Int, (i = -1 ∨ i = ((R.length - n : Nat) : Int)) → Calls Tryz.prog 28 #[.pointer (some ⟨vb, 0, none⟩), .int .i64 i] W fun e w' => e = .returned (.tuple #[.agg #[.int .i64 0, .int .u64 0, .int .u64 0, .int .u8 0, .string ⟨#[]⟩, .slice none 0 0, .float .f64 0, .int .i64 0], .bool false]) ∧ Below W.heap.size W w'

def PFoldV (F : Fo) : Facts.Pred := ⟨fun v w => ∃ d mb, v = .pointer (some ⟨d, 0, none⟩) ∧ FoldAt w [d, mb] d mb F, fun v w w' ⟨d, mb, h, hf⟩ hb => ⟨d, mb, h, hf.below hb⟩⟩
def PHaveV (l : List Nat) : Facts.Pred := ⟨fun v w => ∃ A k c l', v = .slice A k c ∧ Vec.SeesU w A k l' ∧ k ≤ 64 ∧ ∀ i, Vec.at_ l' i = Vec.at_ l i, fun v w w' ⟨A, k, c, l', h, hs, hk, ha⟩ hb => ⟨A, k, c, l', h, hs.below hb, hk, ha⟩⟩
def PRowE (l : List UInt8) : Facts.Pred := ⟨fun v w => ∃ A c, v = .slice A l.length c ∧ Sees w A l.length l, fun v w w' ⟨A, c, h, hs⟩ hb => ⟨A, c, h, hs.below hb⟩⟩
def PLen (m : Nat) : Facts.Pred := ⟨fun v _ => ∃ A c, v = .slice A m c, fun _ _ _ h _ => h⟩
def PCellS (key : ByteArray) : Facts.Pred := ⟨fun v w => ∃ g x, v = .pointer (some ⟨g, x, none⟩) ∧ w.cell? ⟨g, x, none⟩ = some (.string key), fun v w w' ⟨g, x, h, hc⟩ hb => ⟨g, x, h, (hb.cell (p := ⟨g, _, none⟩) (World.block_lt_of_cell? _ _ hc)).trans hc⟩⟩
def PKeyAt (m j : Nat) (key : ByteArray) : Facts.Pred := ⟨fun v w => ∃ g o c, v = .slice (some ⟨g, o, none⟩) m c ∧ w.cell? ⟨g, o + j, none⟩ = some (.string key), fun v w w' ⟨g, o, c, h, hc⟩ hb => ⟨g, o, c, h, (hb.cell (p := ⟨g, _, none⟩) (World.block_lt_of_cell? _ _ hc)).trans hc⟩⟩

set_option maxRecDepth 100000 in
set_option maxHeartbeats 8000000 in
theorem told_any (AS : ApplySaid) {fl : List UInt8} {vb : Nat} {A : Option Addr} {c : Nat} {R : List EvS} {n : Nat} {w : World} (ES : EncSaid (applyAll (newF 3) (R.map EvS.e)) fl) (RS : RefEncSaid (applyAll (newF 3) (R.map EvS.e)) fl) (SS : SameVSaid)
    (h : EvSees w A R) (hR : R.length ≤ 1000) (hx : ∀ r ∈ R, SeesV w [] r.A (cs r.e.text)) (hrt : ∀ r ∈ R, Right r.e) (hn : n ≤ R.length) (TL : Tells w vb R n (applyAll (newF 3) (R.map EvS.e))) :
    Calls Tryz.prog 10 #[.pointer (some ⟨vb, 0, none⟩), .slice A R.length c, .int .i64 (n : Int)] w fun e w' => e = .returned (.bool true) ∧ Below w.heap.size w w' := by
  have hsf := store_float Tryz.prog
  have hq : ∀ e ∈ R.map EvS.e, e.num < 18446744073709551616 := fun e he => by obtain ⟨r, hr, rfl⟩ := List.mem_map.1 he; exact (h.fit r hr).1.q
  have OF := Lib.hid (refOf_any AS A c R w h hR hx)
  have ok := ok_all hq (ok_new 3)
  have hFl : (applyAll (newF 3) (R.map EvS.e)).L.length ≤ 1000 := by
    have h1 := all_len hq (ok_new 3)
    rw [List.length_map] at h1
    have h2 : (newF 3).L.length = 0 := rfl
    omega
  obtain ⟨F, hF⟩ : ∃ F, F = applyAll (newF 3) (R.map EvS.e) := ⟨_, rfl⟩
  rw [← hF] at OF ok hFl ES RS TL
  obtain ⟨N, hN⟩ : ∃ N, N = R.length := ⟨_, rfl⟩
  obtain ⟨m, hm⟩ : ∃ m, m = R.length - n := ⟨_, rfl⟩
  have hnm : (N : Int) - (n : Int) = (m : Int) := by omega
  have hN2 : (N : Int) ≤ 1000 := by omega
  have hn2 : (n : Int) ≤ N := by omega
  have hm2 : (m : Int) ≤ 1000 := by omega
  have hwm : IntKind.i64.wrap (m : Int) = (m : Int) := by rw [IntKind.wrap_i64]; omega
  rw [← hN] at OF ⊢
  have HE := Lib.hid h
  have HX := Lib.hid hx
  have HRT := Lib.hid hrt
  have HTL := Lib.hid TL
  have HES := Lib.hid ES
  have HRS := Lib.hid RS
  have HSS := Lib.hid SS
  have HOK := Lib.hid ok
  have HFL := Lib.hid hFl
  have HNN := Lib.hid (And.intro hN (And.intro hm hn))
  clear h hx hrt TL ES RS SS ok hFl hN hm hn hF AS hR hq
  go_enter Tryz.func10, Tryz.ntmps10
  go_wp2_with fail
  refine OF.out.mono ?_
  rintro e w1 ⟨La, lc, L, h, rfl, hr1, hb1⟩
  have hLl : L.length = F.L.length := by rw [← hr1.cells, mapV_len]
  obtain ⟨Ja, Jc, Ra, Rc, Ha, Hc, T, W0, M⟩ := h
  have hM : M = F.mark := hr1.M
  obtain ⟨n', hnl⟩ : ∃ n', n' = L.length := ⟨_, rfl⟩
  have HR1 := Lib.hid hr1
  have HB1 := Lib.hid hb1
  unfold rv
  rw [← hnl]
  have HN := Lib.hid (And.intro hnl (And.intro hLl hM))
  clear hr1 hb1 OF hnl hLl hM
  go_wp2_with fail
  obtain ⟨B, hB⟩ : ∃ g, g = w1.heap.size := ⟨_, rfl⟩
  obtain ⟨u, hu⟩ : ∃ u, u = w1.alloc (.cells #[.slice La n' lc, .slice Ja 64 Jc, .slice Ra 64 Rc, .slice Ha 64 Hc, .int .u64 (T : Int), .int .i64 (W0 : Int), .int .u64 (M : Int)] 60) := ⟨_, rfl⟩
  rw [← hu, ← hB]
  have hb12 : Below w1.heap.size w1 u := by rw [hu]; exact (Below.refl _ _).alloc (Nat.le_refl _) _
  have g2 : u.heap[B]? = some (.cells #[.slice La n' lc, .slice Ja 64 Jc, .slice Ra 64 Rc, .slice Ha 64 Hc, .int .u64 (T : Int), .int .i64 (W0 : Int), .int .u64 (M : Int)] 60 (0, 0)) := by rw [hu, hB]; exact heap_alloc_new w1 _
  have hBu : B < u.heap.size := (Array.getElem?_eq_some_iff.1 g2).1
  have BU := Lib.hid (HB1.out.trans (hb12.mono HB1.out.size))
  have HR := Lib.hid (HR1.out.below hb12)
  have TOW := Lib.hid (fun (W : World) (hW' : Below u.heap.size u W) => (BU.out.trans (hW'.mono BU.out.size) : Below w.heap.size w W))
  have CELLS := Lib.hid (fun (W : World) (hW' : Below u.heap.size u W) => (rv_cells (h := ⟨Ja, Jc, Ra, Rc, Ha, Hc, T, W0, M⟩) ((hW'.block B hBu).trans g2) : (W.cell? ⟨B, 0, none⟩ = some (.slice La n' lc) ∧ W.cell? ⟨B, 1, none⟩ = some (.slice Ja 64 Jc) ∧ W.cell? ⟨B, 2, none⟩ = some (.slice Ra 64 Rc) ∧ W.cell? ⟨B, 3, none⟩ = some (.slice Ha 64 Hc) ∧ W.cell? ⟨B, 4, none⟩ = some (.int .u64 (T : Int)) ∧ W.cell? ⟨B, 5, none⟩ = some (.int .i64 (W0 : Int)) ∧ W.cell? ⟨B, 6, none⟩ = some (.int .u64 (M : Int)))))
  have LEN := Lib.hid (fun (W : World) (hW' : Below u.heap.size u W) => (by
    have := HTL.out.len W (TOW.out W hW')
    rw [← HNN.out.2.1] at this
    exact this : Calls Tryz.prog 16 #[.pointer (some ⟨vb, 0, none⟩)] W fun e w' => e = .returned (.int .i64 (m : Int)) ∧ Below W.heap.size W w'))
  have MK := Lib.hid (fun (W : World) (hW' : Below u.heap.size u W) => (by
    have := HTL.out.mark W (TOW.out W hW')
    rw [← HN.out.2.2] at this
    exact this : Calls Tryz.prog 13 #[.pointer (some ⟨vb, 0, none⟩)] W fun e w' => e = .returned (.int .u64 (M : Int)) ∧ Below W.heap.size W w'))
  have FO := Lib.hid (fun (W : World) (hW' : Below u.heap.size u W) => HTL.out.fold W (TOW.out W hW'))
  have HV := Lib.hid (fun (W : World) (hW' : Below u.heap.size u W) => HTL.out.has W (TOW.out W hW'))
  have SV := Lib.hid (fun (W : World) (hW' : Below u.heap.size u W) (A : Option Addr) (k c : Nat) (l : List Nat) (hs : Vec.SeesU W A k l) (hk : k ≤ 64) (ha : ∀ i, Vec.at_ l i = Vec.at_ F.H i) => (by
    have sH : SeesV W [] Ha (Vec.us F.H) := (HR.out.below hW').H
    have sU : Vec.SeesU W Ha 64 F.H := ⟨HOK.out.h, fun hne => by
      obtain ⟨b, o, hA, _, hc⟩ := sH (by intro e; have := congrArg List.length e; rw [Vec.us_length, HOK.out.h] at this; simp at this)
      exact ⟨b, o, hA, fun j x hj => hc j _ (by unfold Vec.us; rw [List.getElem?_map, hj]; rfl)⟩⟩
    exact HSS.out A Ha k c 64 Hc _ _ W hs sU (by omega) (by omega) ha : Calls Tryz.prog 24 #[.slice A k c, .slice Ha 64 Hc] W fun e w' => e = .returned (.bool true) ∧ w' = W))
  have RE := Lib.hid (fun (W : World) (hW' : Below u.heap.size u W) => (by
    have := HRS.out [] La lc L ⟨Ja, Jc, Ra, Rc, Ha, Hc, T, W0, M⟩ W (HR.out.below hW')
    unfold rv at this
    rw [← HN.out.1] at this
    exact this : Calls Tryz.prog 23 #[.agg #[.slice La n' lc, .slice Ja 64 Jc, .slice Ra 64 Rc, .slice Ha 64 Hc, .int .u64 (T : Int), .int .i64 (W0 : Int), .int .u64 (M : Int)]] W (GivesB W fl)))
  have KS := Lib.hid (fun (W : World) (hW' : Below u.heap.size u W) => (by
    have := HTL.out.keys W (TOW.out W hW')
    rw [← HN.out.2.1, ← HN.out.1] at this
    exact this : Calls Tryz.prog 26 #[.pointer (some ⟨vb, 0, none⟩)] W fun e w' => ∃ A c, e = .returned (.slice A n' c) ∧ SeesV w' [] A ((F.L.map (·.1)).map encStr) ∧ Below W.heap.size W w'))
  obtain ⟨FS, hFS⟩ : ∃ FS : ByteArray, FS = ⟨fl.toArray⟩ := ⟨_, rfl⟩
  have STR := Lib.hid (fun (W : World) (A : Option Addr) (c : Nat) (hs : Sees W A fl.length fl) => (by rw [hFS]; exact hs.string c Tryz.underlying29 Tryz.underlying5 Tryz.underlying9 : (convert 29 9 (.slice A fl.length c)).run Tryz.prog W = .ok (.string FS) W))
  clear hFS g2 hb12 hu hB
  have HC := Lib.hid (fun (W : World) (hW' : Below u.drew.heap.size u.drew W) => (by
    have h := (Below.refl u.heap.size u).drew.trans hW'
    exact ⟨CELLS.out W h, h⟩ : (W.cell? ⟨B, 0, none⟩ = some (.slice La n' lc) ∧ W.cell? ⟨B, 1, none⟩ = some (.slice Ja 64 Jc) ∧ W.cell? ⟨B, 2, none⟩ = some (.slice Ra 64 Rc) ∧ W.cell? ⟨B, 3, none⟩ = some (.slice Ha 64 Hc) ∧ W.cell? ⟨B, 4, none⟩ = some (.int .u64 (T : Int)) ∧ W.cell? ⟨B, 5, none⟩ = some (.int .i64 (W0 : Int)) ∧ W.cell? ⟨B, 6, none⟩ = some (.int .u64 (M : Int))) ∧ Below u.heap.size u W))
  refine Facts.wp_region_preds (n := 169) (by kernel_rfl) (by kernel_rfl) rfl [Facts.Pred.is (.pointer (some ⟨vb, 0, none⟩)), Facts.Pred.is (.bool false), Facts.Pred.is (.bool false), Facts.Pred.is (.pointer (some ⟨vb, 0, none⟩)), Facts.Pred.is (.int .i64 (m : Int)), Facts.Pred.is (.slice A N c), Facts.Pred.is (.int .i64 (N : Int)), Facts.Pred.is (.int .i64 (n : Int)), Facts.Pred.is (.int .i64 (m : Int)), Facts.Pred.is (.bool false), Facts.Pred.is (.bool false), Facts.Pred.is (.bool false), Facts.Pred.is (.pointer (some ⟨vb, 0, none⟩)), Facts.Pred.is (.int .u64 (M : Int)), Facts.Pred.is (.pointer (some ⟨B, 6, none⟩)), Facts.Pred.is (.int .u64 (M : Int)), Facts.Pred.is (.bool false), Facts.Pred.is (.bool false), Facts.Pred.is (.bool false), Facts.Pred.is (.pointer (some ⟨vb, 0, none⟩)), PFoldV F, PRowE (fl), Facts.Pred.is (.string FS), Facts.Pred.is (.agg #[.slice La n' lc, .slice Ja 64 Jc, .slice Ra 64 Rc, .slice Ha 64 Hc, .int .u64 (T : Int), .int .i64 (W0 : Int), .int .u64 (M : Int)]), PRowE (fl), Facts.Pred.is (.string FS), Facts.Pred.is (.bool false), Facts.Pred.is (.bool false), Facts.Pred.is (.bool false), Facts.Pred.is (.pointer (some ⟨vb, 0, none⟩)), PHaveV F.H, Facts.Pred.is (.pointer (some ⟨B, 3, none⟩)), Facts.Pred.is (.slice Ha 64 Hc), Facts.Pred.is (.bool true), Facts.Pred.is (.bool false), Facts.Pred.is (.bool false), Facts.Pred.is (.bool false), Facts.Pred.is (.pointer (some ⟨vb, 0, none⟩)), PLen n', Facts.Pred.is (.int .i64 (n' : Int)), Facts.Pred.is (.pointer (some ⟨B, 0, none⟩)), Facts.Pred.is (.slice La n' lc), Facts.Pred.is (.int .i64 (n' : Int)), Facts.Pred.is (.bool false), Facts.Pred.is (.bool false)] ?_ ?_
  · refine ⟨?_, ?_, ?_, ?_, ?_, ?_, ?_, ?_, ?_, ?_, ?_, ?_, ?_, ?_, ?_, ?_, ?_, ?_, ?_, ?_, ?_, ?_, ?_, ?_, ?_, ?_, ?_, ?_, ?_, ?_, ?_, ?_, ?_, ?_, ?_, ?_, ?_, ?_, ?_, ?_, ?_, ?_, ?_, ?_, ?_, trivial⟩
    · refine Facts.step_is (.pointer (some ⟨vb, 0, none⟩)) fun a W hR hold hnew => ?_
      have f0 : a.tmps.getD 0 undef = .pointer (some ⟨vb, 0, none⟩) := hold 0 (by kernel_rfl)
      refine ⟨Facts.wanted_free rfl, ?_, fun _ => rfl⟩; simp [go_sem, Act.eval, f0]
    · refine Facts.step_is (.bool false) fun a W hR hold hnew => ?_
      have f20 : a.tmps.getD 20 undef = .pointer (some ⟨vb, 0, none⟩) := hnew 0 20 (by kernel_rfl)
      refine ⟨Facts.wanted_free rfl, ?_, fun _ => rfl⟩; simp [go_sem, Act.eval, f20]
    · refine Facts.step_is (.bool false) fun a W hR hold hnew => ?_
      have f21 : a.tmps.getD 21 undef = .bool false := hnew 1 21 (by kernel_rfl)
      refine ⟨Facts.wanted_free rfl, ?_, fun _ => rfl⟩; simp [go_sem, Act.eval, f21]
    · refine Facts.step_is (.pointer (some ⟨vb, 0, none⟩)) fun a W hR hold hnew => ?_
      have f0 : a.tmps.getD 0 undef = .pointer (some ⟨vb, 0, none⟩) := hold 0 (by kernel_rfl)
      have g22 : a.tmps.getD 22 undef = .bool false := hnew 2 22 (by kernel_rfl)
      refine ⟨Facts.wanted_by rfl (by kernel_rfl) g22, ?_, fun _ => rfl⟩
      simp [go_sem, Act.eval, f0]
    · refine Facts.step_call fun a W hR hold hnew => ?_
      have f23 : a.tmps.getD 23 undef = .pointer (some ⟨vb, 0, none⟩) := hnew 3 23 (by kernel_rfl)
      have g22 : a.tmps.getD 22 undef = .bool false := hnew 2 22 (by kernel_rfl)
      refine ⟨Facts.wanted_by rfl (by kernel_rfl) g22, 16, #[.pointer (some ⟨vb, 0, none⟩)], by simp [go_sem, Act.eval, f23], ?_⟩
      refine (LEN.out W (HC.out W hR).2).mono ?_
      rintro e w8 ⟨rfl, hb8⟩
      exact ⟨_, rfl, hb8, rfl⟩
    · refine Facts.step_is (.slice A N c) fun a W hR hold hnew => ?_
      have f1 : a.tmps.getD 1 undef = .slice A N c := hold 1 (by kernel_rfl)
      have g22 : a.tmps.getD 22 undef = .bool false := hnew 2 22 (by kernel_rfl)
      refine ⟨Facts.wanted_by rfl (by kernel_rfl) g22, ?_, fun _ => rfl⟩
      simp [go_sem, Act.eval, f1]
    · refine Facts.step_is (.int .i64 (N : Int)) fun a W hR hold hnew => ?_
      have f25 : a.tmps.getD 25 undef = .slice A N c := hnew 5 25 (by kernel_rfl)
      have g22 : a.tmps.getD 22 undef = .bool false := hnew 2 22 (by kernel_rfl)
      refine ⟨Facts.wanted_by rfl (by kernel_rfl) g22, ?_, fun _ => rfl⟩
      simp [go_sem, Act.eval, f25]
    · refine Facts.step_is (.int .i64 (n : Int)) fun a W hR hold hnew => ?_
      have f2 : a.tmps.getD 2 undef = .int .i64 (n : Int) := hold 2 (by kernel_rfl)
      have g22 : a.tmps.getD 22 undef = .bool false := hnew 2 22 (by kernel_rfl)
      refine ⟨Facts.wanted_by rfl (by kernel_rfl) g22, ?_, fun _ => rfl⟩
      simp [go_sem, Act.eval, f2]
    · refine Facts.step_is (.int .i64 (m : Int)) fun a W hR hold hnew => ?_
      have f26 : a.tmps.getD 26 undef = .int .i64 (N : Int) := hnew 6 26 (by kernel_rfl)
      have f27 : a.tmps.getD 27 undef = .int .i64 (n : Int) := hnew 7 27 (by kernel_rfl)
      have g22 : a.tmps.getD 22 undef = .bool false := hnew 2 22 (by kernel_rfl)
      refine ⟨Facts.wanted_by rfl (by kernel_rfl) g22, ?_, fun _ => rfl⟩
      simp [go_sem, Act.eval, f26, f27, hnm, hwm]
    · refine Facts.step_is (.bool false) fun a W hR hold hnew => ?_
      have f24 : a.tmps.getD 24 undef = .int .i64 (m : Int) := hnew 4 24 (by kernel_rfl)
      have f28 : a.tmps.getD 28 undef = .int .i64 (m : Int) := hnew 8 28 (by kernel_rfl)
      have g22 : a.tmps.getD 22 undef = .bool false := hnew 2 22 (by kernel_rfl)
      refine ⟨Facts.wanted_by rfl (by kernel_rfl) g22, ?_, fun _ => rfl⟩
      simp [go_sem, Act.eval, f24, f28]
    · refine Facts.step_is (.bool false) fun a W hR hold hnew => ?_
      have f22 : a.tmps.getD 22 undef = .bool false := hnew 2 22 (by kernel_rfl)
      have f29 : a.tmps.getD 29 undef = .bool false := hnew 9 29 (by kernel_rfl)
      refine ⟨Facts.wanted_free rfl, ?_, fun _ => rfl⟩; simp [go_sem, Act.eval, f22, f29]
    · refine Facts.step_is (.bool false) fun a W hR hold hnew => ?_
      have f30 : a.tmps.getD 30 undef = .bool false := hnew 10 30 (by kernel_rfl)
      refine ⟨Facts.wanted_free rfl, ?_, fun _ => rfl⟩; simp [go_sem, Act.eval, f30]
    · refine Facts.step_is (.pointer (some ⟨vb, 0, none⟩)) fun a W hR hold hnew => ?_
      have f0 : a.tmps.getD 0 undef = .pointer (some ⟨vb, 0, none⟩) := hold 0 (by kernel_rfl)
      have g31 : a.tmps.getD 31 undef = .bool false := hnew 11 31 (by kernel_rfl)
      refine ⟨Facts.wanted_by rfl (by kernel_rfl) g31, ?_, fun _ => rfl⟩
      simp [go_sem, Act.eval, f0]
    · refine Facts.step_call fun a W hR hold hnew => ?_
      have f32 : a.tmps.getD 32 undef = .pointer (some ⟨vb, 0, none⟩) := hnew 12 32 (by kernel_rfl)
      have g31 : a.tmps.getD 31 undef = .bool false := hnew 11 31 (by kernel_rfl)
      refine ⟨Facts.wanted_by rfl (by kernel_rfl) g31, 13, #[.pointer (some ⟨vb, 0, none⟩)], by simp [go_sem, Act.eval, f32], ?_⟩
      refine (MK.out W (HC.out W hR).2).mono ?_
      rintro e w8 ⟨rfl, hb8⟩
      exact ⟨_, rfl, hb8, rfl⟩
    · refine Facts.step_is (.pointer (some ⟨B, 6, none⟩)) fun a W hR hold hnew => ?_
      have f7 : a.tmps.getD 7 undef = .pointer (some ⟨B, 0, none⟩) := hold 7 (by kernel_rfl)
      have g31 : a.tmps.getD 31 undef = .bool false := hnew 11 31 (by kernel_rfl)
      refine ⟨Facts.wanted_by rfl (by kernel_rfl) g31, ?_, fun _ => rfl⟩
      simp [go_sem, Act.eval, f7]
    · refine Facts.step_is (.int .u64 (M : Int)) fun a W hR hold hnew => ?_
      have f34 : a.tmps.getD 34 undef = .pointer (some ⟨B, 6, none⟩) := hnew 14 34 (by kernel_rfl)
      have g31 : a.tmps.getD 31 undef = .bool false := hnew 11 31 (by kernel_rfl)
      have q := (HC.out W hR).1.2.2.2.2.2.2
      refine ⟨Facts.wanted_by rfl (by kernel_rfl) g31, ?_, fun _ => rfl⟩
      simp [go_sem, Act.eval, f34, q]
    · refine Facts.step_is (.bool false) fun a W hR hold hnew => ?_
      have f33 : a.tmps.getD 33 undef = .int .u64 (M : Int) := hnew 13 33 (by kernel_rfl)
      have f35 : a.tmps.getD 35 undef = .int .u64 (M : Int) := hnew 15 35 (by kernel_rfl)
      have g31 : a.tmps.getD 31 undef = .bool false := hnew 11 31 (by kernel_rfl)
      refine ⟨Facts.wanted_by rfl (by kernel_rfl) g31, ?_, fun _ => rfl⟩
      simp [go_sem, Act.eval, f33, f35]
    · refine Facts.step_is (.bool false) fun a W hR hold hnew => ?_
      have f31 : a.tmps.getD 31 undef = .bool false := hnew 11 31 (by kernel_rfl)
      have f36 : a.tmps.getD 36 undef = .bool false := hnew 16 36 (by kernel_rfl)
      refine ⟨Facts.wanted_free rfl, ?_, fun _ => rfl⟩; simp [go_sem, Act.eval, f31, f36]
    · refine Facts.step_is (.bool false) fun a W hR hold hnew => ?_
      have f37 : a.tmps.getD 37 undef = .bool false := hnew 17 37 (by kernel_rfl)
      refine ⟨Facts.wanted_free rfl, ?_, fun _ => rfl⟩; simp [go_sem, Act.eval, f37]
    · refine Facts.step_is (.pointer (some ⟨vb, 0, none⟩)) fun a W hR hold hnew => ?_
      have f0 : a.tmps.getD 0 undef = .pointer (some ⟨vb, 0, none⟩) := hold 0 (by kernel_rfl)
      have g38 : a.tmps.getD 38 undef = .bool false := hnew 18 38 (by kernel_rfl)
      refine ⟨Facts.wanted_by rfl (by kernel_rfl) g38, ?_, fun _ => rfl⟩
      simp [go_sem, Act.eval, f0]
    · refine Facts.step_call fun a W hR hold hnew => ?_
      have f39 : a.tmps.getD 39 undef = .pointer (some ⟨vb, 0, none⟩) := hnew 19 39 (by kernel_rfl)
      have g38 : a.tmps.getD 38 undef = .bool false := hnew 18 38 (by kernel_rfl)
      refine ⟨Facts.wanted_by rfl (by kernel_rfl) g38, 14, #[.pointer (some ⟨vb, 0, none⟩)], by simp [go_sem, Act.eval, f39], ?_⟩
      refine (FO.out W (HC.out W hR).2).mono ?_
      rintro e w8 ⟨d8, mb8, rfl, fo8, hb8⟩
      exact ⟨_, rfl, hb8, d8, mb8, rfl, fo8⟩
    · refine Facts.step_call fun a W hR hold hnew => ?_
      have h40 : ∃ d mb, a.tmps.getD 40 undef = .pointer (some ⟨d, 0, none⟩) ∧ FoldAt W [d, mb] d mb F := hnew 20 40 (by kernel_rfl)
      obtain ⟨d40, mb40, f40, fo40⟩ := h40
      have g38 : a.tmps.getD 38 undef = .bool false := hnew 18 38 (by kernel_rfl)
      refine ⟨Facts.wanted_by rfl (by kernel_rfl) g38, 12, #[.pointer (some ⟨d40, 0, none⟩)], by simp [go_sem, Act.eval, f40], ?_⟩
      refine (HES.out _ d40 mb40 W fo40).mono ?_
      rintro e w8 h8
      obtain ⟨A8, c8, rfl, own8, hb8⟩ := h8
      exact ⟨_, rfl, hb8, A8, c8, rfl, own8⟩
    · refine Facts.step_is (.string FS) fun a W hR hold hnew => ?_
      have h41 : ∃ A' c', a.tmps.getD 41 undef = .slice A' (fl).length c' ∧ Sees W A' (fl).length (fl) := hnew 21 41 (by kernel_rfl)
      obtain ⟨A41, c41, f41, s41⟩ := h41
      have g38 : a.tmps.getD 38 undef = .bool false := hnew 18 38 (by kernel_rfl)
      have q := STR.out W A41 c41 s41
      refine ⟨Facts.wanted_by rfl (by kernel_rfl) g38, ?_, fun _ => rfl⟩
      simp [go_sem, Act.eval, f41, q]
    · refine Facts.step_is (.agg #[.slice La n' lc, .slice Ja 64 Jc, .slice Ra 64 Rc, .slice Ha 64 Hc, .int .u64 (T : Int), .int .i64 (W0 : Int), .int .u64 (M : Int)]) fun a W hR hold hnew => ?_
      have f7 : a.tmps.getD 7 undef = .pointer (some ⟨B, 0, none⟩) := hold 7 (by kernel_rfl)
      have g38 : a.tmps.getD 38 undef = .bool false := hnew 18 38 (by kernel_rfl)
      obtain ⟨⟨q0, q1, q2, q3, q4, q5, q6⟩, -⟩ := HC.out W hR
      refine ⟨Facts.wanted_by rfl (by kernel_rfl) g38, ?_, fun _ => rfl⟩
      simp [go_sem, Act.eval, f7, q0, q1, q2, q3, q4, q5, q6]
    · refine Facts.step_call fun a W hR hold hnew => ?_
      have f43 : a.tmps.getD 43 undef = .agg #[.slice La n' lc, .slice Ja 64 Jc, .slice Ra 64 Rc, .slice Ha 64 Hc, .int .u64 (T : Int), .int .i64 (W0 : Int), .int .u64 (M : Int)] := hnew 23 43 (by kernel_rfl)
      have g38 : a.tmps.getD 38 undef = .bool false := hnew 18 38 (by kernel_rfl)
      refine ⟨Facts.wanted_by rfl (by kernel_rfl) g38, 23, #[.agg #[.slice La n' lc, .slice Ja 64 Jc, .slice Ra 64 Rc, .slice Ha 64 Hc, .int .u64 (T : Int), .int .i64 (W0 : Int), .int .u64 (M : Int)]], by simp [go_sem, Act.eval, f43], ?_⟩
      refine (RE.out W (HC.out W hR).2).mono ?_
      rintro e w8 h8
      obtain ⟨A8, c8, rfl, own8, hb8⟩ := h8
      exact ⟨_, rfl, hb8, A8, c8, rfl, own8⟩
    · refine Facts.step_is (.string FS) fun a W hR hold hnew => ?_
      have h44 : ∃ A' c', a.tmps.getD 44 undef = .slice A' (fl).length c' ∧ Sees W A' (fl).length (fl) := hnew 24 44 (by kernel_rfl)
      obtain ⟨A44, c44, f44, s44⟩ := h44
      have g38 : a.tmps.getD 38 undef = .bool false := hnew 18 38 (by kernel_rfl)
      have q := STR.out W A44 c44 s44
      refine ⟨Facts.wanted_by rfl (by kernel_rfl) g38, ?_, fun _ => rfl⟩
      simp [go_sem, Act.eval, f44, q]
    · refine Facts.step_is (.bool false) fun a W hR hold hnew => ?_
      have f42 : a.tmps.getD 42 undef = .string FS := hnew 22 42 (by kernel_rfl)
      have f45 : a.tmps.getD 45 undef = .string FS := hnew 25 45 (by kernel_rfl)
      have g38 : a.tmps.getD 38 undef = .bool false := hnew 18 38 (by kernel_rfl)
      refine ⟨Facts.wanted_by rfl (by kernel_rfl) g38, ?_, fun _ => rfl⟩
      simp [go_sem, Act.eval, f42, f45]
    · refine Facts.step_is (.bool false) fun a W hR hold hnew => ?_
      have f38 : a.tmps.getD 38 undef = .bool false := hnew 18 38 (by kernel_rfl)
      have f46 : a.tmps.getD 46 undef = .bool false := hnew 26 46 (by kernel_rfl)
      refine ⟨Facts.wanted_free rfl, ?_, fun _ => rfl⟩; simp [go_sem, Act.eval, f38, f46]
    · refine Facts.step_is (.bool false) fun a W hR hold hnew => ?_
      have f47 : a.tmps.getD 47 undef = .bool false := hnew 27 47 (by kernel_rfl)
      refine ⟨Facts.wanted_free rfl, ?_, fun _ => rfl⟩; simp [go_sem, Act.eval, f47]
    · refine Facts.step_is (.pointer (some ⟨vb, 0, none⟩)) fun a W hR hold hnew => ?_
      have f0 : a.tmps.getD 0 undef = .pointer (some ⟨vb, 0, none⟩) := hold 0 (by kernel_rfl)
      have g48 : a.tmps.getD 48 undef = .bool false := hnew 28 48 (by kernel_rfl)
      refine ⟨Facts.wanted_by rfl (by kernel_rfl) g48, ?_, fun _ => rfl⟩
      simp [go_sem, Act.eval, f0]
    · refine Facts.step_call fun a W hR hold hnew => ?_
      have f49 : a.tmps.getD 49 undef = .pointer (some ⟨vb, 0, none⟩) := hnew 29 49 (by kernel_rfl)
      have g48 : a.tmps.getD 48 undef = .bool false := hnew 28 48 (by kernel_rfl)
      refine ⟨Facts.wanted_by rfl (by kernel_rfl) g48, 25, #[.pointer (some ⟨vb, 0, none⟩)], by simp [go_sem, Act.eval, f49], ?_⟩
      refine (HV.out W (HC.out W hR).2).mono ?_
      rintro e w8 ⟨A8, k8, c8, l8, rfl, s8, z8, y8, hb8⟩
      exact ⟨_, rfl, hb8, A8, k8, c8, l8, rfl, s8, z8, y8⟩
    · refine Facts.step_is (.pointer (some ⟨B, 3, none⟩)) fun a W hR hold hnew => ?_
      have f7 : a.tmps.getD 7 undef = .pointer (some ⟨B, 0, none⟩) := hold 7 (by kernel_rfl)
      have g48 : a.tmps.getD 48 undef = .bool false := hnew 28 48 (by kernel_rfl)
      refine ⟨Facts.wanted_by rfl (by kernel_rfl) g48, ?_, fun _ => rfl⟩
      simp [go_sem, Act.eval, f7]
    · refine Facts.step_is (.slice Ha 64 Hc) fun a W hR hold hnew => ?_
      have f51 : a.tmps.getD 51 undef = .pointer (some ⟨B, 3, none⟩) := hnew 31 51 (by kernel_rfl)
      have g48 : a.tmps.getD 48 undef = .bool false := hnew 28 48 (by kernel_rfl)
      have q := (HC.out W hR).1.2.2.2.1
      refine ⟨Facts.wanted_by rfl (by kernel_rfl) g48, ?_, fun _ => rfl⟩
      simp [go_sem, Act.eval, f51, q]
    · refine Facts.step_call fun a W hR hold hnew => ?_
      have h50 : ∃ A k c l', a.tmps.getD 50 undef = .slice A k c ∧ Vec.SeesU W A k l' ∧ k ≤ 64 ∧ ∀ i, Vec.at_ l' i = Vec.at_ F.H i := hnew 30 50 (by kernel_rfl)
      obtain ⟨A50, k50, c50, l50, f50, s50, z50, y50⟩ := h50
      have f52 : a.tmps.getD 52 undef = .slice Ha 64 Hc := hnew 32 52 (by kernel_rfl)
      have g48 : a.tmps.getD 48 undef = .bool false := hnew 28 48 (by kernel_rfl)
      refine ⟨Facts.wanted_by rfl (by kernel_rfl) g48, 24, #[.slice A50 k50 c50, .slice Ha 64 Hc], by simp [go_sem, Act.eval, f50, f52], ?_⟩
      refine (SV.out W (HC.out W hR).2 A50 k50 c50 l50 s50 z50 y50).mono ?_
      rintro e w8 ⟨rfl, rfl⟩
      exact ⟨_, rfl, Below.refl _ _, rfl⟩
    · refine Facts.step_is (.bool false) fun a W hR hold hnew => ?_
      have f53 : a.tmps.getD 53 undef = .bool true := hnew 33 53 (by kernel_rfl)
      have g48 : a.tmps.getD 48 undef = .bool false := hnew 28 48 (by kernel_rfl)
      refine ⟨Facts.wanted_by rfl (by kernel_rfl) g48, ?_, fun _ => rfl⟩
      simp [go_sem, Act.eval, f53]
    · refine Facts.step_is (.bool false) fun a W hR hold hnew => ?_
      have f48 : a.tmps.getD 48 undef = .bool false := hnew 28 48 (by kernel_rfl)
      have f54 : a.tmps.getD 54 undef = .bool false := hnew 34 54 (by kernel_rfl)
      refine ⟨Facts.wanted_free rfl, ?_, fun _ => rfl⟩; simp [go_sem, Act.eval, f48, f54]
    · refine Facts.step_is (.bool false) fun a W hR hold hnew => ?_
      have f55 : a.tmps.getD 55 undef = .bool false := hnew 35 55 (by kernel_rfl)
      refine ⟨Facts.wanted_free rfl, ?_, fun _ => rfl⟩; simp [go_sem, Act.eval, f55]
    · refine Facts.step_is (.pointer (some ⟨vb, 0, none⟩)) fun a W hR hold hnew => ?_
      have f0 : a.tmps.getD 0 undef = .pointer (some ⟨vb, 0, none⟩) := hold 0 (by kernel_rfl)
      have g56 : a.tmps.getD 56 undef = .bool false := hnew 36 56 (by kernel_rfl)
      refine ⟨Facts.wanted_by rfl (by kernel_rfl) g56, ?_, fun _ => rfl⟩
      simp [go_sem, Act.eval, f0]
    · refine Facts.step_call fun a W hR hold hnew => ?_
      have f57 : a.tmps.getD 57 undef = .pointer (some ⟨vb, 0, none⟩) := hnew 37 57 (by kernel_rfl)
      have g56 : a.tmps.getD 56 undef = .bool false := hnew 36 56 (by kernel_rfl)
      refine ⟨Facts.wanted_by rfl (by kernel_rfl) g56, 26, #[.pointer (some ⟨vb, 0, none⟩)], by simp [go_sem, Act.eval, f57], ?_⟩
      refine (KS.out W (HC.out W hR).2).mono ?_
      rintro e w8 ⟨A8, c8, rfl, s8, hb8⟩
      exact ⟨_, rfl, hb8, A8, c8, rfl⟩
    · refine Facts.step_is (.int .i64 (n' : Int)) fun a W hR hold hnew => ?_
      have h58 : ∃ A c, a.tmps.getD 58 undef = .slice A n' c := hnew 38 58 (by kernel_rfl)
      obtain ⟨A58, c58, f58⟩ := h58
      have g56 : a.tmps.getD 56 undef = .bool false := hnew 36 56 (by kernel_rfl)
      refine ⟨Facts.wanted_by rfl (by kernel_rfl) g56, ?_, fun _ => rfl⟩
      simp [go_sem, Act.eval, f58]
    · refine Facts.step_is (.pointer (some ⟨B, 0, none⟩)) fun a W hR hold hnew => ?_
      have f7 : a.tmps.getD 7 undef = .pointer (some ⟨B, 0, none⟩) := hold 7 (by kernel_rfl)
      have g56 : a.tmps.getD 56 undef = .bool false := hnew 36 56 (by kernel_rfl)
      refine ⟨Facts.wanted_by rfl (by kernel_rfl) g56, ?_, fun _ => rfl⟩
      simp [go_sem, Act.eval, f7]
    · refine Facts.step_is (.slice La n' lc) fun a W hR hold hnew => ?_
      have f60 : a.tmps.getD 60 undef = .pointer (some ⟨B, 0, none⟩) := hnew 40 60 (by kernel_rfl)
      have g56 : a.tmps.getD 56 undef = .bool false := hnew 36 56 (by kernel_rfl)
      have q := (HC.out W hR).1.1
      refine ⟨Facts.wanted_by rfl (by kernel_rfl) g56, ?_, fun _ => rfl⟩
      simp [go_sem, Act.eval, f60, q]
    · refine Facts.step_is (.int .i64 (n' : Int)) fun a W hR hold hnew => ?_
      have f61 : a.tmps.getD 61 undef = .slice La n' lc := hnew 41 61 (by kernel_rfl)
      have g56 : a.tmps.getD 56 undef = .bool false := hnew 36 56 (by kernel_rfl)
      refine ⟨Facts.wanted_by rfl (by kernel_rfl) g56, ?_, fun _ => rfl⟩
      simp [go_sem, Act.eval, f61]
    · refine Facts.step_is (.bool false) fun a W hR hold hnew => ?_
      have f59 : a.tmps.getD 59 undef = .int .i64 (n' : Int) := hnew 39 59 (by kernel_rfl)
      have f62 : a.tmps.getD 62 undef = .int .i64 (n' : Int) := hnew 42 62 (by kernel_rfl)
      have g56 : a.tmps.getD 56 undef = .bool false := hnew 36 56 (by kernel_rfl)
      refine ⟨Facts.wanted_by rfl (by kernel_rfl) g56, ?_, fun _ => rfl⟩
      simp [go_sem, Act.eval, f59, f62]
    · refine Facts.step_is (.bool false) fun a W hR hold hnew => ?_
      have f56 : a.tmps.getD 56 undef = .bool false := hnew 36 56 (by kernel_rfl)
      have f63 : a.tmps.getD 63 undef = .bool false := hnew 43 63 (by kernel_rfl)
      refine ⟨Facts.wanted_free rfl, ?_, fun _ => rfl⟩; simp [go_sem, Act.eval, f56, f63]
  · intro a w2 hR' hsize hdef hnew hold
    have f64 : a.tmps.getD 64 undef = .bool false := hnew 44 64 (by kernel_rfl)
    have f0 : a.tmps.getD 0 undef = Value.pointer (some ⟨vb, 0, none⟩) := hold 0 (Facts.not_dst (by kernel_rfl))
    have f1 : a.tmps.getD 1 undef = Value.slice A N c := hold 1 (Facts.not_dst (by kernel_rfl))
    have f2 : a.tmps.getD 2 undef = Value.int .i64 (n : Int) := hold 2 (Facts.not_dst (by kernel_rfl))
    have f6 : a.tmps.getD 6 undef = Value.bool false := hold 6 (Facts.not_dst (by kernel_rfl))
    have f7 : a.tmps.getD 7 undef = Value.pointer (some ⟨B, 0, none⟩) := hold 7 (Facts.not_dst (by kernel_rfl))
    obtain ⟨tm, df⟩ := a
    simp only [] at hdef hsize f0 f1 f2 f6 f7 f64
    obtain ⟨xq, hxq, hlit⟩ := Facts.lits tm hsize Facts.idx169 Facts.idx169_eq
    rw [hxq] at f0 f1 f2 f6 f7 f64
    simp only [Facts.idx169, List.map_cons, List.map_nil, f0, f1, f2, f6, f7, f64] at hlit
    clear f0 f1 f2 f6 f7 f64 hsize hnew hold hxq
    subst hlit
    subst hdef
    try simp only []
    have B2 := Lib.hid (HC.out w2 hR').2
    clear hR' HC
    go_wp2_with fail
    go_loopw [8, 9, 10] (fun y z t wr => ∃ j : Nat, y = .int .i64 (j : Int) ∧ j ≤ n' ∧ Hid (Below u.heap.size u wr)) (fun y _ _ _ => n' - (intOf y).toNat)
    case atStart => exact ⟨0, rfl, Nat.zero_le _, B2⟩
    case round =>
      obtain ⟨j, rfl, hj, HBw⟩ := hrel
      by_cases hlt : j < n'
      · have hd : decide ((j : Int) < (n' : Int)) = true := decide_eq_true (by omega)
        have hij : (j : Int) < (n' : Int) := by omega
        have hjb : (j : Int) ≤ 1000 := by have h1 := HN.out; have h2 := HFL.out; omega
        obtain ⟨p, hp⟩ : ∃ p, L[j]? = some p := ⟨_, List.getElem?_eq_getElem (by rw [← HN.out.1]; exact hlt)⟩
        have hpF : F.L[j]? = some (p.1, p.2.cel) := by rw [← HR.out.cells, mapV_get, hp]; rfl
        have htx := HR.out.texts p (List.mem_of_getElem? hp)
        have hk64 := (HOK.out.cel _ (List.mem_of_getElem? hpF)).1
        simp only at hk64
        obtain ⟨lb, lo, hLa, -⟩ := HR.out.rows.get (rowsR_get hp (k := 0) (v := keyV p.1) (by omega) rfl)
        have LCEL := Lib.hid (fun (W : World) (hW : Below u.heap.size u W) (k : Nat) (v : Value) (hk : k < 4) (hv : (rcCells p)[k]? = some v) => (by
          obtain ⟨b, o, h1, h2⟩ := (HR.out.below hW).rows.get (rowsR_get hp (k := k) (v := v) hk hv)
          rw [hLa] at h1
          cases h1
          rw [Nat.add_assoc]
          exact h2 : W.cell? ⟨lb, lo + j * 4 + k, none⟩ = some v))
        obtain ⟨ky, K, A3, tc, tx, nm⟩ := p
        have hk64 : ky.length ≤ 64 := hk64
        obtain ⟨key, hkey⟩ : ∃ key : ByteArray, key = ⟨ky.toArray⟩ := ⟨_, rfl⟩
        have hks : key.size ≤ 100000 := by rw [hkey]; show ky.toArray.size ≤ _; simp; omega
        have hlk : lk key.data.toList F.L = some ⟨K, tx, qb nm⟩ := by rw [hkey]; exact lk_getC HOK.out.rise hpF
        have HKJ : Hid (((F.L.map (·.1)).map encStr)[j]? = some (.string key)) := Lib.hid (by rw [List.getElem?_map, List.getElem?_map, hpF, hkey]; rfl)
        have CE := Lib.hid (HTL.out.cell wr (TOW.out wr HBw.out) key _ hks hlk)
        obtain ⟨Q, hQ⟩ : ∃ Q, Q = qb nm := ⟨_, rfl⟩
        simp only [← hQ] at CE
        have c0 := (CELLS.out wr HBw.out).1
        rw [hLa] at c0
        have l0 : wr.cell? ⟨lb, lo + j * 4, none⟩ = some (.string key) := by
          have l0 := LCEL.out wr HBw.out 0 (keyV ky) (by omega) rfl
          unfold keyV at l0
          rw [← hkey] at l0
          exact l0
        have HKY := Lib.hid hkey
        have HTX := Lib.hid htx
        have HLA := Lib.hid hLa
        clear hks hlk hQ hkey htx hpF hp hk64 hLa
        go_wp2_with fail
        refine CE.out.mono ?_
        rintro e w3 ⟨A9, n9, c9, rfl, hs3, hb3⟩
        have B3 := Lib.hid (HBw.out.trans (hb3.mono HBw.out.size))
        have S3 := Lib.hid hs3
        clear hb3 hs3 CE c0 l0
        go_wp2_with (first | (refine wpList_putRow rfl 69 (.tmp 9) (.tmp 81) rfl w3.heap.size 69 #[.int .u8 0, .slice none 0 0, .float .f64 0] #[.int .u8 (K : Int), .slice A9 n9 c9, .float .f64 Q] rfl rfl ?g0 (by kernel_rfl) rfl (by simp [Value.oneCell']) ?_))
        case g0 => exact heap_alloc_new w3 _
        intro w4 g4 hb4
        have hb34 : Below w3.heap.size w3 w4 := Below.beside ((Below.refl w3.heap.size w3).alloc (Nat.le_refl _) _) hb4 (by simp) (fun x hx => by simp at hx; omega)
        obtain ⟨b9, hb9⟩ : ∃ b, b = w3.heap.size := ⟨_, rfl⟩
        rw [← hb9] at g4 ⊢
        have h47 : b9 < w4.heap.size := (Array.getElem?_eq_some_iff.1 g4).1
        have B4 := Lib.hid (B3.out.trans (hb34.mono B3.out.size))
        have S4 := Lib.hid (S3.out.below hb34)
        have G4 := Lib.hid g4
        obtain ⟨TS, hTS⟩ : ∃ TS : ByteArray, TS = ⟨tx.toArray⟩ := ⟨_, rfl⟩
        have STX := Lib.hid (fun (W : World) (A : Option Addr) (n c : Nat) (hs : Sees W A n tx) => (by rw [hTS]; exact hs.string c Tryz.underlying29 Tryz.underlying5 Tryz.underlying9 : (convert 29 9 (.slice A n c)).run Tryz.prog W = .ok (.string TS) W))
        clear hTS hb9 hb4 hb34 g4
        go_wp2_with fail
        have HC := Lib.hid (fun (W : World) (hW' : Below w4.drew.heap.size w4.drew W) => (by
          have h4 := (Below.refl w4.heap.size w4).drew.trans hW'
          have h := B4.out.trans (h4.mono B4.out.size)
          have g7 := (h4.block b9 h47).trans G4.out
          have l0 := LCEL.out W h 0 (keyV ky) (by omega) rfl
          have l1 := LCEL.out W h 1 (.int .u8 (K : Int)) (by omega) rfl
          have l2 := LCEL.out W h 2 (.slice A3 tx.length tc) (by omega) rfl
          unfold keyV at l0
          rw [← HKY.out] at l0
          have c0 := (CELLS.out W h).1
          rw [HLA.out] at c0
          exact ⟨c0, ⟨by rw [cell_of_row W b9 _ _ _ _ g7]; rfl, by rw [cell_of_row W b9 _ _ _ _ g7]; rfl⟩, ⟨l0, l1, l2⟩, S4.out.below h4, sees_ofV (HTX.out.sees.below h), h⟩ :
          W.cell? ⟨B, 0, none⟩ = some (.slice (some ⟨lb, lo, none⟩) n' lc) ∧ (W.cell? ⟨b9, 0, none⟩ = some (.int .u8 (K : Int)) ∧ W.cell? ⟨b9, 1, none⟩ = some (.slice A9 n9 c9)) ∧ (W.cell? ⟨lb, lo + j * 4, none⟩ = some (.string key) ∧ W.cell? ⟨lb, lo + j * 4 + 1, none⟩ = some (.int .u8 (K : Int)) ∧ W.cell? ⟨lb, lo + j * 4 + 2, none⟩ = some (.slice A3 tx.length tc)) ∧ Sees W A9 n9 tx ∧ Sees W A3 tx.length tx ∧ Below u.heap.size u W))
        refine Facts.wp_region_preds (n := 169) (by kernel_rfl) (by kernel_rfl) rfl [Facts.Pred.is (.bool true), Facts.Pred.is (.bool false), Facts.Pred.is (.bool false), Facts.Pred.is (.pointer (some ⟨b9, 0, none⟩)), Facts.Pred.is (.int .u8 (K : Int)), Facts.Pred.is (.pointer (some ⟨B, 0, none⟩)), Facts.Pred.is (.slice (some ⟨lb, lo, none⟩) n' lc), Facts.Pred.is (.int .i64 (j : Int)), Facts.Pred.is (.pointer (some ⟨lb, lo + j * 4, none⟩)), Facts.Pred.is (.pointer (some ⟨lb, lo + j * 4 + 1, none⟩)), Facts.Pred.is (.int .u8 (K : Int)), Facts.Pred.is (.bool false), Facts.Pred.is (.bool false), Facts.Pred.is (.bool false), Facts.Pred.is (.pointer (some ⟨b9, 1, none⟩)), Facts.Pred.is (.slice A9 n9 c9), Facts.Pred.is (.string TS), Facts.Pred.is (.pointer (some ⟨B, 0, none⟩)), Facts.Pred.is (.slice (some ⟨lb, lo, none⟩) n' lc), Facts.Pred.is (.int .i64 (j : Int)), Facts.Pred.is (.pointer (some ⟨lb, lo + j * 4, none⟩)), Facts.Pred.is (.pointer (some ⟨lb, lo + j * 4 + 2, none⟩)), Facts.Pred.is (.slice A3 tx.length tc), Facts.Pred.is (.string TS), Facts.Pred.is (.bool false), Facts.Pred.is (.bool false), Facts.Pred.is (.bool false), Facts.Pred.is (.pointer (some ⟨vb, 0, none⟩)), PKeyAt n' j key, Facts.Pred.is (.int .i64 (j : Int)), PCellS key, Facts.Pred.is (.string key), Facts.Pred.is (.pointer (some ⟨B, 0, none⟩)), Facts.Pred.is (.slice (some ⟨lb, lo, none⟩) n' lc), Facts.Pred.is (.int .i64 (j : Int)), Facts.Pred.is (.pointer (some ⟨lb, lo + j * 4, none⟩)), Facts.Pred.is (.pointer (some ⟨lb, lo + j * 4, none⟩)), Facts.Pred.is (.string key), Facts.Pred.is (.bool false), Facts.Pred.is (.bool false)] ?_ ?_
        · refine ⟨?_, ?_, ?_, ?_, ?_, ?_, ?_, ?_, ?_, ?_, ?_, ?_, ?_, ?_, ?_, ?_, ?_, ?_, ?_, ?_, ?_, ?_, ?_, ?_, ?_, ?_, ?_, ?_, ?_, ?_, ?_, ?_, ?_, ?_, ?_, ?_, ?_, ?_, ?_, ?_, trivial⟩
          · refine Facts.step_is (.bool true) fun a W hR hold hnew => ?_
            have f10 : a.tmps.getD 10 undef = .bool true := hold 10 (by kernel_rfl)
            refine ⟨Facts.wanted_free rfl, ?_, fun _ => rfl⟩; simp [go_sem, Act.eval, f10]
          · refine Facts.step_is (.bool false) fun a W hR hold hnew => ?_
            have f83 : a.tmps.getD 83 undef = .bool true := hnew 0 83 (by kernel_rfl)
            refine ⟨Facts.wanted_free rfl, ?_, fun _ => rfl⟩; simp [go_sem, Act.eval, f83]
          · refine Facts.step_is (.bool false) fun a W hR hold hnew => ?_
            have f84 : a.tmps.getD 84 undef = .bool false := hnew 1 84 (by kernel_rfl)
            refine ⟨Facts.wanted_free rfl, ?_, fun _ => rfl⟩; simp [go_sem, Act.eval, f84]
          · refine Facts.step_is (.pointer (some ⟨b9, 0, none⟩)) fun a W hR hold hnew => ?_
            have f9 : a.tmps.getD 9 undef = .pointer (some ⟨b9, 0, none⟩) := hold 9 (by kernel_rfl)
            have g85 : a.tmps.getD 85 undef = .bool false := hnew 2 85 (by kernel_rfl)
            refine ⟨Facts.wanted_by rfl (by kernel_rfl) g85, ?_, fun _ => rfl⟩
            simp [go_sem, Act.eval, f9]
          · refine Facts.step_is (.int .u8 (K : Int)) fun a W hR hold hnew => ?_
            have f86 : a.tmps.getD 86 undef = .pointer (some ⟨b9, 0, none⟩) := hnew 3 86 (by kernel_rfl)
            have g85 : a.tmps.getD 85 undef = .bool false := hnew 2 85 (by kernel_rfl)
            have q := (HC.out W hR).2.1.1
            refine ⟨Facts.wanted_by rfl (by kernel_rfl) g85, ?_, fun _ => rfl⟩
            simp [go_sem, Act.eval, f86, q]
          · refine Facts.step_is (.pointer (some ⟨B, 0, none⟩)) fun a W hR hold hnew => ?_
            have f7 : a.tmps.getD 7 undef = .pointer (some ⟨B, 0, none⟩) := hold 7 (by kernel_rfl)
            have g85 : a.tmps.getD 85 undef = .bool false := hnew 2 85 (by kernel_rfl)
            refine ⟨Facts.wanted_by rfl (by kernel_rfl) g85, ?_, fun _ => rfl⟩
            simp [go_sem, Act.eval, f7]
          · refine Facts.step_is (.slice (some ⟨lb, lo, none⟩) n' lc) fun a W hR hold hnew => ?_
            have f88 : a.tmps.getD 88 undef = .pointer (some ⟨B, 0, none⟩) := hnew 5 88 (by kernel_rfl)
            have g85 : a.tmps.getD 85 undef = .bool false := hnew 2 85 (by kernel_rfl)
            have q := (HC.out W hR).1
            refine ⟨Facts.wanted_by rfl (by kernel_rfl) g85, ?_, fun _ => rfl⟩
            simp [go_sem, Act.eval, f88, q]
          · refine Facts.step_is (.int .i64 (j : Int)) fun a W hR hold hnew => ?_
            have f8 : a.tmps.getD 8 undef = .int .i64 (j : Int) := hold 8 (by kernel_rfl)
            have g85 : a.tmps.getD 85 undef = .bool false := hnew 2 85 (by kernel_rfl)
            refine ⟨Facts.wanted_by rfl (by kernel_rfl) g85, ?_, fun _ => rfl⟩
            simp [go_sem, Act.eval, f8]
          · refine Facts.step_is (.pointer (some ⟨lb, lo + j * 4, none⟩)) fun a W hR hold hnew => ?_
            have f89 : a.tmps.getD 89 undef = .slice (some ⟨lb, lo, none⟩) n' lc := hnew 6 89 (by kernel_rfl)
            have f90 : a.tmps.getD 90 undef = .int .i64 (j : Int) := hnew 7 90 (by kernel_rfl)
            have g85 : a.tmps.getD 85 undef = .bool false := hnew 2 85 (by kernel_rfl)
            refine ⟨Facts.wanted_by rfl (by kernel_rfl) g85, ?_, fun _ => rfl⟩
            simp [go_sem, Act.eval, f89, f90, hij]
          · refine Facts.step_is (.pointer (some ⟨lb, lo + j * 4 + 1, none⟩)) fun a W hR hold hnew => ?_
            have f91 : a.tmps.getD 91 undef = .pointer (some ⟨lb, lo + j * 4, none⟩) := hnew 8 91 (by kernel_rfl)
            have g85 : a.tmps.getD 85 undef = .bool false := hnew 2 85 (by kernel_rfl)
            refine ⟨Facts.wanted_by rfl (by kernel_rfl) g85, ?_, fun _ => rfl⟩
            simp [go_sem, Act.eval, f91]
          · refine Facts.step_is (.int .u8 (K : Int)) fun a W hR hold hnew => ?_
            have f92 : a.tmps.getD 92 undef = .pointer (some ⟨lb, lo + j * 4 + 1, none⟩) := hnew 9 92 (by kernel_rfl)
            have g85 : a.tmps.getD 85 undef = .bool false := hnew 2 85 (by kernel_rfl)
            have q := (HC.out W hR).2.2.1.2.1
            refine ⟨Facts.wanted_by rfl (by kernel_rfl) g85, ?_, fun _ => rfl⟩
            simp [go_sem, Act.eval, f92, q]
          · refine Facts.step_is (.bool false) fun a W hR hold hnew => ?_
            have f87 : a.tmps.getD 87 undef = .int .u8 (K : Int) := hnew 4 87 (by kernel_rfl)
            have f93 : a.tmps.getD 93 undef = .int .u8 (K : Int) := hnew 10 93 (by kernel_rfl)
            have g85 : a.tmps.getD 85 undef = .bool false := hnew 2 85 (by kernel_rfl)
            refine ⟨Facts.wanted_by rfl (by kernel_rfl) g85, ?_, fun _ => rfl⟩
            simp [go_sem, Act.eval, f87, f93]
          · refine Facts.step_is (.bool false) fun a W hR hold hnew => ?_
            have f85 : a.tmps.getD 85 undef = .bool false := hnew 2 85 (by kernel_rfl)
            have f94 : a.tmps.getD 94 undef = .bool false := hnew 11 94 (by kernel_rfl)
            refine ⟨Facts.wanted_free rfl, ?_, fun _ => rfl⟩; simp [go_sem, Act.eval, f85, f94]
          · refine Facts.step_is (.bool false) fun a W hR hold hnew => ?_
            have f95 : a.tmps.getD 95 undef = .bool false := hnew 12 95 (by kernel_rfl)
            refine ⟨Facts.wanted_free rfl, ?_, fun _ => rfl⟩; simp [go_sem, Act.eval, f95]
          · refine Facts.step_is (.pointer (some ⟨b9, 1, none⟩)) fun a W hR hold hnew => ?_
            have f9 : a.tmps.getD 9 undef = .pointer (some ⟨b9, 0, none⟩) := hold 9 (by kernel_rfl)
            have g96 : a.tmps.getD 96 undef = .bool false := hnew 13 96 (by kernel_rfl)
            refine ⟨Facts.wanted_by rfl (by kernel_rfl) g96, ?_, fun _ => rfl⟩
            simp [go_sem, Act.eval, f9]
          · refine Facts.step_is (.slice A9 n9 c9) fun a W hR hold hnew => ?_
            have f97 : a.tmps.getD 97 undef = .pointer (some ⟨b9, 1, none⟩) := hnew 14 97 (by kernel_rfl)
            have g96 : a.tmps.getD 96 undef = .bool false := hnew 13 96 (by kernel_rfl)
            have q := (HC.out W hR).2.1.2
            refine ⟨Facts.wanted_by rfl (by kernel_rfl) g96, ?_, fun _ => rfl⟩
            simp [go_sem, Act.eval, f97, q]
          · refine Facts.step_is (.string TS) fun a W hR hold hnew => ?_
            have f98 : a.tmps.getD 98 undef = .slice A9 n9 c9 := hnew 15 98 (by kernel_rfl)
            have g96 : a.tmps.getD 96 undef = .bool false := hnew 13 96 (by kernel_rfl)
            have q := STX.out W A9 n9 c9 (HC.out W hR).2.2.2.1
            refine ⟨Facts.wanted_by rfl (by kernel_rfl) g96, ?_, fun _ => rfl⟩
            simp [go_sem, Act.eval, f98, q]
          · refine Facts.step_is (.pointer (some ⟨B, 0, none⟩)) fun a W hR hold hnew => ?_
            have f7 : a.tmps.getD 7 undef = .pointer (some ⟨B, 0, none⟩) := hold 7 (by kernel_rfl)
            have g96 : a.tmps.getD 96 undef = .bool false := hnew 13 96 (by kernel_rfl)
            refine ⟨Facts.wanted_by rfl (by kernel_rfl) g96, ?_, fun _ => rfl⟩
            simp [go_sem, Act.eval, f7]
          · refine Facts.step_is (.slice (some ⟨lb, lo, none⟩) n' lc) fun a W hR hold hnew => ?_
            have f100 : a.tmps.getD 100 undef = .pointer (some ⟨B, 0, none⟩) := hnew 17 100 (by kernel_rfl)
            have g96 : a.tmps.getD 96 undef = .bool false := hnew 13 96 (by kernel_rfl)
            have q := (HC.out W hR).1
            refine ⟨Facts.wanted_by rfl (by kernel_rfl) g96, ?_, fun _ => rfl⟩
            simp [go_sem, Act.eval, f100, q]
          · refine Facts.step_is (.int .i64 (j : Int)) fun a W hR hold hnew => ?_
            have f8 : a.tmps.getD 8 undef = .int .i64 (j : Int) := hold 8 (by kernel_rfl)
            have g96 : a.tmps.getD 96 undef = .bool false := hnew 13 96 (by kernel_rfl)
            refine ⟨Facts.wanted_by rfl (by kernel_rfl) g96, ?_, fun _ => rfl⟩
            simp [go_sem, Act.eval, f8]
          · refine Facts.step_is (.pointer (some ⟨lb, lo + j * 4, none⟩)) fun a W hR hold hnew => ?_
            have f101 : a.tmps.getD 101 undef = .slice (some ⟨lb, lo, none⟩) n' lc := hnew 18 101 (by kernel_rfl)
            have f102 : a.tmps.getD 102 undef = .int .i64 (j : Int) := hnew 19 102 (by kernel_rfl)
            have g96 : a.tmps.getD 96 undef = .bool false := hnew 13 96 (by kernel_rfl)
            refine ⟨Facts.wanted_by rfl (by kernel_rfl) g96, ?_, fun _ => rfl⟩
            simp [go_sem, Act.eval, f101, f102, hij]
          · refine Facts.step_is (.pointer (some ⟨lb, lo + j * 4 + 2, none⟩)) fun a W hR hold hnew => ?_
            have f103 : a.tmps.getD 103 undef = .pointer (some ⟨lb, lo + j * 4, none⟩) := hnew 20 103 (by kernel_rfl)
            have g96 : a.tmps.getD 96 undef = .bool false := hnew 13 96 (by kernel_rfl)
            refine ⟨Facts.wanted_by rfl (by kernel_rfl) g96, ?_, fun _ => rfl⟩
            simp [go_sem, Act.eval, f103]
          · refine Facts.step_is (.slice A3 tx.length tc) fun a W hR hold hnew => ?_
            have f104 : a.tmps.getD 104 undef = .pointer (some ⟨lb, lo + j * 4 + 2, none⟩) := hnew 21 104 (by kernel_rfl)
            have g96 : a.tmps.getD 96 undef = .bool false := hnew 13 96 (by kernel_rfl)
            have q := (HC.out W hR).2.2.1.2.2
            refine ⟨Facts.wanted_by rfl (by kernel_rfl) g96, ?_, fun _ => rfl⟩
            simp [go_sem, Act.eval, f104, q]
          · refine Facts.step_is (.string TS) fun a W hR hold hnew => ?_
            have f105 : a.tmps.getD 105 undef = .slice A3 tx.length tc := hnew 22 105 (by kernel_rfl)
            have g96 : a.tmps.getD 96 undef = .bool false := hnew 13 96 (by kernel_rfl)
            have q := STX.out W A3 tx.length tc (HC.out W hR).2.2.2.2.1
            refine ⟨Facts.wanted_by rfl (by kernel_rfl) g96, ?_, fun _ => rfl⟩
            simp [go_sem, Act.eval, f105, q]
          · refine Facts.step_is (.bool false) fun a W hR hold hnew => ?_
            have f99 : a.tmps.getD 99 undef = .string TS := hnew 16 99 (by kernel_rfl)
            have f106 : a.tmps.getD 106 undef = .string TS := hnew 23 106 (by kernel_rfl)
            have g96 : a.tmps.getD 96 undef = .bool false := hnew 13 96 (by kernel_rfl)
            refine ⟨Facts.wanted_by rfl (by kernel_rfl) g96, ?_, fun _ => rfl⟩
            simp [go_sem, Act.eval, f99, f106]
          · refine Facts.step_is (.bool false) fun a W hR hold hnew => ?_
            have f96 : a.tmps.getD 96 undef = .bool false := hnew 13 96 (by kernel_rfl)
            have f107 : a.tmps.getD 107 undef = .bool false := hnew 24 107 (by kernel_rfl)
            refine ⟨Facts.wanted_free rfl, ?_, fun _ => rfl⟩; simp [go_sem, Act.eval, f96, f107]
          · refine Facts.step_is (.bool false) fun a W hR hold hnew => ?_
            have f108 : a.tmps.getD 108 undef = .bool false := hnew 25 108 (by kernel_rfl)
            refine ⟨Facts.wanted_free rfl, ?_, fun _ => rfl⟩; simp [go_sem, Act.eval, f108]
          · refine Facts.step_is (.pointer (some ⟨vb, 0, none⟩)) fun a W hR hold hnew => ?_
            have f0 : a.tmps.getD 0 undef = .pointer (some ⟨vb, 0, none⟩) := hold 0 (by kernel_rfl)
            have g109 : a.tmps.getD 109 undef = .bool false := hnew 26 109 (by kernel_rfl)
            refine ⟨Facts.wanted_by rfl (by kernel_rfl) g109, ?_, fun _ => rfl⟩
            simp [go_sem, Act.eval, f0]
          · refine Facts.step_call fun a W hR hold hnew => ?_
            have f110 : a.tmps.getD 110 undef = .pointer (some ⟨vb, 0, none⟩) := hnew 27 110 (by kernel_rfl)
            have g109 : a.tmps.getD 109 undef = .bool false := hnew 26 109 (by kernel_rfl)
            refine ⟨Facts.wanted_by rfl (by kernel_rfl) g109, 26, #[.pointer (some ⟨vb, 0, none⟩)], by simp [go_sem, Act.eval, f110], ?_⟩
            refine (KS.out W (HC.out W hR).2.2.2.2.2).mono ?_
            rintro e w8 ⟨A8, c8, rfl, s8, hb8⟩
            obtain ⟨g8, o8, rfl, hc8⟩ := s8.get HKJ.out
            exact ⟨_, rfl, hb8, g8, o8, c8, rfl, hc8⟩
          · refine Facts.step_is (.int .i64 (j : Int)) fun a W hR hold hnew => ?_
            have f8 : a.tmps.getD 8 undef = .int .i64 (j : Int) := hold 8 (by kernel_rfl)
            have g109 : a.tmps.getD 109 undef = .bool false := hnew 26 109 (by kernel_rfl)
            refine ⟨Facts.wanted_by rfl (by kernel_rfl) g109, ?_, fun _ => rfl⟩
            simp [go_sem, Act.eval, f8]
          · refine Facts.step_some fun a W hR hold hnew => ?_
            have h111 : ∃ g o c, a.tmps.getD 111 undef = .slice (some ⟨g, o, none⟩) n' c ∧ W.cell? ⟨g, o + j, none⟩ = some (.string key) := hnew 28 111 (by kernel_rfl)
            obtain ⟨g111, o111, c111, f111, z111⟩ := h111
            have f112 : a.tmps.getD 112 undef = .int .i64 (j : Int) := hnew 29 112 (by kernel_rfl)
            have g109 : a.tmps.getD 109 undef = .bool false := hnew 26 109 (by kernel_rfl)
            exact ⟨Facts.wanted_by rfl (by kernel_rfl) g109, .pointer (some ⟨g111, o111 + j, none⟩), by simp [go_sem, Act.eval, f111, f112, hij], g111, o111 + j, rfl, z111⟩
          · refine Facts.step_is (.string key) fun a W hR hold hnew => ?_
            have h113 : ∃ g x, a.tmps.getD 113 undef = .pointer (some ⟨g, x, none⟩) ∧ W.cell? ⟨g, x, none⟩ = some (.string key) := hnew 30 113 (by kernel_rfl)
            obtain ⟨g113, o113, f113, z113⟩ := h113
            have g109 : a.tmps.getD 109 undef = .bool false := hnew 26 109 (by kernel_rfl)
            refine ⟨Facts.wanted_by rfl (by kernel_rfl) g109, ?_, fun _ => rfl⟩
            simp [go_sem, Act.eval, f113, z113]
          · refine Facts.step_is (.pointer (some ⟨B, 0, none⟩)) fun a W hR hold hnew => ?_
            have f7 : a.tmps.getD 7 undef = .pointer (some ⟨B, 0, none⟩) := hold 7 (by kernel_rfl)
            have g109 : a.tmps.getD 109 undef = .bool false := hnew 26 109 (by kernel_rfl)
            refine ⟨Facts.wanted_by rfl (by kernel_rfl) g109, ?_, fun _ => rfl⟩
            simp [go_sem, Act.eval, f7]
          · refine Facts.step_is (.slice (some ⟨lb, lo, none⟩) n' lc) fun a W hR hold hnew => ?_
            have f115 : a.tmps.getD 115 undef = .pointer (some ⟨B, 0, none⟩) := hnew 32 115 (by kernel_rfl)
            have g109 : a.tmps.getD 109 undef = .bool false := hnew 26 109 (by kernel_rfl)
            have q := (HC.out W hR).1
            refine ⟨Facts.wanted_by rfl (by kernel_rfl) g109, ?_, fun _ => rfl⟩
            simp [go_sem, Act.eval, f115, q]
          · refine Facts.step_is (.int .i64 (j : Int)) fun a W hR hold hnew => ?_
            have f8 : a.tmps.getD 8 undef = .int .i64 (j : Int) := hold 8 (by kernel_rfl)
            have g109 : a.tmps.getD 109 undef = .bool false := hnew 26 109 (by kernel_rfl)
            refine ⟨Facts.wanted_by rfl (by kernel_rfl) g109, ?_, fun _ => rfl⟩
            simp [go_sem, Act.eval, f8]
          · refine Facts.step_is (.pointer (some ⟨lb, lo + j * 4, none⟩)) fun a W hR hold hnew => ?_
            have f116 : a.tmps.getD 116 undef = .slice (some ⟨lb, lo, none⟩) n' lc := hnew 33 116 (by kernel_rfl)
            have f117 : a.tmps.getD 117 undef = .int .i64 (j : Int) := hnew 34 117 (by kernel_rfl)
            have g109 : a.tmps.getD 109 undef = .bool false := hnew 26 109 (by kernel_rfl)
            refine ⟨Facts.wanted_by rfl (by kernel_rfl) g109, ?_, fun _ => rfl⟩
            simp [go_sem, Act.eval, f116, f117, hij]
          · refine Facts.step_is (.pointer (some ⟨lb, lo + j * 4, none⟩)) fun a W hR hold hnew => ?_
            have f118 : a.tmps.getD 118 undef = .pointer (some ⟨lb, lo + j * 4, none⟩) := hnew 35 118 (by kernel_rfl)
            have g109 : a.tmps.getD 109 undef = .bool false := hnew 26 109 (by kernel_rfl)
            refine ⟨Facts.wanted_by rfl (by kernel_rfl) g109, ?_, fun _ => rfl⟩
            simp [go_sem, Act.eval, f118]
          · refine Facts.step_is (.string key) fun a W hR hold hnew => ?_
            have f119 : a.tmps.getD 119 undef = .pointer (some ⟨lb, lo + j * 4, none⟩) := hnew 36 119 (by kernel_rfl)
            have g109 : a.tmps.getD 109 undef = .bool false := hnew 26 109 (by kernel_rfl)
            have q := (HC.out W hR).2.2.1.1
            refine ⟨Facts.wanted_by rfl (by kernel_rfl) g109, ?_, fun _ => rfl⟩
            simp [go_sem, Act.eval, f119, q]
          · refine Facts.step_is (.bool false) fun a W hR hold hnew => ?_
            have f114 : a.tmps.getD 114 undef = .string key := hnew 31 114 (by kernel_rfl)
            have f120 : a.tmps.getD 120 undef = .string key := hnew 37 120 (by kernel_rfl)
            have g109 : a.tmps.getD 109 undef = .bool false := hnew 26 109 (by kernel_rfl)
            refine ⟨Facts.wanted_by rfl (by kernel_rfl) g109, ?_, fun _ => rfl⟩
            simp [go_sem, Act.eval, f114, f120]
          · refine Facts.step_is (.bool false) fun a W hR hold hnew => ?_
            have f109 : a.tmps.getD 109 undef = .bool false := hnew 26 109 (by kernel_rfl)
            have f121 : a.tmps.getD 121 undef = .bool false := hnew 38 121 (by kernel_rfl)
            refine ⟨Facts.wanted_free rfl, ?_, fun _ => rfl⟩; simp [go_sem, Act.eval, f109, f121]
        · intro a w9 hR' hsize hdef hnew hold
          have f122 : a.tmps.getD 122 undef = .bool false := hnew 39 122 (by kernel_rfl)
          obtain ⟨tm9, df⟩ := a
          have hfr := Ord.frame_region hsize (by rfl) (fun t ht => hold t ht)
          clear hnew hold
          simp only [List.filterMap_cons, List.filterMap_nil] at hfr
          simp only [List.foldl_cons, List.foldl_nil, List.setIfInBounds_toArray, List.set_cons_succ, List.set_cons_zero] at hfr
          simp only [] at f122 hdef
          rw [f122] at hfr
          clear f122 hsize
          generalize tm9.getD 83 undef = y83 at hfr
          generalize tm9.getD 84 undef = y84 at hfr
          generalize tm9.getD 85 undef = y85 at hfr
          generalize tm9.getD 86 undef = y86 at hfr
          generalize tm9.getD 87 undef = y87 at hfr
          generalize tm9.getD 88 undef = y88 at hfr
          generalize tm9.getD 89 undef = y89 at hfr
          generalize tm9.getD 90 undef = y90 at hfr
          generalize tm9.getD 91 undef = y91 at hfr
          generalize tm9.getD 92 undef = y92 at hfr
          generalize tm9.getD 93 undef = y93 at hfr
          generalize tm9.getD 94 undef = y94 at hfr
          generalize tm9.getD 95 undef = y95 at hfr
          generalize tm9.getD 96 undef = y96 at hfr
          generalize tm9.getD 97 undef = y97 at hfr
          generalize tm9.getD 98 undef = y98 at hfr
          generalize tm9.getD 99 undef = y99 at hfr
          generalize tm9.getD 100 undef = y100 at hfr
          generalize tm9.getD 101 undef = y101 at hfr
          generalize tm9.getD 102 undef = y102 at hfr
          generalize tm9.getD 103 undef = y103 at hfr
          generalize tm9.getD 104 undef = y104 at hfr
          generalize tm9.getD 105 undef = y105 at hfr
          generalize tm9.getD 106 undef = y106 at hfr
          generalize tm9.getD 107 undef = y107 at hfr
          generalize tm9.getD 108 undef = y108 at hfr
          generalize tm9.getD 109 undef = y109 at hfr
          generalize tm9.getD 110 undef = y110 at hfr
          generalize tm9.getD 111 undef = y111 at hfr
          generalize tm9.getD 112 undef = y112 at hfr
          generalize tm9.getD 113 undef = y113 at hfr
          generalize tm9.getD 114 undef = y114 at hfr
          generalize tm9.getD 115 undef = y115 at hfr
          generalize tm9.getD 116 undef = y116 at hfr
          generalize tm9.getD 117 undef = y117 at hfr
          generalize tm9.getD 118 undef = y118 at hfr
          generalize tm9.getD 119 undef = y119 at hfr
          generalize tm9.getD 120 undef = y120 at hfr
          generalize tm9.getD 121 undef = y121 at hfr
          subst hfr
          subst hdef
          have hb9 := (Below.refl w4.heap.size w4).drew.trans hR'
          have B9 := Lib.hid (B4.out.trans (hb9.mono B4.out.size))
          clear hR' hb9 HC
          go_wp2
          go_roundw
          case rel => exact ⟨j + 1, by simp, by omega, B9⟩
          case measure => first | (simp [intOf]; done) | (simp [intOf]; omega)
      · obtain rfl : j = n' := by omega
        have hd : decide ((j : Int) < (j : Int)) = false := decide_eq_false (by omega)
        have c0 := (CELLS.out wr HBw.out).1
        go_wp2_with fail
        go_loopw [11, 12, 13] (fun y z t wr => ∃ i : Nat, y = .int .i64 (i : Int) ∧ n ≤ i ∧ i ≤ N ∧ Hid (Below u.heap.size u wr)) (fun y _ _ _ => N - (intOf y).toNat)
        case atStart => exact ⟨n, rfl, Nat.le_refl _, by omega, HBw⟩
        case round =>
          obtain ⟨i, rfl, hni, hiN, HBz⟩ := hrel
          by_cases hlt2 : i < N
          · have hd2 : decide ((i : Int) < (N : Int)) = true := decide_eq_true (by omega)
            have hij : (i : Int) < (N : Int) := by omega
            have hib : (i : Int) ≤ 1000 := by omega
            obtain ⟨q, hq⟩ : ∃ q, i = n + q := ⟨i - n, by omega⟩
            have hin : (i : Int) - (n : Int) = (q : Int) := by omega
            have hq2 : (q : Int) ≤ 1000 := by omega
            have hwq : IntKind.i64.wrap (q : Int) = (q : Int) := by rw [IntKind.wrap_i64]; omega
            obtain ⟨r, hr⟩ : ∃ r, R[i]? = some r := ⟨_, List.getElem?_eq_getElem (by rw [← HNN.out.1]; exact hlt2)⟩
            have hrm := List.mem_of_getElem? hr
            have AT := Lib.hid (HTL.out.at_ wr (TOW.out wr HBz.out) q r (by rw [← hq]; exact hr))
            obtain ⟨b, o, rfl, q0, q1, q2, q3, q4, q5, q6, q7⟩ := RawEv.at_ (HE.out.below (TOW.out wr HBz.out)).raw hr
            rw [show 8 * i = i * 8 by omega] at q0 q1 q2 q3 q4 q5 q6 q7
            have hrr := HRT.out r hrm
            have hfit := (HE.out.fit r hrm).1
            have hse := (HE.out.text r hrm).below (TOW.out wr HBz.out)
            obtain ⟨⟨ew, sq, et, kd, kk, text, num, node⟩, rA, rn, rc⟩ := r
            simp only [] at q0 q1 q2 q3 q4 q5 q6 q7 hrr hfit hse
            have AT2 : Hid (Calls Tryz.prog 28 #[.pointer (some ⟨vb, 0, none⟩), .int .i64 (q : Int)] wr fun e w' => ∃ A m c, e = .returned (.tuple #[.agg #[.int .i64 ew, .int .u64 (sq : Int), .int .u64 (et : Int), .int .u8 (kd : Int), .string kk, .slice A m c, .float .f64 num, .int .i64 node], .bool true]) ∧ Sees w' A m text ∧ Below wr.heap.size wr w') := Lib.hid AT.out
            have HRR := Lib.hid (And.intro hrr hfit.q)
            have HSE := Lib.hid hse
            have HQ := Lib.hid (And.intro q0 (And.intro q1 (And.intro q2 (And.intro q3 (And.intro q4 (And.intro q5 (And.intro q6 q7)))))))
            clear AT hr hrm hrr hfit hse hq q0 q1 q2 q3 q4 q5 q6 q7
            go_wp2_with fail
            refine AT2.out.mono ?_
            rintro e w3 ⟨A9, n9, c9, rfl, hs3, hb3⟩
            have B3 := Lib.hid (HBz.out.trans (hb3.mono HBz.out.size))
            have Z3 := Lib.hid hb3
            have S3 := Lib.hid hs3
            clear hb3 hs3 AT2
            go_wp2_with (first | (refine wpList_putRow rfl 32 (.tmp 12) (.tmp 136) rfl w3.heap.size 32 #[.int .i64 0, .int .u64 0, .int .u64 0, .int .u8 0, .string ⟨#[]⟩, .slice none 0 0, .float .f64 0, .int .i64 0] #[.int .i64 ew, .int .u64 (sq : Int), .int .u64 (et : Int), .int .u8 (kd : Int), .string kk, .slice A9 n9 c9, .float .f64 num, .int .i64 node] rfl rfl ?g0 (by kernel_rfl) rfl (by simp [Value.oneCell']) ?_))
            case g0 => exact heap_alloc_new w3 _
            intro w4 g4 hb4
            have hb34 : Below w3.heap.size w3 w4 := Below.beside ((Below.refl w3.heap.size w3).alloc (Nat.le_refl _) _) hb4 (by simp) (fun x hx => by simp at hx; omega)
            obtain ⟨b9, hb9⟩ : ∃ b, b = w3.heap.size := ⟨_, rfl⟩
            rw [← hb9] at g4 ⊢
            have h47 : b9 < w4.heap.size := (Array.getElem?_eq_some_iff.1 g4).1
            have B4 := Lib.hid (B3.out.trans (hb34.mono B3.out.size))
            have Z4 := Lib.hid (Z3.out.trans (hb34.mono Z3.out.size))
            have S4 := Lib.hid (S3.out.below hb34)
            have G4 := Lib.hid g4
            clear hb9 hb4 hb34 g4
            go_wp2_with fail
            have HC := Lib.hid (fun (W : World) (hW' : Below w4.drew.heap.size w4.drew W) => (by
              have h4 := (Below.refl w4.heap.size w4).drew.trans hW'
              have h := Z4.out.trans (h4.mono Z4.out.size)
              have g7 := (h4.block b9 h47).trans G4.out
              have hc : ∀ {k : Nat} {v : Value}, wr.cell? ⟨b, k, none⟩ = some v → W.cell? ⟨b, k, none⟩ = some v := fun hv => (h.cell (p := ⟨b, _, none⟩) (World.block_lt_of_cell? _ _ hv)).trans hv
              obtain ⟨q0, q1, q2, q3, q4, q5, q6, q7⟩ := HQ.out
              exact ⟨⟨by rw [cell_of_row W b9 _ _ _ _ g7]; rfl, by rw [cell_of_row W b9 _ _ _ _ g7]; rfl, by rw [cell_of_row W b9 _ _ _ _ g7]; rfl, by rw [cell_of_row W b9 _ _ _ _ g7]; rfl, by rw [cell_of_row W b9 _ _ _ _ g7]; rfl, by rw [cell_of_row W b9 _ _ _ _ g7]; rfl, by rw [cell_of_row W b9 _ _ _ _ g7]; rfl, by rw [cell_of_row W b9 _ _ _ _ g7]; rfl⟩, ⟨hc q0, hc q1, hc q2, hc q3, hc q4, hc q5, hc q6, hc q7⟩, S4.out.below h4, HSE.out.below h⟩ :
              (W.cell? ⟨b9, 0, none⟩ = some (.int .i64 ew) ∧ W.cell? ⟨b9, 1, none⟩ = some (.int .u64 (sq : Int)) ∧ W.cell? ⟨b9, 2, none⟩ = some (.int .u64 (et : Int)) ∧ W.cell? ⟨b9, 3, none⟩ = some (.int .u8 (kd : Int)) ∧ W.cell? ⟨b9, 4, none⟩ = some (.string kk) ∧ W.cell? ⟨b9, 5, none⟩ = some (.slice A9 n9 c9) ∧ W.cell? ⟨b9, 6, none⟩ = some (.float .f64 num) ∧ W.cell? ⟨b9, 7, none⟩ = some (.int .i64 node)) ∧ (W.cell? ⟨b, o + i * 8, none⟩ = some (.int .i64 ew) ∧ W.cell? ⟨b, o + i * 8 + 1, none⟩ = some (.int .u64 (sq : Int)) ∧ W.cell? ⟨b, o + i * 8 + 2, none⟩ = some (.int .u64 (et : Int)) ∧ W.cell? ⟨b, o + i * 8 + 3, none⟩ = some (.int .u8 (kd : Int)) ∧ W.cell? ⟨b, o + i * 8 + 4, none⟩ = some (.string kk) ∧ W.cell? ⟨b, o + i * 8 + 5, none⟩ = some (.slice rA rn rc) ∧ W.cell? ⟨b, o + i * 8 + 6, none⟩ = some (.float .f64 num) ∧ W.cell? ⟨b, o + i * 8 + 7, none⟩ = some (.int .i64 node)) ∧ Sees W A9 n9 text ∧ Sees W rA rn text))
            have SAME := Lib.hid (fun (W : World) (h1 : Sees W A9 n9 text) (h2 : Sees W rA rn text) => (by
              refine (refSame_any ⟨ew, sq, et, kd, kk, text, num, node⟩ ⟨ew, sq, et, kd, kk, text, num, node⟩ A9 rA n9 c9 rn rc W h1 h2 HRR.out.2 HRR.out.2 HRR.out.1 HRR.out.1).mono ?_
              rintro e w' ⟨rfl, hb⟩
              exact ⟨by simp, hb⟩ : Calls Tryz.prog 29 #[.agg #[.int .i64 ew, .int .u64 (sq : Int), .int .u64 (et : Int), .int .u8 (kd : Int), .string kk, .slice A9 n9 c9, .float .f64 num, .int .i64 node], .agg #[.int .i64 ew, .int .u64 (sq : Int), .int .u64 (et : Int), .int .u8 (kd : Int), .string kk, .slice rA rn rc, .float .f64 num, .int .i64 node]] W fun e w' => e = .returned (.bool true) ∧ Below W.heap.size W w'))
            refine Facts.wp_region_preds (n := 169) (by kernel_rfl) (by kernel_rfl) rfl [Facts.Pred.is (.bool true), Facts.Pred.is (.bool false), Facts.Pred.is (.bool false), Facts.Pred.is (.agg #[.int .i64 ew, .int .u64 (sq : Int), .int .u64 (et : Int), .int .u8 (kd : Int), .string kk, .slice A9 n9 c9, .float .f64 num, .int .i64 node]), Facts.Pred.is (.slice (some ⟨b, o, none⟩) N c), Facts.Pred.is (.int .i64 (i : Int)), Facts.Pred.is (.pointer (some ⟨b, o + i * 8, none⟩)), Facts.Pred.is (.agg #[.int .i64 ew, .int .u64 (sq : Int), .int .u64 (et : Int), .int .u8 (kd : Int), .string kk, .slice rA rn rc, .float .f64 num, .int .i64 node]), Facts.Pred.is (.bool true), Facts.Pred.is (.bool false), Facts.Pred.is (.bool false)] ?_ ?_
            · refine ⟨?_, ?_, ?_, ?_, ?_, ?_, ?_, ?_, ?_, ?_, ?_, trivial⟩
              · refine Facts.step_is (.bool true) fun a W hR hold hnew => ?_
                have f13 : a.tmps.getD 13 undef = .bool true := hold 13 (by kernel_rfl)
                refine ⟨Facts.wanted_free rfl, ?_, fun _ => rfl⟩; simp [go_sem, Act.eval, f13]
              · refine Facts.step_is (.bool false) fun a W hR hold hnew => ?_
                have f138 : a.tmps.getD 138 undef = .bool true := hnew 0 138 (by kernel_rfl)
                refine ⟨Facts.wanted_free rfl, ?_, fun _ => rfl⟩; simp [go_sem, Act.eval, f138]
              · refine Facts.step_is (.bool false) fun a W hR hold hnew => ?_
                have f139 : a.tmps.getD 139 undef = .bool false := hnew 1 139 (by kernel_rfl)
                refine ⟨Facts.wanted_free rfl, ?_, fun _ => rfl⟩; simp [go_sem, Act.eval, f139]
              · refine Facts.step_is (.agg #[.int .i64 ew, .int .u64 (sq : Int), .int .u64 (et : Int), .int .u8 (kd : Int), .string kk, .slice A9 n9 c9, .float .f64 num, .int .i64 node]) fun a W hR hold hnew => ?_
                have f12 : a.tmps.getD 12 undef = .pointer (some ⟨b9, 0, none⟩) := hold 12 (by kernel_rfl)
                have g140 : a.tmps.getD 140 undef = .bool false := hnew 2 140 (by kernel_rfl)
                obtain ⟨q0, q1, q2, q3, q4, q5, q6, q7⟩ := (HC.out W hR).1
                refine ⟨Facts.wanted_by rfl (by kernel_rfl) g140, ?_, fun _ => rfl⟩
                simp [go_sem, Act.eval, f12, q0, q1, q2, q3, q4, q5, q6, q7]
              · refine Facts.step_is (.slice (some ⟨b, o, none⟩) N c) fun a W hR hold hnew => ?_
                have f1 : a.tmps.getD 1 undef = .slice (some ⟨b, o, none⟩) N c := hold 1 (by kernel_rfl)
                have g140 : a.tmps.getD 140 undef = .bool false := hnew 2 140 (by kernel_rfl)
                refine ⟨Facts.wanted_by rfl (by kernel_rfl) g140, ?_, fun _ => rfl⟩
                simp [go_sem, Act.eval, f1]
              · refine Facts.step_is (.int .i64 (i : Int)) fun a W hR hold hnew => ?_
                have f11 : a.tmps.getD 11 undef = .int .i64 (i : Int) := hold 11 (by kernel_rfl)
                have g140 : a.tmps.getD 140 undef = .bool false := hnew 2 140 (by kernel_rfl)
                refine ⟨Facts.wanted_by rfl (by kernel_rfl) g140, ?_, fun _ => rfl⟩
                simp [go_sem, Act.eval, f11]
              · refine Facts.step_is (.pointer (some ⟨b, o + i * 8, none⟩)) fun a W hR hold hnew => ?_
                have f142 : a.tmps.getD 142 undef = .slice (some ⟨b, o, none⟩) N c := hnew 4 142 (by kernel_rfl)
                have f143 : a.tmps.getD 143 undef = .int .i64 (i : Int) := hnew 5 143 (by kernel_rfl)
                have g140 : a.tmps.getD 140 undef = .bool false := hnew 2 140 (by kernel_rfl)
                refine ⟨Facts.wanted_by rfl (by kernel_rfl) g140, ?_, fun _ => rfl⟩
                simp [go_sem, Act.eval, f142, f143, hij]
              · refine Facts.step_is (.agg #[.int .i64 ew, .int .u64 (sq : Int), .int .u64 (et : Int), .int .u8 (kd : Int), .string kk, .slice rA rn rc, .float .f64 num, .int .i64 node]) fun a W hR hold hnew => ?_
                have f144 : a.tmps.getD 144 undef = .pointer (some ⟨b, o + i * 8, none⟩) := hnew 6 144 (by kernel_rfl)
                have g140 : a.tmps.getD 140 undef = .bool false := hnew 2 140 (by kernel_rfl)
                obtain ⟨q0, q1, q2, q3, q4, q5, q6, q7⟩ := (HC.out W hR).2.1
                refine ⟨Facts.wanted_by rfl (by kernel_rfl) g140, ?_, fun _ => rfl⟩
                simp [go_sem, Act.eval, f144, q0, q1, q2, q3, q4, q5, q6, q7]
              · refine Facts.step_call fun a W hR hold hnew => ?_
                have f141 : a.tmps.getD 141 undef = .agg #[.int .i64 ew, .int .u64 (sq : Int), .int .u64 (et : Int), .int .u8 (kd : Int), .string kk, .slice A9 n9 c9, .float .f64 num, .int .i64 node] := hnew 3 141 (by kernel_rfl)
                have f145 : a.tmps.getD 145 undef = .agg #[.int .i64 ew, .int .u64 (sq : Int), .int .u64 (et : Int), .int .u8 (kd : Int), .string kk, .slice rA rn rc, .float .f64 num, .int .i64 node] := hnew 7 145 (by kernel_rfl)
                have g140 : a.tmps.getD 140 undef = .bool false := hnew 2 140 (by kernel_rfl)
                refine ⟨Facts.wanted_by rfl (by kernel_rfl) g140, 29, #[.agg #[.int .i64 ew, .int .u64 (sq : Int), .int .u64 (et : Int), .int .u8 (kd : Int), .string kk, .slice A9 n9 c9, .float .f64 num, .int .i64 node], .agg #[.int .i64 ew, .int .u64 (sq : Int), .int .u64 (et : Int), .int .u8 (kd : Int), .string kk, .slice rA rn rc, .float .f64 num, .int .i64 node]], by simp [go_sem, Act.eval, f141, f145], ?_⟩
                refine (SAME.out W (HC.out W hR).2.2.1 (HC.out W hR).2.2.2).mono ?_
                rintro e w8 ⟨rfl, hb8⟩
                exact ⟨_, rfl, hb8, rfl⟩
              · refine Facts.step_is (.bool false) fun a W hR hold hnew => ?_
                have f146 : a.tmps.getD 146 undef = .bool true := hnew 8 146 (by kernel_rfl)
                have g140 : a.tmps.getD 140 undef = .bool false := hnew 2 140 (by kernel_rfl)
                refine ⟨Facts.wanted_by rfl (by kernel_rfl) g140, ?_, fun _ => rfl⟩
                simp [go_sem, Act.eval, f146]
              · refine Facts.step_is (.bool false) fun a W hR hold hnew => ?_
                have f140 : a.tmps.getD 140 undef = .bool false := hnew 2 140 (by kernel_rfl)
                have f147 : a.tmps.getD 147 undef = .bool false := hnew 9 147 (by kernel_rfl)
                refine ⟨Facts.wanted_free rfl, ?_, fun _ => rfl⟩; simp [go_sem, Act.eval, f140, f147]
            · intro a w9 hR' hsize hdef hnew hold
              have f148 : a.tmps.getD 148 undef = .bool false := hnew 10 148 (by kernel_rfl)
              obtain ⟨tm9, df⟩ := a
              have hfr := Ord.frame_region hsize (by rfl) (fun t ht => hold t ht)
              clear hnew hold
              simp only [List.filterMap_cons, List.filterMap_nil] at hfr
              simp only [List.foldl_cons, List.foldl_nil, List.setIfInBounds_toArray, List.set_cons_succ, List.set_cons_zero] at hfr
              simp only [] at f148 hdef
              rw [f148] at hfr
              clear f148 hsize
              generalize tm9.getD 138 undef = y138 at hfr
              generalize tm9.getD 139 undef = y139 at hfr
              generalize tm9.getD 140 undef = y140 at hfr
              generalize tm9.getD 141 undef = y141 at hfr
              generalize tm9.getD 142 undef = y142 at hfr
              generalize tm9.getD 143 undef = y143 at hfr
              generalize tm9.getD 144 undef = y144 at hfr
              generalize tm9.getD 145 undef = y145 at hfr
              generalize tm9.getD 146 undef = y146 at hfr
              generalize tm9.getD 147 undef = y147 at hfr
              subst hfr
              subst hdef
              have hb9 := (Below.refl w4.heap.size w4).drew.trans hR'
              have B9 := Lib.hid (B4.out.trans (hb9.mono B4.out.size))
              clear hR' hb9 HC
              go_wp2
              go_roundw
              case rel => exact ⟨i + 1, by simp, by omega, by omega, B9⟩
              case measure => first | (simp [intOf]; done) | (simp [intOf]; omega)
          · obtain rfl : i = N := by omega
            have hd2 : decide ((i : Int) < (i : Int)) = false := decide_eq_false (by omega)
            have NO1 := Lib.hid (fun (W : World) (hW' : Below u.heap.size u W) => HTL.out.no W (TOW.out W hW') (-1) (.inl rfl))
            have NO2 := Lib.hid (fun (W : World) (hW' : Below u.heap.size u W) => HTL.out.no W (TOW.out W hW') (m : Int) (.inr (by rw [HNN.out.2.1])))
            go_wp2_with fail
            refine (NO1.out _ HBz.out).mono ?_
            rintro e w6 ⟨rfl, hb6⟩
            have B6 := Lib.hid (HBz.out.trans (hb6.mono HBz.out.size))
            clear hb6
            go_wp2_with fail
            refine (NO2.out _ (B6.out.alloc B6.out.size _)).mono ?_
            rintro e w7 ⟨rfl, hb7⟩
            have B7 := Lib.hid (TOW.out w7 ((B6.out.alloc B6.out.size _).trans (hb7.mono (B6.out.alloc B6.out.size _).size)))
            clear hb7
            go_wp2
            go_ret
            exact ⟨rfl, B7.out.alloc B7.out.size _⟩
end Go.Proofs.YtmogoopkjkdkgaaGreat.Vw
