/- The law FoldCopies. -/
import Derived.Test.YtjceeojbnpcpfaaGreatFolTo
import Derived.Test.YtjceeojbnpcpfaaGreatFolU
import Derived.Test.YtjceeojbnpcpfaaGreatFolAp
import Derived.Test.YtjceeojbnpcpfaaGreatFolApS
import Derived.Test.YtjceeojbnpcpfaaGreatFolIn
import Derived.Test.YtjceeojbnpcpfaaGreatOrdReg
namespace Go.Proofs.YtjceeojbnpcpfaaGreat.Fol
open Go Go.RowKit Go.Proofs.YtjceeojbnpcpfaaGreat.Words Go.Proofs.YtjceeojbnpcpfaaGreat.Enc Go.Proofs.YtjceeojbnpcpfaaGreat.Q Go.Proofs.YtjceeojbnpcpfaaGreat.Evt Go.Proofs.YtjceeojbnpcpfaaGreat.Made
set_option linter.unusedVariables false
set_option linter.unusedSimpArgs false

/-- The program's fold and the document's, side by side. -/
structure LawAt (w : World) (S : List Nat) (d mb g : Nat) (La : Option Addr) (lc : Nat) (L : List (Key × RC)) (h : RH) (F : Fo) (j : Nat) : Prop where
  f : FoldAt w S d mb F
  r : RefAt w S La lc L h F
  box : w.heap[g]? = some (.cells (rv La L.length lc h) 33 (0, 0))
  few : Few j F
  gS : g ∈ S
  gd : g ≠ d ∧ g ≠ mb
  lt : ∀ x ∈ S, x < w.heap.size
section
variable {w w' : World} {S : List Nat} {d mb g : Nat} {La : Option Addr} {lc : Nat} {L : List (Key × RC)} {h : RH} {F : Fo} {j : Nat}
theorem LawAt.beside {S1 : List Nat} (l : LawAt w S d mb g La lc L h F j) (hb : Beside S1 w w') (hS : ∀ x ∈ S1, (x ∈ S ∧ x ≠ d ∧ x ≠ mb ∧ x ≠ g) ∨ w.heap.size ≤ x) : LawAt w' S d mb g La lc L h F j :=
  ⟨l.f.beside hb fun x hx => (hS x hx).imp (fun h => ⟨h.1, h.2.1, h.2.2.1⟩) id, l.r.beside hb fun x hx => (hS x hx).imp And.left id,
    (hb.block g (l.lt g l.gS) fun hm => by rcases hS g hm with h | h; exact h.2.2.2 rfl; have := l.lt g l.gS; omega).trans l.box, l.few, l.gS, l.gd, fun x hx => Nat.lt_of_lt_of_le (l.lt x hx) hb.size⟩
theorem LawAt.below (l : LawAt w S d mb g La lc L h F j) (hb : Below w.heap.size w w') : LawAt w' S d mb g La lc L h F j := l.beside (S1 := []) (.of_below hb _) fun x hx => by cases hx
theorem LawAt.ok (l : LawAt w S d mb g La lc L h F j) : Ok F := l.f.ok
theorem LawAt.short (l : LawAt w S d mb g La lc L h F j) (hj : j ≤ 100) : L.length ≤ 100 ∧ F.L.length ≤ 100 := by
  have h1 := l.few.len
  have h2 : L.length = F.L.length := by rw [← l.r.cells, mapV_len]
  omega
/-- What the document's Apply does, in plain cells. -/
theorem refApply_lit (e : Ev) (A : Option Addr) (n c : Nat) (w : World) (Ja : Option Addr) (Jc : Nat) (Ra : Option Addr) (Rc : Nat) (Ha : Option Addr) (Hc tm W0 M : Nat) (n' : Nat) (hn' : n' = L.length) (r : RefAt w S La lc L ⟨Ja, Jc, Ra, Rc, Ha, Hc, tm, W0, M⟩ F) (ok : Ok F) (hs : SeesV w S A (cs e.text)) (hnt : n = e.text.length) (hS : ∀ x ∈ S, x < w.heap.size) (hn : n ≤ 1000000000) (hL : L.length ≤ 1000000) (hfit : e.Fit) (hkl : e.key.size ≤ 9223372036854775807) :
    Calls Tryz.prog 9 #[.agg #[.slice La n' lc, .slice Ja 64 Jc, .slice Ra 64 Rc, .slice Ha 64 Hc, .int .u64 (tm : Int), .int .i64 (W0 : Int), .int .u64 (M : Int)], e.val A n c] w fun e' w' => ∃ (La2 : Option Addr) (lc2 : Nat) (L2 : List (Key × RC)) (Ja2 : Option Addr) (Jc2 : Nat) (Ra2 : Option Addr) (Rc2 : Nat) (Ha2 : Option Addr) (Hc2 tm2 W02 M2 N2 : Nat), e' = .returned (.tuple #[.agg #[.slice La2 N2 lc2, .slice Ja2 64 Jc2, .slice Ra2 64 Rc2, .slice Ha2 64 Hc2, .int .u64 (tm2 : Int), .int .i64 (W02 : Int), .int .u64 (M2 : Int)], .int .i64 (applyE F e : Int)]) ∧ N2 = L2.length ∧ RefAt w' S La2 lc2 L2 ⟨Ja2, Jc2, Ra2, Rc2, Ha2, Hc2, tm2, W02, M2⟩ (applyF F e) ∧ Below w.heap.size w w' := by
  subst hn'
  refine (refApply_any e A n c w r ok hs hnt hS hn hL hfit hkl).mono ?_
  rintro e' w1 ⟨La2, lc2, L2, ⟨Ja2, Jc2, Ra2, Rc2, Ha2, Hc2, tm2, W02, M2⟩, rfl, h1, h2⟩
  exact ⟨La2, lc2, L2, Ja2, Jc2, Ra2, Rc2, Ha2, Hc2, tm2, W02, M2, _, rfl, rfl, h1, h2⟩
end
def PEvG (base : Nat) (e : Ev) : Facts.Pred := ⟨fun v w => ∃ A c, v = e.val A e.text.length c ∧ (∀ S0 : List Nat, (∀ x ∈ S0, x < base) → SeesV w S0 A (cs e.text)) ∧ TextIn w A e.text, fun v w w' ⟨A, c, h, hs, ht⟩ hb => ⟨A, c, h, fun S0 h0 => (hs S0 h0).below hb, ht.below hb⟩⟩

set_option maxRecDepth 100000 in
set_option maxHeartbeats 8000000 in
theorem copies_law (a0 : Nat) (A1 : Option Addr) (n1 c1 : Nat) (l1 : List Pu) (A2 : Option Addr) (n2 c2 : Nat) (l2 : List Pu) (w : World) (h0 : a0 < 256) (h1 : PusIn w A1 l1) (hl1 : l1.length = n1) (h2 : PusIn w A2 l2) (hl2 : l2.length = n2) :
    Calls Tryz.prog 3 #[.int .u8 (a0 : Int), .slice A1 n1 c1, .slice A2 n2 c2] w fun e w' => e = .returned (.bool true) ∧ Below w.heap.size w w' := by
  have hsf := store_float Tryz.prog
  have HP1 := Lib.hid h1
  have HP2 := Lib.hid h2
  have HLEN1 := Lib.hid hl1
  have HLEN2 := Lib.hid hl2
  have AW := Lib.hid (fun (W : World) => awake_any W)
  obtain ⟨nn, hnn⟩ : ∃ nn, nn = a0 % 5 := ⟨_, rfl⟩
  have hnc : (a0 : Int) % 5 = (nn : Int) := by omega
  have hnc2 : (a0 : Int).tmod 5 = (nn : Int) := by rw [Int.tmod_eq_emod_of_nonneg (by omega)]; exact hnc
  have hn5 : nn < 5 := by omega
  have hnw : IntKind.i64.wrap (nn : Int) = (nn : Int) := by rw [IntKind.wrap_i64]; omega
  clear h1 h2 hl1 hl2 hnn
  by_cases hbig : n1 ≤ 30 ∧ n2 ≤ 10
  · obtain ⟨hb30, hb10⟩ := hbig
    have hd30 : decide ((30 : Int) < (n1 : Int)) = false := decide_eq_false (by omega)
    have hd30b : decide ((n1 : Int) > 30) = false := decide_eq_false (by omega)
    have hd10 : decide ((10 : Int) < (n2 : Int)) = false := decide_eq_false (by omega)
    have hd10b : decide ((n2 : Int) > 10) = false := decide_eq_false (by omega)
    go_enter Tryz.func3, Tryz.ntmps3
    go_wp2_with fail
    refine (AW.out _).mono ?_
    rintro e wa ⟨rfl, hba⟩
    have HBA := Lib.hid hba
    have NW := Lib.hid (new_any nn (by omega) wa)
    clear hba
    go_wp2_with fail
    refine NW.out.mono ?_
    rintro e wb ⟨rfl, hfb, hbb⟩
    obtain ⟨d, hdd⟩ : ∃ d, d = wa.heap.size + 1 := ⟨_, rfl⟩
    obtain ⟨mb, hmm⟩ : ∃ d, d = wa.heap.size := ⟨_, rfl⟩
    rw [← hmm] at hdd
    rw [← hmm, ← hdd] at hfb ⊢
    have hltb := hfb.lt
    have HRN := Lib.hid (refNew_any nn (by omega) wb [d, mb] (fun x hx => by simp at hx; omega))
    have HFB := Lib.hid hfb
    have HDM := Lib.hid (And.intro hdd hmm)
    have HBB := Lib.hid hbb
    clear hfb hbb hltb hdd hmm NW
    go_wp2_with fail
    refine HRN.out.mono ?_
    rintro e wc ⟨h, rfl, hrc, hbc⟩
    obtain ⟨Ja, Jc, Ra, Rc, Ha, Hc, tm, W0, M⟩ := h
    have HRC := Lib.hid hrc
    have HBC := Lib.hid hbc
    unfold rv
    clear hrc hbc HRN
    go_wp2_with (first | (refine wpList_putRow rfl 33 (.tmp 8) (.tmp 35) rfl wc.heap.size 33 #[.slice none 0 0, .slice none 0 0, .slice none 0 0, .slice none 0 0, .int .u64 0, .int .i64 0, .int .u64 0] #[.slice none 0 0, .slice Ja 64 Jc, .slice Ra 64 Rc, .slice Ha 64 Hc, .int .u64 (tm : Int), .int .i64 (W0 : Int), .int .u64 (M : Int)] rfl rfl ?g0 (by kernel_rfl) rfl (by simp [Value.oneCell']) ?_))
    case g0 => exact heap_alloc_new wc _
    intro wd gd hbd
    obtain ⟨g8, hg8⟩ : ∃ g, g = wc.heap.size := ⟨_, rfl⟩
    rw [← hg8] at gd hbd ⊢
    have hbd2 : Below wc.heap.size wc wd := Below.beside ((Below.refl wc.heap.size wc).alloc (Nat.le_refl _) _) hbd (by simp) (fun x hx => by rw [List.mem_singleton] at hx; omega)
    obtain ⟨S, hS⟩ : ∃ S, S = [d, mb, g8] := ⟨_, rfl⟩
    have hltb := HFB.out.lt
    have hsz1 := HBC.out.size
    have hgl : g8 < wd.heap.size := (Array.getElem?_eq_some_iff.1 gd).1
    have LA0 : LawAt wd S d mb g8 none 0 [] ⟨Ja, Jc, Ra, Rc, Ha, Hc, tm, W0, M⟩ (newF nn) 0 := by
      have hfc : FoldAt wc S d mb (newF nn) := ((HFB.out.below HBC.out).wider (S1 := S) (fun x hx => by rw [hS]; simp at hx ⊢; omega) (fun x hx => by rw [hS] at hx; simp at hx ⊢; omega))
      have hrc : RefAt wc S none 0 [] ⟨Ja, Jc, Ra, Rc, Ha, Hc, tm, W0, M⟩ (newF nn) := HRC.out.wider (S1 := S) (fun x hx => by rw [hS] at hx; simp at hx ⊢; omega)
      exact ⟨hfc.below hbd2, hrc.below hbd2, gd, few_new nn, by rw [hS]; simp, by omega, fun x hx => by rw [hS] at hx; simp at hx; have := hbd2.size; omega⟩
    have HLA := Lib.hid LA0
    have HWD : Hid (Below w.heap.size w wd) := Lib.hid (by
      have h1 := HBA.out.trans (HBB.out.mono HBA.out.size)
      have h2 := h1.trans (HBC.out.mono h1.size)
      exact h2.trans (hbd2.mono h2.size))
    have HGE : Hid (w.heap.size ≤ d ∧ w.heap.size ≤ mb ∧ w.heap.size ≤ g8) := Lib.hid (by have h1 := HBA.out.size; have h2 := HBB.out.size; have h3 := HDM.out; omega)
    obtain ⟨F0, hF0⟩ : ∃ F0, F0 = newF nn := ⟨_, rfl⟩
    rw [← hF0] at HLA
    clear hg8 hbd hbd2 gd hS hltb hsz1 hgl LA0 hF0 HFB HRC HBB HBC HBA HDM
    go_wp2_with fail
    go_loopw [9, 10] (fun y z wr => ∃ (j : Nat) (La : Option Addr) (lc : Nat) (L : List (Key × RC)) (h : RH), y = .int .i64 (j : Int) ∧ j ≤ n1 ∧ Hid (LawAt wr S d mb g8 La lc L h (runPu F0 (l1.take j)) (0 + j)) ∧ Hid (Below w.heap.size w wr)) (fun y _ _ => n1 - (intOf y).toNat)
    case atStart => exact ⟨0, none, 0, [], ⟨Ja, Jc, Ra, Rc, Ha, Hc, tm, W0, M⟩, rfl, Nat.zero_le _, HLA, HWD⟩
    case round =>
      obtain ⟨j, La, lc, L, ⟨Ja, Jc, Ra, Rc, Ha, Hc, tm, W0, M⟩, rfl, hj, HA, HBw⟩ := hrel
      by_cases hlt : j < n1
      · have hd1 : decide ((j : Int) < (n1 : Int)) = true := decide_eq_true (by omega)
        have hij : (j : Int) < (n1 : Int) := by omega
        have hjb : (j : Int) ≤ 30 := by omega
        obtain ⟨x, hx⟩ : ∃ x, l1[j]? = some x := ⟨_, List.getElem?_eq_getElem (by rw [HLEN1.out]; exact hlt)⟩
        obtain ⟨b, o, rfl, hgood, hcells⟩ := (HP1.out.below (by first | exact HBw.out | exact Below.mono HBw.out (Nat.le_refl _))) j (by rw [HLEN1.out]; exact hlt)
        rw [show l1.getD j default = x by rw [List.getD_eq_getElem?_getD, hx]; rfl] at hgood hcells
        have hA := HA.out
        obtain ⟨F, hF⟩ : ∃ F, F = runPu F0 (l1.take j) := ⟨_, rfl⟩
        rw [← hF] at hA
        obtain ⟨ev, hev⟩ : ∃ ev, ev = x.ev F := ⟨_, rfl⟩
        have hfit : ev.Fit := by rw [hev]; exact pu_fit hgood hA.ok
        have hkz : ev.key.size ≤ 9223372036854775807 := by rw [hev]; show (1 : Nat) ≤ 9223372036854775807; decide
        have htx : ev.text.length ≤ 2 := by rw [hev]; exact pu_text x F
        have PE0 := fun (W : World) (hW : Below wr.heap.size wr W) => putEv_any x hgood W (hA.r.below hW) hA.ok
        rw [← hev] at PE0
        have hstep : applyF F ev = runPu F0 (l1.take (j + 1)) ∧ Few (0 + (j + 1)) (applyF F ev) := ⟨by rw [hev, hF]; exact (runPu_take F0 l1 j hx).symm, by rw [hev]; exact hA.few.step hA.ok x⟩
        obtain ⟨xW, xT, xK, xA, xX⟩ := x
        obtain ⟨ew, sq, et, kd, key, text, num, node⟩ := ev
        simp only [] at hfit hkz htx
        have hfit : (⟨ew, sq, et, kd, key, text, num, node⟩ : Ev).Fit := hfit
        have hkz : key.size ≤ 9223372036854775807 := hkz
        have htx : text.length ≤ 2 := htx
        obtain ⟨n', hnl⟩ : ∃ n', n' = L.length := ⟨_, rfl⟩
        unfold rv at PE0
        rw [← hnl] at PE0
        have hsh := hA.short (by omega)
        have hgxl := hA.lt _ hA.gS
        have hbox := hA.box
        unfold rv at hbox
        rw [← hnl] at hbox
        simp only [] at hbox
        have c5 := fun k v (hv : (Pu.cells ⟨xW, xT, xK, xA, xX⟩)[k]? = some v) => hcells k v hv
        have k0 := c5 0 _ rfl
        have k1 := c5 1 _ rfl
        have k2 := c5 2 _ rfl
        have k3 := c5 3 _ rfl
        have k4 := c5 4 _ rfl
        have PE := Lib.hid (fun (W : World) (hW : Below wr.heap.size wr W) => ((PE0 W hW) : Calls Tryz.prog 7 #[.agg #[.int .u8 (xW : Int), .int .u8 (xT : Int), .int .u8 (xK : Int), .int .u8 (xA : Int), .float .f64 xX], .agg #[.slice La n' lc, .slice Ja 64 Jc, .slice Ra 64 Rc, .slice Ha 64 Hc, .int .u64 (tm : Int), .int .i64 (W0 : Int), .int .u64 (M : Int)]] W fun e w' => ∃ A c, e = .returned (.agg #[.int .i64 ew, .int .u64 (sq : Int), .int .u64 (et : Int), .int .u8 (kd : Int), .string key, .slice A text.length c, .float .f64 num, .int .i64 node]) ∧ ((∀ S0 : List Nat, (∀ x ∈ S0, x < W.heap.size) → SeesV w' S0 A (cs text)) ∧ TextIn w' A text) ∧ Below W.heap.size W w'))
        have HC := Lib.hid (fun (W : World) (hW' : Below wr.drew.heap.size wr.drew W) => (by
          have h := (Below.refl wr.heap.size wr).drew.trans hW'
          have hc : ∀ {k : Nat} {v : Value}, wr.cell? ⟨b, k, none⟩ = some v → W.cell? ⟨b, k, none⟩ = some v := fun hv => (h.cell (p := ⟨b, _, none⟩) (World.block_lt_of_cell? _ _ hv)).trans hv
          exact ⟨⟨hc k0, hc k1, hc k2, hc k3, hc k4⟩, rv_cells (h := ⟨Ja, Jc, Ra, Rc, Ha, Hc, tm, W0, M⟩) ((h.block g8 hgxl).trans hbox), h⟩ :
          (W.cell? ⟨b, o + j * 5, none⟩ = some (.int .u8 (xW : Int)) ∧ W.cell? ⟨b, o + j * 5 + 1, none⟩ = some (.int .u8 (xT : Int)) ∧ W.cell? ⟨b, o + j * 5 + 2, none⟩ = some (.int .u8 (xK : Int)) ∧ W.cell? ⟨b, o + j * 5 + 3, none⟩ = some (.int .u8 (xA : Int)) ∧ W.cell? ⟨b, o + j * 5 + 4, none⟩ = some (.float .f64 xX)) ∧
          (W.cell? ⟨g8, 0, none⟩ = some (.slice La n' lc) ∧ W.cell? ⟨g8, 1, none⟩ = some (.slice Ja 64 Jc) ∧ W.cell? ⟨g8, 2, none⟩ = some (.slice Ra 64 Rc) ∧ W.cell? ⟨g8, 3, none⟩ = some (.slice Ha 64 Hc) ∧ W.cell? ⟨g8, 4, none⟩ = some (.int .u64 (tm : Int)) ∧ W.cell? ⟨g8, 5, none⟩ = some (.int .i64 (W0 : Int)) ∧ W.cell? ⟨g8, 6, none⟩ = some (.int .u64 (M : Int))) ∧ Below wr.heap.size wr W))
        have HA0 := Lib.hid hA
        have HFX := Lib.hid (And.intro hfit (And.intro hkz htx))
        have HST := Lib.hid hstep
        have HN' := Lib.hid hnl
        have HSH := Lib.hid hsh
        clear hA hF hev PE0 hfit hkz htx hstep hnl hbox c5 k0 k1 k2 k3 k4 hcells hgood hx hsh
        go_wp2_with fail
        refine Facts.wp_region_tail 7 (n := 89) (by kernel_rfl) (by kernel_rfl) (by kernel_rfl) rfl [Facts.Pred.is (.slice (some ⟨b, o, none⟩) n1 c1), Facts.Pred.is (.int .i64 (j : Int)), Facts.Pred.is (.pointer (some ⟨b, o + j * 5, none⟩)), Facts.Pred.is (.agg #[.int .u8 (xW : Int), .int .u8 (xT : Int), .int .u8 (xK : Int), .int .u8 (xA : Int), .float .f64 xX]), Facts.Pred.is (.agg #[.slice La n' lc, .slice Ja 64 Jc, .slice Ra 64 Rc, .slice Ha 64 Hc, .int .u64 (tm : Int), .int .i64 (W0 : Int), .int .u64 (M : Int)]), PEvG wr.heap.size (⟨ew, sq, et, kd, key, text, num, node⟩ : Ev), PBox wr.heap.size #[.int .i64 0, .int .u64 0, .int .u64 0, .int .u8 0, .string ⟨#[]⟩, .slice none 0 0, .float .f64 0, .int .i64 0] 38] ?_ ?_
        · refine ⟨?_, ?_, ?_, ?_, ?_, ?_, ?_, trivial⟩
          · refine Facts.step_is (.slice (some ⟨b, o, none⟩) n1 c1) fun a W hR hold hnew => ?_
            have f1 : a.tmps.getD 1 undef = .slice (some ⟨b, o, none⟩) n1 c1 := hold 1 (by kernel_rfl)
            refine ⟨Facts.wanted_free rfl, ?_, fun _ => rfl⟩
            simp [go_sem, Act.eval, f1]
          · refine Facts.step_is (.int .i64 (j : Int)) fun a W hR hold hnew => ?_
            have f9 : a.tmps.getD 9 undef = .int .i64 (j : Int) := hold 9 (by kernel_rfl)
            refine ⟨Facts.wanted_free rfl, ?_, fun _ => rfl⟩
            simp [go_sem, Act.eval, f9]
          · refine Facts.step_is (.pointer (some ⟨b, o + j * 5, none⟩)) fun a W hR hold hnew => ?_
            have f42 : a.tmps.getD 42 undef = .slice (some ⟨b, o, none⟩) n1 c1 := hnew 0 42 (by kernel_rfl)
            have f43 : a.tmps.getD 43 undef = .int .i64 (j : Int) := hnew 1 43 (by kernel_rfl)
            refine ⟨Facts.wanted_free rfl, ?_, fun _ => rfl⟩
            simp [go_sem, Act.eval, f42, f43, hij]
          · refine Facts.step_is (.agg #[.int .u8 (xW : Int), .int .u8 (xT : Int), .int .u8 (xK : Int), .int .u8 (xA : Int), .float .f64 xX]) fun a W hR hold hnew => ?_
            have f44 : a.tmps.getD 44 undef = .pointer (some ⟨b, o + j * 5, none⟩) := hnew 2 44 (by kernel_rfl)
            obtain ⟨q0, q1, q2, q3, q4⟩ := (HC.out W hR).1
            refine ⟨Facts.wanted_free rfl, ?_, fun _ => rfl⟩
            simp [go_sem, Act.eval, f44, q0, q1, q2, q3, q4]
          · refine Facts.step_is (.agg #[.slice La n' lc, .slice Ja 64 Jc, .slice Ra 64 Rc, .slice Ha 64 Hc, .int .u64 (tm : Int), .int .i64 (W0 : Int), .int .u64 (M : Int)]) fun a W hR hold hnew => ?_
            have f8 : a.tmps.getD 8 undef = .pointer (some ⟨g8, 0, none⟩) := hold 8 (by kernel_rfl)
            obtain ⟨q0, q1, q2, q3, q4, q5, q6⟩ := (HC.out W hR).2.1
            refine ⟨Facts.wanted_free rfl, ?_, fun _ => rfl⟩
            simp [go_sem, Act.eval, f8, q0, q1, q2, q3, q4, q5, q6]
          · refine Facts.step_call fun a W hR hold hnew => ?_
            have f45 : a.tmps.getD 45 undef = .agg #[.int .u8 (xW : Int), .int .u8 (xT : Int), .int .u8 (xK : Int), .int .u8 (xA : Int), .float .f64 xX] := hnew 3 45 (by kernel_rfl)
            have f46 : a.tmps.getD 46 undef = .agg #[.slice La n' lc, .slice Ja 64 Jc, .slice Ra 64 Rc, .slice Ha 64 Hc, .int .u64 (tm : Int), .int .i64 (W0 : Int), .int .u64 (M : Int)] := hnew 4 46 (by kernel_rfl)
            refine ⟨Facts.wanted_free rfl, 7, #[.agg #[.int .u8 (xW : Int), .int .u8 (xT : Int), .int .u8 (xK : Int), .int .u8 (xA : Int), .float .f64 xX], .agg #[.slice La n' lc, .slice Ja 64 Jc, .slice Ra 64 Rc, .slice Ha 64 Hc, .int .u64 (tm : Int), .int .i64 (W0 : Int), .int .u64 (M : Int)]], by simp [go_sem, Act.eval, f45, f46], ?_⟩
            refine (PE.out W (HC.out W hR).2.2).mono ?_
            rintro e w8 ⟨A8, c8, rfl, ⟨s8, t8⟩, hb8⟩
            exact ⟨_, rfl, hb8, A8, c8, rfl, fun S0 h0 => s8 S0 fun x hx => Nat.lt_of_lt_of_le (h0 x hx) (HC.out W hR).2.2.size, t8⟩
          · refine Facts.step_new fun a W hR hold hnew => ?_
            exact ⟨Facts.wanted_free rfl, _, _, by simp [go_sem, Act.eval], (Below.refl _ _).alloc (Nat.le_refl _) _, W.heap.size, rfl, (HC.out W hR).2.2.size, heap_alloc_new W _⟩
        · intro a w2 hR' hsize hdef hnew hold
          have h47 : ∃ A' c', a.tmps.getD 47 undef = .agg #[.int .i64 ew, .int .u64 (sq : Int), .int .u64 (et : Int), .int .u8 (kd : Int), .string key, .slice A' text.length c', .float .f64 num, .int .i64 node] ∧ (∀ S0 : List Nat, (∀ x ∈ S0, x < wr.heap.size) → SeesV w2 S0 A' (cs text)) ∧ TextIn w2 A' text := hnew 5 47 (by omega) (by kernel_rfl)
          obtain ⟨A47, c47, f47, s47, t47⟩ := h47
          have h10 : ∃ g, a.tmps.getD 10 undef = .pointer (some ⟨g, 0, none⟩) ∧ wr.heap.size ≤ g ∧ w2.heap[g]? = some (.cells #[.int .i64 0, .int .u64 0, .int .u64 0, .int .u8 0, .string ⟨#[]⟩, .slice none 0 0, .float .f64 0, .int .i64 0] 38 (0, 0)) := hnew 6 10 (by omega) (by kernel_rfl)
          obtain ⟨g10, f10, hg10, hgh10⟩ := h10
          obtain ⟨tm9, df⟩ := a
          have hfr := Ord.frame_region hsize (by rfl) (fun t ht => hold t fun k _ => ht k)
          clear hnew hold
          simp only [List.filterMap_cons, List.filterMap_nil] at hfr
          simp only [List.foldl_cons, List.foldl_nil, List.setIfInBounds_toArray, List.set_cons_succ, List.set_cons_zero] at hfr
          simp only [] at f47 f10 hdef
          rw [f47, f10] at hfr
          clear f47 f10 hsize
          generalize tm9.getD 42 undef = y42 at hfr
          generalize tm9.getD 43 undef = y43 at hfr
          generalize tm9.getD 44 undef = y44 at hfr
          generalize tm9.getD 45 undef = y45 at hfr
          generalize tm9.getD 46 undef = y46 at hfr
          subst hfr
          subst hdef
          simp only [List.drop_succ_cons, List.drop_zero]
          have hbw2 := (HC.out w2 hR').2.2
          have hgl2 := (Array.getElem?_eq_some_iff.1 hgh10).1
          have hsep : ∀ S0 : List Nat, (∀ x ∈ S0, x < wr.heap.size) → SeesV w2 (g10 :: S0) A47 (cs text) := fun S0 hS0 hne => by
            obtain ⟨b1, o1, e1, e2, e3⟩ := s47 S0 hS0 hne
            refine ⟨b1, o1, e1, fun hm => ?_, e3⟩
            rcases List.mem_cons.1 hm with hm | hm
            · obtain ⟨g', cur, fr, q1, q2⟩ := t47 (by rcases Nat.eq_zero_or_pos text.length with h | h; exact absurd (by rw [List.eq_nil_of_length_eq_zero h]; rfl) hne; exact h)
              rw [e1] at q1
              injection q1 with q1
              injection q1 with q1 _
              rw [← q1, hm, hgh10] at q2
              injection q2 with q2
              injection q2 with _ q2 _
              exact absurd q2 (by decide)
            · exact e2 hm
          have HB2 := Lib.hid hbw2
          have HG10 := Lib.hid hg10
          have HSEP := Lib.hid hsep
          clear hR' hbw2 hg10 s47 t47 hsep HC PE
          go_wp2_with (first | (refine wpList_putRow rfl 38 (.tmp 10) (.tmp 47) rfl g10 38 #[.int .i64 0, .int .u64 0, .int .u64 0, .int .u8 0, .string ⟨#[]⟩, .slice none 0 0, .float .f64 0, .int .i64 0] #[.int .i64 ew, .int .u64 (sq : Int), .int .u64 (et : Int), .int .u8 (kd : Int), .string key, .slice A47 text.length c47, .float .f64 num, .int .i64 node] rfl rfl hgh10 (by kernel_rfl) rfl (by simp [Value.oneCell']) ?_))
          intro w3 g3 hb3
          have hB3 : Below wr.heap.size wr w3 := Below.beside HB2.out hb3 HB2.out.size (fun x hx => by rw [List.mem_singleton] at hx; rw [hx]; exact HG10.out)
          have hS3 : SeesV w3 S A47 (cs text) := (((HSEP.out S HA0.out.lt).beside hb3 (fun x hx => .inl (by rw [List.mem_singleton] at hx; rw [hx]; exact List.mem_cons_self))).wider fun x hx => .inl (List.mem_cons_of_mem _ hx))
          have hA3 := HA0.out.below hB3
          have HB3 := Lib.hid hB3
          have HS3 := Lib.hid hS3
          have HA3 := Lib.hid hA3
          have HG3 := Lib.hid g3
          have hseeb : Sees w3 A47 text.length text := sees_ofV hS3
          have AP := Lib.hid (apply_any (⟨ew, sq, et, kd, key, text, num, node⟩ : Ev) A47 text.length c47 w3 hA3.f hseeb (fun hn0 a ha hm => by
            obtain ⟨b1, o1, e1, e2, _⟩ := hS3 (by intro e; have h5 := congrArg List.length e; rw [cs_length] at h5; have h6 : text.length = 0 := h5; omega)
            rw [ha] at e1
            injection e1 with e1
            rw [e1] at hm
            rcases List.mem_cons.1 hm with hm | hm
            · have hm' : b1 = d := hm
              rw [hm'] at e2; exact e2 hA3.f.dS
            · rw [List.mem_singleton] at hm
              have hm' : b1 = mb := hm
              rw [hm'] at e2; exact e2 hA3.f.mS) hA3.lt (by have := HSH.out.2; omega) (by have := HFX.out.2.2; omega) HFX.out.1 HFX.out.2.1)
          obtain ⟨e0, e1, e2, e3, e4, e5, e6, e7⟩ := box8 g3
          clear hB3 hS3 hA3 hseeb g3 hb3 hgh10
          go_wp2_with fail
          refine AP.out.mono ?_
          rintro e w4 ⟨rfl, hF4, hb4⟩
          have hg43 : g10 ∉ [d, mb] := fun hm => by
            have h1 := HA0.out.f.lt
            have h2 := HG10.out
            simp at hm
            omega
          have hg4 := (hb4.block g10 (Array.getElem?_eq_some_iff.1 HG3.out).1 hg43).trans HG3.out
          have hbx4 := (hb4.block g8 (HA3.out.lt _ HA3.out.gS) (fun hm => by have := HA3.out.gd; simp at hm; omega)).trans HA3.out.box
          unfold rv at hbx4
          rw [← HN'.out] at hbx4
          simp only [] at hbx4
          have hS14 : ∀ x ∈ [d, mb], x ∈ S ∨ w3.heap.size ≤ x := fun x hx => by
            simp at hx
            rcases hx with rfl | rfl
            · exact .inl HA3.out.f.dS
            · exact .inl HA3.out.f.mS
          have hR4 := HA3.out.r.beside hb4 hS14
          have hS4 := HS3.out.beside hb4 hS14
          have RA := Lib.hid (refApply_lit (⟨ew, sq, et, kd, key, text, num, node⟩ : Ev) A47 text.length c47 w4 Ja Jc Ra Rc Ha Hc tm W0 M n' HN'.out hR4 HA3.out.ok hS4 rfl (fun x hx => Nat.lt_of_lt_of_le (HA3.out.lt x hx) hb4.size) (by have := HFX.out.2.2; omega) (by have := HSH.out.1; omega) HFX.out.1 HFX.out.2.1)
          have HF4 := Lib.hid hF4
          have HB4 := Lib.hid hb4
          have HG4 := Lib.hid hg4
          have HX4 := Lib.hid hbx4
          clear e0 e1 e2 e3 e4 e5 e6 e7
          obtain ⟨e0, e1, e2, e3, e4, e5, e6, e7⟩ := box8 hg4
          obtain ⟨r0, r1, r2, r3, r4, r5, r6⟩ := rv_cells (h := ⟨Ja, Jc, Ra, Rc, Ha, Hc, tm, W0, M⟩) hbx4
          clear hF4 hb4 hg4 hbx4 hS14 hR4 hS4 hg43 AP
          go_wp2_with fail
          refine RA.out.mono ?_
          rintro e w5 ⟨La2, lc2, L2, Ja2, Jc2, Ra2, Rc2, Ha2, Hc2, tm2, W02, M2, N2, rfl, hN2, hR5, hb5⟩
          have hgx5 := (hb5.block g8 (Nat.lt_of_lt_of_le (HA3.out.lt _ HA3.out.gS) HB4.out.size)).trans HX4.out
          have HR5 := Lib.hid (And.intro hR5 hN2)
          have HB5 := Lib.hid hb5
          clear hR5 hN2 hb5 RA e0 e1 e2 e3 e4 e5 e6 e7 r0 r1 r2 r3 r4 r5 r6
          go_wp2_with (first | (refine wpList_putRow rfl 33 (.tmp 8) (.tmp 55) rfl g8 33 #[.slice La n' lc, .slice Ja 64 Jc, .slice Ra 64 Rc, .slice Ha 64 Hc, .int .u64 (tm : Int), .int .i64 (W0 : Int), .int .u64 (M : Int)] #[.slice La2 N2 lc2, .slice Ja2 64 Jc2, .slice Ra2 64 Rc2, .slice Ha2 64 Hc2, .int .u64 (tm2 : Int), .int .i64 (W02 : Int), .int .u64 (M2 : Int)] rfl rfl hgx5 (by kernel_rfl) rfl (by simp [Value.oneCell']) ?_))
          intro w6 g6 hb6
          have hF6 := (HF4.out.below HB5.out).beside hb6 (fun x hx => by
            rw [List.mem_singleton] at hx
            rw [hx]
            exact .inl ⟨HA3.out.gS, HA3.out.gd.1, HA3.out.gd.2⟩)
          have hR6 := HR5.out.1.beside hb6 (fun x hx => by
            rw [List.mem_singleton] at hx
            rw [hx]
            exact .inl HA3.out.gS)
          have hgrow : wr.heap.size ≤ w6.heap.size := Nat.le_trans HB3.out.size (Nat.le_trans HB4.out.size (Nat.le_trans HB5.out.size hb6.size))
          have hL6 : LawAt w6 S d mb g8 La2 lc2 L2 ⟨Ja2, Jc2, Ra2, Rc2, Ha2, Hc2, tm2, W02, M2⟩ (runPu F0 (l1.take (j + 1))) (0 + (j + 1)) := by
            rw [← HST.out.1]
            exact ⟨hF6, hR6, by unfold rv; rw [← HR5.out.2]; exact g6, HST.out.2, HA3.out.gS, HA3.out.gd, fun x hx => Nat.lt_of_lt_of_le (HA0.out.lt x hx) hgrow⟩
          have HL6 := Lib.hid hL6
          have hW6 : Below w.heap.size w w6 := by
            have h3 := HBw.out.trans (HB3.out.mono HBw.out.size)
            have h4 := Below.beside h3 HB4.out h3.size (fun x hx => by have := HGE.out; simp at hx; omega)
            have h5 := h4.trans (HB5.out.mono h4.size)
            exact Below.beside h5 hb6 h5.size (fun x hx => by have := HGE.out; rw [List.mem_singleton] at hx; omega)
          have HW6 := Lib.hid hW6
          clear hL6 hW6 hgrow hF6 hR6 g6 hb6 hgx5
          go_wp2
          go_roundw
          case rel => exact ⟨j + 1, La2, lc2, L2, ⟨Ja2, Jc2, Ra2, Rc2, Ha2, Hc2, tm2, W02, M2⟩, by simp, by omega, HL6, HW6⟩
          case measure => simp [intOf]; omega
      · obtain rfl : j = n1 := by omega
        have hd1 : decide ((j : Int) < (j : Int)) = false := decide_eq_false (by omega)
        obtain ⟨F1, hF1⟩ : ∃ F1, F1 = runPu F0 (l1.take j) := ⟨_, rfl⟩
        have hA := HA.out
        rw [← hF1] at hA
        have hFew : Few 30 F1 := ⟨Nat.le_trans hA.few.len (by omega), hA.few.key, hA.few.text⟩
        have CP := Lib.hid (copy_any S d mb F1 wr hA.f)
        obtain ⟨n', hnl⟩ : ∃ n', n' = L.length := ⟨_, rfl⟩
        have HA1 := Lib.hid hA
        have HFEW := Lib.hid hFew
        have HN' := Lib.hid hnl
        clear hA hFew hF1 hnl HA
        go_wp2_with fail
        refine CP.out.mono ?_
        rintro e we ⟨d2, mb2, rfl, hd2, hmb2, hfe, hbe⟩
        have hbx := (hbe.block g8 (HA1.out.lt _ HA1.out.gS)).trans HA1.out.box
        unfold rv at hbx
        rw [← HN'.out] at hbx
        simp only [] at hbx
        obtain ⟨r0, r1, r2, r3, r4, r5, r6⟩ := rv_cells (h := ⟨Ja, Jc, Ra, Rc, Ha, Hc, tm, W0, M⟩) hbx
        have HFE := Lib.hid (And.intro hfe (And.intro hd2 hmb2))
        have HBE := Lib.hid hbe
        clear hfe hd2 hmb2 hbe CP
        have hba : ∀ o, (we.alloc o).heap[g8]? = some (.cells #[.slice La n' lc, .slice Ja 64 Jc, .slice Ra 64 Rc, .slice Ha 64 Hc, .int .u64 (tm : Int), .int .i64 (W0 : Int), .int .u64 (M : Int)] 33 (0, 0)) := fun o => (Below.heap_alloc _ _ _ (Array.getElem?_eq_some_iff.1 hbx).1).trans hbx
        go_wp2_with (first | (refine wpList_putRow rfl 33 (.tmp 12) (.tmp 59) rfl we.heap.size 33 #[.slice none 0 0, .slice none 0 0, .slice none 0 0, .slice none 0 0, .int .u64 0, .int .i64 0, .int .u64 0] #[.slice La n' lc, .slice Ja 64 Jc, .slice Ra 64 Rc, .slice Ha 64 Hc, .int .u64 (tm : Int), .int .i64 (W0 : Int), .int .u64 (M : Int)] rfl rfl ?g0 (by kernel_rfl) rfl (by simp [Value.oneCell']) ?_))
        case g0 => exact heap_alloc_new we _
        intro wf gf hbf
        obtain ⟨g12, hg12⟩ : ∃ g, g = we.heap.size := ⟨_, rfl⟩
        rw [← hg12] at gf hbf ⊢
        have hbf2 : Below we.heap.size we wf := Below.beside ((Below.refl we.heap.size we).alloc (Nat.le_refl _) _) hbf (by simp) (fun x hx => by rw [List.mem_singleton] at hx; omega)
        obtain ⟨S2, hS2⟩ : ∃ S2, S2 = g12 :: d2 :: mb2 :: S := ⟨_, rfl⟩
        have hltd := HFE.out.1.lt
        have hlt0 := HA1.out.lt
        have hwe := HBE.out.size
        have hg12l : g12 < wf.heap.size := (Array.getElem?_eq_some_iff.1 gf).1
        have h3 := HFE.out.2
        have hnew : ∀ x ∈ S2, x ∈ S ∨ wr.heap.size ≤ x := fun x hx => by
          rw [hS2] at hx
          simp only [List.mem_cons] at hx
          rcases hx with rfl | rfl | rfl | hx
          · right; omega
          · right; omega
          · right; omega
          · exact .inl hx
        have hin : ∀ x ∈ S, x ∈ S2 := fun x hx => by rw [hS2]; simp [hx]
        have hlt2 : ∀ x ∈ S2, x < wf.heap.size := fun x hx => by
          have := hbf2.size
          rw [hS2] at hx
          simp only [List.mem_cons] at hx
          rcases hx with rfl | rfl | rfl | hx
          · omega
          · omega
          · omega
          · have := hlt0 x hx; omega
        have hRf : RefAt wf S2 La lc L ⟨Ja, Jc, Ra, Rc, Ha, Hc, tm, W0, M⟩ F1 := ((HA1.out.r.wider hnew).below HBE.out).below hbf2
        have LA1 : LawAt wf S2 d mb g8 La lc L ⟨Ja, Jc, Ra, Rc, Ha, Hc, tm, W0, M⟩ F1 30 :=
          ⟨((HA1.out.f.wider hin hnew).below HBE.out).below hbf2, hRf, by unfold rv; rw [← HN'.out]; exact (hbf2.block g8 (Array.getElem?_eq_some_iff.1 hbx).1).trans hbx, HFEW.out, hin _ HA1.out.gS, HA1.out.gd, hlt2⟩
        have LA2 : LawAt wf S2 d2 mb2 g12 La lc L ⟨Ja, Jc, Ra, Rc, Ha, Hc, tm, W0, M⟩ F1 30 :=
          ⟨(HFE.out.1.wider (S1 := S2) (fun x hx => by rw [hS2]; exact List.mem_cons_of_mem _ hx) (fun x hx => by
            rw [hS2] at hx
            rcases List.mem_cons.1 hx with rfl | hx
            · right; omega
            · exact .inl hx)).below hbf2, hRf, by unfold rv; rw [← HN'.out]; exact gf, HFEW.out, by rw [hS2]; simp, by omega, hlt2⟩
        have hz1 := hlt0 _ HA1.out.f.dS
        have hz2 := hlt0 _ HA1.out.f.mS
        have hz3 := hlt0 _ HA1.out.gS
        have HDD : Hid (d2 ≠ d ∧ d2 ≠ mb ∧ d2 ≠ g8 ∧ mb2 ≠ d ∧ mb2 ≠ mb ∧ mb2 ≠ g8 ∧ g12 ≠ d ∧ g12 ≠ mb ∧ g12 ≠ g8) := Lib.hid (by omega)
        have HWF : Hid (Below w.heap.size w wf) := Lib.hid (by
          have h1 := HBw.out.trans (HBE.out.mono HBw.out.size)
          exact h1.trans (hbf2.mono h1.size))
        have HGE : Hid (w.heap.size ≤ d2 ∧ w.heap.size ≤ mb2 ∧ w.heap.size ≤ g12) := Lib.hid (by have h1 := HBw.out.size; omega)
        have HLA2 := Lib.hid LA2
        have HLA1 := Lib.hid LA1
        obtain ⟨La1, hLa1⟩ : ∃ a, a = La := ⟨_, rfl⟩
        obtain ⟨lc1, hlc1⟩ : ∃ a, a = lc := ⟨_, rfl⟩
        obtain ⟨L1, hL1⟩ : ∃ a, a = L := ⟨_, rfl⟩
        obtain ⟨h1, hh1⟩ : ∃ a : RH, a = ⟨Ja, Jc, Ra, Rc, Ha, Hc, tm, W0, M⟩ := ⟨_, rfl⟩
        have HLA1 : Hid (LawAt wf S2 d mb g8 La1 lc1 L1 h1 F1 30) := Lib.hid (by rw [hLa1, hlc1, hL1, hh1]; exact HLA1.out)
        clear LA1 LA2 hz1 hz2 hz3 hlt0 hlt2 hin hnew hRf hS2 hltd hwe hg12l h3 hg12 gf hbf hbf2 hba hbx r0 r1 r2 r3 r4 r5 r6 hLa1 hlc1 hL1 hh1 HBw HA1 HFE HBE
        go_wp2_with fail
        go_loopw [13, 14] (fun y z wr => ∃ (j : Nat) (La : Option Addr) (lc : Nat) (L : List (Key × RC)) (h : RH), y = .int .i64 (j : Int) ∧ j ≤ n2 ∧ Hid (LawAt wr S2 d2 mb2 g12 La lc L h (runPu F1 (l2.take j)) (30 + j)) ∧ Hid (LawAt wr S2 d mb g8 La1 lc1 L1 h1 F1 30) ∧ Hid (Below w.heap.size w wr)) (fun y _ _ => n2 - (intOf y).toNat)
        case atStart => exact ⟨0, La, lc, L, ⟨Ja, Jc, Ra, Rc, Ha, Hc, tm, W0, M⟩, rfl, Nat.zero_le _, HLA2, HLA1, HWF⟩
        case round =>
          obtain ⟨j, La, lc, L, ⟨Ja, Jc, Ra, Rc, Ha, Hc, tm, W0, M⟩, rfl, hj, HA, HO, HBw⟩ := hrel
          by_cases hlt : j < n2
          · have hd1 : decide ((j : Int) < (n2 : Int)) = true := decide_eq_true (by omega)
            have hij : (j : Int) < (n2 : Int) := by omega
            have hjb : (j : Int) ≤ 30 := by omega
            obtain ⟨x, hx⟩ : ∃ x, l2[j]? = some x := ⟨_, List.getElem?_eq_getElem (by rw [HLEN2.out]; exact hlt)⟩
            obtain ⟨b, o, rfl, hgood, hcells⟩ := (HP2.out.below (by first | exact HBw.out | exact Below.mono HBw.out (Nat.le_refl _))) j (by rw [HLEN2.out]; exact hlt)
            rw [show l2.getD j default = x by rw [List.getD_eq_getElem?_getD, hx]; rfl] at hgood hcells
            have hA := HA.out
            obtain ⟨F, hF⟩ : ∃ F, F = runPu F1 (l2.take j) := ⟨_, rfl⟩
            rw [← hF] at hA
            obtain ⟨ev, hev⟩ : ∃ ev, ev = x.ev F := ⟨_, rfl⟩
            have hfit : ev.Fit := by rw [hev]; exact pu_fit hgood hA.ok
            have hkz : ev.key.size ≤ 9223372036854775807 := by rw [hev]; show (1 : Nat) ≤ 9223372036854775807; decide
            have htx : ev.text.length ≤ 2 := by rw [hev]; exact pu_text x F
            have PE0 := fun (W : World) (hW : Below wr.heap.size wr W) => putEv_any x hgood W (hA.r.below hW) hA.ok
            rw [← hev] at PE0
            have hstep : applyF F ev = runPu F1 (l2.take (j + 1)) ∧ Few (30 + (j + 1)) (applyF F ev) := ⟨by rw [hev, hF]; exact (runPu_take F1 l2 j hx).symm, by rw [hev]; exact hA.few.step hA.ok x⟩
            obtain ⟨xW, xT, xK, xA, xX⟩ := x
            obtain ⟨ew, sq, et, kd, key, text, num, node⟩ := ev
            simp only [] at hfit hkz htx
            have hfit : (⟨ew, sq, et, kd, key, text, num, node⟩ : Ev).Fit := hfit
            have hkz : key.size ≤ 9223372036854775807 := hkz
            have htx : text.length ≤ 2 := htx
            obtain ⟨n', hnl⟩ : ∃ n', n' = L.length := ⟨_, rfl⟩
            unfold rv at PE0
            rw [← hnl] at PE0
            have hsh := hA.short (by omega)
            have hgxl := hA.lt _ hA.gS
            have hbox := hA.box
            unfold rv at hbox
            rw [← hnl] at hbox
            simp only [] at hbox
            have c5 := fun k v (hv : (Pu.cells ⟨xW, xT, xK, xA, xX⟩)[k]? = some v) => hcells k v hv
            have k0 := c5 0 _ rfl
            have k1 := c5 1 _ rfl
            have k2 := c5 2 _ rfl
            have k3 := c5 3 _ rfl
            have k4 := c5 4 _ rfl
            have PE := Lib.hid (fun (W : World) (hW : Below wr.heap.size wr W) => ((PE0 W hW) : Calls Tryz.prog 7 #[.agg #[.int .u8 (xW : Int), .int .u8 (xT : Int), .int .u8 (xK : Int), .int .u8 (xA : Int), .float .f64 xX], .agg #[.slice La n' lc, .slice Ja 64 Jc, .slice Ra 64 Rc, .slice Ha 64 Hc, .int .u64 (tm : Int), .int .i64 (W0 : Int), .int .u64 (M : Int)]] W fun e w' => ∃ A c, e = .returned (.agg #[.int .i64 ew, .int .u64 (sq : Int), .int .u64 (et : Int), .int .u8 (kd : Int), .string key, .slice A text.length c, .float .f64 num, .int .i64 node]) ∧ ((∀ S0 : List Nat, (∀ x ∈ S0, x < W.heap.size) → SeesV w' S0 A (cs text)) ∧ TextIn w' A text) ∧ Below W.heap.size W w'))
            have HC := Lib.hid (fun (W : World) (hW' : Below wr.drew.heap.size wr.drew W) => (by
              have h := (Below.refl wr.heap.size wr).drew.trans hW'
              have hc : ∀ {k : Nat} {v : Value}, wr.cell? ⟨b, k, none⟩ = some v → W.cell? ⟨b, k, none⟩ = some v := fun hv => (h.cell (p := ⟨b, _, none⟩) (World.block_lt_of_cell? _ _ hv)).trans hv
              exact ⟨⟨hc k0, hc k1, hc k2, hc k3, hc k4⟩, rv_cells (h := ⟨Ja, Jc, Ra, Rc, Ha, Hc, tm, W0, M⟩) ((h.block g12 hgxl).trans hbox), h⟩ :
              (W.cell? ⟨b, o + j * 5, none⟩ = some (.int .u8 (xW : Int)) ∧ W.cell? ⟨b, o + j * 5 + 1, none⟩ = some (.int .u8 (xT : Int)) ∧ W.cell? ⟨b, o + j * 5 + 2, none⟩ = some (.int .u8 (xK : Int)) ∧ W.cell? ⟨b, o + j * 5 + 3, none⟩ = some (.int .u8 (xA : Int)) ∧ W.cell? ⟨b, o + j * 5 + 4, none⟩ = some (.float .f64 xX)) ∧
              (W.cell? ⟨g12, 0, none⟩ = some (.slice La n' lc) ∧ W.cell? ⟨g12, 1, none⟩ = some (.slice Ja 64 Jc) ∧ W.cell? ⟨g12, 2, none⟩ = some (.slice Ra 64 Rc) ∧ W.cell? ⟨g12, 3, none⟩ = some (.slice Ha 64 Hc) ∧ W.cell? ⟨g12, 4, none⟩ = some (.int .u64 (tm : Int)) ∧ W.cell? ⟨g12, 5, none⟩ = some (.int .i64 (W0 : Int)) ∧ W.cell? ⟨g12, 6, none⟩ = some (.int .u64 (M : Int))) ∧ Below wr.heap.size wr W))
            have HA0 := Lib.hid hA
            have HFX := Lib.hid (And.intro hfit (And.intro hkz htx))
            have HST := Lib.hid hstep
            have HN' := Lib.hid hnl
            have HSH := Lib.hid hsh
            clear hA hF hev PE0 hfit hkz htx hstep hnl hbox c5 k0 k1 k2 k3 k4 hcells hgood hx hsh
            go_wp2_with fail
            refine Facts.wp_region_tail 7 (n := 89) (by kernel_rfl) (by kernel_rfl) (by kernel_rfl) rfl [Facts.Pred.is (.slice (some ⟨b, o, none⟩) n2 c2), Facts.Pred.is (.int .i64 (j : Int)), Facts.Pred.is (.pointer (some ⟨b, o + j * 5, none⟩)), Facts.Pred.is (.agg #[.int .u8 (xW : Int), .int .u8 (xT : Int), .int .u8 (xK : Int), .int .u8 (xA : Int), .float .f64 xX]), Facts.Pred.is (.agg #[.slice La n' lc, .slice Ja 64 Jc, .slice Ra 64 Rc, .slice Ha 64 Hc, .int .u64 (tm : Int), .int .i64 (W0 : Int), .int .u64 (M : Int)]), PEvG wr.heap.size (⟨ew, sq, et, kd, key, text, num, node⟩ : Ev), PBox wr.heap.size #[.int .i64 0, .int .u64 0, .int .u64 0, .int .u8 0, .string ⟨#[]⟩, .slice none 0 0, .float .f64 0, .int .i64 0] 38] ?_ ?_
            · refine ⟨?_, ?_, ?_, ?_, ?_, ?_, ?_, trivial⟩
              · refine Facts.step_is (.slice (some ⟨b, o, none⟩) n2 c2) fun a W hR hold hnew => ?_
                have f2 : a.tmps.getD 2 undef = .slice (some ⟨b, o, none⟩) n2 c2 := hold 2 (by kernel_rfl)
                refine ⟨Facts.wanted_free rfl, ?_, fun _ => rfl⟩
                simp [go_sem, Act.eval, f2]
              · refine Facts.step_is (.int .i64 (j : Int)) fun a W hR hold hnew => ?_
                have f13 : a.tmps.getD 13 undef = .int .i64 (j : Int) := hold 13 (by kernel_rfl)
                refine ⟨Facts.wanted_free rfl, ?_, fun _ => rfl⟩
                simp [go_sem, Act.eval, f13]
              · refine Facts.step_is (.pointer (some ⟨b, o + j * 5, none⟩)) fun a W hR hold hnew => ?_
                have f66 : a.tmps.getD 66 undef = .slice (some ⟨b, o, none⟩) n2 c2 := hnew 0 66 (by kernel_rfl)
                have f67 : a.tmps.getD 67 undef = .int .i64 (j : Int) := hnew 1 67 (by kernel_rfl)
                refine ⟨Facts.wanted_free rfl, ?_, fun _ => rfl⟩
                simp [go_sem, Act.eval, f66, f67, hij]
              · refine Facts.step_is (.agg #[.int .u8 (xW : Int), .int .u8 (xT : Int), .int .u8 (xK : Int), .int .u8 (xA : Int), .float .f64 xX]) fun a W hR hold hnew => ?_
                have f68 : a.tmps.getD 68 undef = .pointer (some ⟨b, o + j * 5, none⟩) := hnew 2 68 (by kernel_rfl)
                obtain ⟨q0, q1, q2, q3, q4⟩ := (HC.out W hR).1
                refine ⟨Facts.wanted_free rfl, ?_, fun _ => rfl⟩
                simp [go_sem, Act.eval, f68, q0, q1, q2, q3, q4]
              · refine Facts.step_is (.agg #[.slice La n' lc, .slice Ja 64 Jc, .slice Ra 64 Rc, .slice Ha 64 Hc, .int .u64 (tm : Int), .int .i64 (W0 : Int), .int .u64 (M : Int)]) fun a W hR hold hnew => ?_
                have f12 : a.tmps.getD 12 undef = .pointer (some ⟨g12, 0, none⟩) := hold 12 (by kernel_rfl)
                obtain ⟨q0, q1, q2, q3, q4, q5, q6⟩ := (HC.out W hR).2.1
                refine ⟨Facts.wanted_free rfl, ?_, fun _ => rfl⟩
                simp [go_sem, Act.eval, f12, q0, q1, q2, q3, q4, q5, q6]
              · refine Facts.step_call fun a W hR hold hnew => ?_
                have f69 : a.tmps.getD 69 undef = .agg #[.int .u8 (xW : Int), .int .u8 (xT : Int), .int .u8 (xK : Int), .int .u8 (xA : Int), .float .f64 xX] := hnew 3 69 (by kernel_rfl)
                have f70 : a.tmps.getD 70 undef = .agg #[.slice La n' lc, .slice Ja 64 Jc, .slice Ra 64 Rc, .slice Ha 64 Hc, .int .u64 (tm : Int), .int .i64 (W0 : Int), .int .u64 (M : Int)] := hnew 4 70 (by kernel_rfl)
                refine ⟨Facts.wanted_free rfl, 7, #[.agg #[.int .u8 (xW : Int), .int .u8 (xT : Int), .int .u8 (xK : Int), .int .u8 (xA : Int), .float .f64 xX], .agg #[.slice La n' lc, .slice Ja 64 Jc, .slice Ra 64 Rc, .slice Ha 64 Hc, .int .u64 (tm : Int), .int .i64 (W0 : Int), .int .u64 (M : Int)]], by simp [go_sem, Act.eval, f69, f70], ?_⟩
                refine (PE.out W (HC.out W hR).2.2).mono ?_
                rintro e w8 ⟨A8, c8, rfl, ⟨s8, t8⟩, hb8⟩
                exact ⟨_, rfl, hb8, A8, c8, rfl, fun S0 h0 => s8 S0 fun x hx => Nat.lt_of_lt_of_le (h0 x hx) (HC.out W hR).2.2.size, t8⟩
              · refine Facts.step_new fun a W hR hold hnew => ?_
                exact ⟨Facts.wanted_free rfl, _, _, by simp [go_sem, Act.eval], (Below.refl _ _).alloc (Nat.le_refl _) _, W.heap.size, rfl, (HC.out W hR).2.2.size, heap_alloc_new W _⟩
            · intro a w2 hR' hsize hdef hnew hold
              have h71 : ∃ A' c', a.tmps.getD 71 undef = .agg #[.int .i64 ew, .int .u64 (sq : Int), .int .u64 (et : Int), .int .u8 (kd : Int), .string key, .slice A' text.length c', .float .f64 num, .int .i64 node] ∧ (∀ S0 : List Nat, (∀ x ∈ S0, x < wr.heap.size) → SeesV w2 S0 A' (cs text)) ∧ TextIn w2 A' text := hnew 5 71 (by omega) (by kernel_rfl)
              obtain ⟨A47, c47, f71, s47, t47⟩ := h71
              have h14 : ∃ g, a.tmps.getD 14 undef = .pointer (some ⟨g, 0, none⟩) ∧ wr.heap.size ≤ g ∧ w2.heap[g]? = some (.cells #[.int .i64 0, .int .u64 0, .int .u64 0, .int .u8 0, .string ⟨#[]⟩, .slice none 0 0, .float .f64 0, .int .i64 0] 38 (0, 0)) := hnew 6 14 (by omega) (by kernel_rfl)
              obtain ⟨g10, f14, hg10, hgh10⟩ := h14
              obtain ⟨tm9, df⟩ := a
              have hfr := Ord.frame_region hsize (by rfl) (fun t ht => hold t fun k _ => ht k)
              clear hnew hold
              simp only [List.filterMap_cons, List.filterMap_nil] at hfr
              simp only [List.foldl_cons, List.foldl_nil, List.setIfInBounds_toArray, List.set_cons_succ, List.set_cons_zero] at hfr
              simp only [] at f71 f14 hdef
              rw [f71, f14] at hfr
              clear f71 f14 hsize
              generalize tm9.getD 66 undef = y66 at hfr
              generalize tm9.getD 67 undef = y67 at hfr
              generalize tm9.getD 68 undef = y68 at hfr
              generalize tm9.getD 69 undef = y69 at hfr
              generalize tm9.getD 70 undef = y70 at hfr
              subst hfr
              subst hdef
              simp only [List.drop_succ_cons, List.drop_zero]
              have hbw2 := (HC.out w2 hR').2.2
              have hgl2 := (Array.getElem?_eq_some_iff.1 hgh10).1
              have hsep : ∀ S0 : List Nat, (∀ x ∈ S0, x < wr.heap.size) → SeesV w2 (g10 :: S0) A47 (cs text) := fun S0 hS0 hne => by
                obtain ⟨b1, o1, e1, e2, e3⟩ := s47 S0 hS0 hne
                refine ⟨b1, o1, e1, fun hm => ?_, e3⟩
                rcases List.mem_cons.1 hm with hm | hm
                · obtain ⟨g', cur, fr, q1, q2⟩ := t47 (by rcases Nat.eq_zero_or_pos text.length with h | h; exact absurd (by rw [List.eq_nil_of_length_eq_zero h]; rfl) hne; exact h)
                  rw [e1] at q1
                  injection q1 with q1
                  injection q1 with q1 _
                  rw [← q1, hm, hgh10] at q2
                  injection q2 with q2
                  injection q2 with _ q2 _
                  exact absurd q2 (by decide)
                · exact e2 hm
              have HB2 := Lib.hid hbw2
              have HG10 := Lib.hid hg10
              have HSEP := Lib.hid hsep
              clear hR' hbw2 hg10 s47 t47 hsep HC PE
              go_wp2_with (first | (refine wpList_putRow rfl 38 (.tmp 14) (.tmp 71) rfl g10 38 #[.int .i64 0, .int .u64 0, .int .u64 0, .int .u8 0, .string ⟨#[]⟩, .slice none 0 0, .float .f64 0, .int .i64 0] #[.int .i64 ew, .int .u64 (sq : Int), .int .u64 (et : Int), .int .u8 (kd : Int), .string key, .slice A47 text.length c47, .float .f64 num, .int .i64 node] rfl rfl hgh10 (by kernel_rfl) rfl (by simp [Value.oneCell']) ?_))
              intro w3 g3 hb3
              have hB3 : Below wr.heap.size wr w3 := Below.beside HB2.out hb3 HB2.out.size (fun x hx => by rw [List.mem_singleton] at hx; rw [hx]; exact HG10.out)
              have hS3 : SeesV w3 S2 A47 (cs text) := (((HSEP.out S2 HA0.out.lt).beside hb3 (fun x hx => .inl (by rw [List.mem_singleton] at hx; rw [hx]; exact List.mem_cons_self))).wider fun x hx => .inl (List.mem_cons_of_mem _ hx))
              have hA3 := HA0.out.below hB3
              have HB3 := Lib.hid hB3
              have HS3 := Lib.hid hS3
              have HA3 := Lib.hid hA3
              have HG3 := Lib.hid g3
              have hseeb : Sees w3 A47 text.length text := sees_ofV hS3
              have AP := Lib.hid (apply_any (⟨ew, sq, et, kd, key, text, num, node⟩ : Ev) A47 text.length c47 w3 hA3.f hseeb (fun hn0 a ha hm => by
                obtain ⟨b1, o1, e1, e2, _⟩ := hS3 (by intro e; have h5 := congrArg List.length e; rw [cs_length] at h5; have h6 : text.length = 0 := h5; omega)
                rw [ha] at e1
                injection e1 with e1
                rw [e1] at hm
                rcases List.mem_cons.1 hm with hm | hm
                · have hm' : b1 = d2 := hm
                  rw [hm'] at e2; exact e2 hA3.f.dS
                · rw [List.mem_singleton] at hm
                  have hm' : b1 = mb2 := hm
                  rw [hm'] at e2; exact e2 hA3.f.mS) hA3.lt (by have := HSH.out.2; omega) (by have := HFX.out.2.2; omega) HFX.out.1 HFX.out.2.1)
              obtain ⟨e0, e1, e2, e3, e4, e5, e6, e7⟩ := box8 g3
              clear hB3 hS3 hA3 hseeb g3 hb3 hgh10
              go_wp2_with fail
              refine AP.out.mono ?_
              rintro e w4 ⟨rfl, hF4, hb4⟩
              have hg43 : g10 ∉ [d2, mb2] := fun hm => by
                have h1 := HA0.out.f.lt
                have h2 := HG10.out
                simp at hm
                omega
              have hg4 := (hb4.block g10 (Array.getElem?_eq_some_iff.1 HG3.out).1 hg43).trans HG3.out
              have hbx4 := (hb4.block g12 (HA3.out.lt _ HA3.out.gS) (fun hm => by have := HA3.out.gd; simp at hm; omega)).trans HA3.out.box
              unfold rv at hbx4
              rw [← HN'.out] at hbx4
              simp only [] at hbx4
              have hS14 : ∀ x ∈ [d2, mb2], x ∈ S2 ∨ w3.heap.size ≤ x := fun x hx => by
                simp at hx
                rcases hx with rfl | rfl
                · exact .inl HA3.out.f.dS
                · exact .inl HA3.out.f.mS
              have hR4 := HA3.out.r.beside hb4 hS14
              have hS4 := HS3.out.beside hb4 hS14
              have RA := Lib.hid (refApply_lit (⟨ew, sq, et, kd, key, text, num, node⟩ : Ev) A47 text.length c47 w4 Ja Jc Ra Rc Ha Hc tm W0 M n' HN'.out hR4 HA3.out.ok hS4 rfl (fun x hx => Nat.lt_of_lt_of_le (HA3.out.lt x hx) hb4.size) (by have := HFX.out.2.2; omega) (by have := HSH.out.1; omega) HFX.out.1 HFX.out.2.1)
              have HF4 := Lib.hid hF4
              have HB4 := Lib.hid hb4
              have HG4 := Lib.hid hg4
              have HX4 := Lib.hid hbx4
              clear e0 e1 e2 e3 e4 e5 e6 e7
              obtain ⟨e0, e1, e2, e3, e4, e5, e6, e7⟩ := box8 hg4
              obtain ⟨r0, r1, r2, r3, r4, r5, r6⟩ := rv_cells (h := ⟨Ja, Jc, Ra, Rc, Ha, Hc, tm, W0, M⟩) hbx4
              clear hF4 hb4 hg4 hbx4 hS14 hR4 hS4 hg43 AP
              go_wp2_with fail
              refine RA.out.mono ?_
              rintro e w5 ⟨La2, lc2, L2, Ja2, Jc2, Ra2, Rc2, Ha2, Hc2, tm2, W02, M2, N2, rfl, hN2, hR5, hb5⟩
              have hgx5 := (hb5.block g12 (Nat.lt_of_lt_of_le (HA3.out.lt _ HA3.out.gS) HB4.out.size)).trans HX4.out
              have HR5 := Lib.hid (And.intro hR5 hN2)
              have HB5 := Lib.hid hb5
              clear hR5 hN2 hb5 RA e0 e1 e2 e3 e4 e5 e6 e7 r0 r1 r2 r3 r4 r5 r6
              go_wp2_with (first | (refine wpList_putRow rfl 33 (.tmp 12) (.tmp 79) rfl g12 33 #[.slice La n' lc, .slice Ja 64 Jc, .slice Ra 64 Rc, .slice Ha 64 Hc, .int .u64 (tm : Int), .int .i64 (W0 : Int), .int .u64 (M : Int)] #[.slice La2 N2 lc2, .slice Ja2 64 Jc2, .slice Ra2 64 Rc2, .slice Ha2 64 Hc2, .int .u64 (tm2 : Int), .int .i64 (W02 : Int), .int .u64 (M2 : Int)] rfl rfl hgx5 (by kernel_rfl) rfl (by simp [Value.oneCell']) ?_))
              intro w6 g6 hb6
              have hF6 := (HF4.out.below HB5.out).beside hb6 (fun x hx => by
                rw [List.mem_singleton] at hx
                rw [hx]
                exact .inl ⟨HA3.out.gS, HA3.out.gd.1, HA3.out.gd.2⟩)
              have hR6 := HR5.out.1.beside hb6 (fun x hx => by
                rw [List.mem_singleton] at hx
                rw [hx]
                exact .inl HA3.out.gS)
              have hgrow : wr.heap.size ≤ w6.heap.size := Nat.le_trans HB3.out.size (Nat.le_trans HB4.out.size (Nat.le_trans HB5.out.size hb6.size))
              have hL6 : LawAt w6 S2 d2 mb2 g12 La2 lc2 L2 ⟨Ja2, Jc2, Ra2, Rc2, Ha2, Hc2, tm2, W02, M2⟩ (runPu F1 (l2.take (j + 1))) (30 + (j + 1)) := by
                rw [← HST.out.1]
                exact ⟨hF6, hR6, by unfold rv; rw [← HR5.out.2]; exact g6, HST.out.2, HA3.out.gS, HA3.out.gd, fun x hx => Nat.lt_of_lt_of_le (HA0.out.lt x hx) hgrow⟩
              have HL6 := Lib.hid hL6
              have hO6 : LawAt w6 S2 d mb g8 La1 lc1 L1 h1 F1 30 := by
                have o3 := HO.out.below HB3.out
                have hx1 := HDD.out
                have o4 := o3.beside HB4.out (fun x hx => by
                  simp at hx
                  rcases hx with rfl | rfl
                  · exact .inl ⟨HA3.out.f.dS, hx1.1, hx1.2.1, hx1.2.2.1⟩
                  · exact .inl ⟨HA3.out.f.mS, hx1.2.2.2.1, hx1.2.2.2.2.1, hx1.2.2.2.2.2.1⟩)
                have o5 := o4.below HB5.out
                exact o5.beside hb6 (fun x hx => by
                  rw [List.mem_singleton] at hx
                  rw [hx]
                  exact .inl ⟨HA3.out.gS, hx1.2.2.2.2.2.2.1, hx1.2.2.2.2.2.2.2.1, hx1.2.2.2.2.2.2.2.2⟩)
              have HO6 := Lib.hid hO6
              clear hO6
              have hW6 : Below w.heap.size w w6 := by
                have h3 := HBw.out.trans (HB3.out.mono HBw.out.size)
                have h4 := Below.beside h3 HB4.out h3.size (fun x hx => by have := HGE.out; simp at hx; omega)
                have h5 := h4.trans (HB5.out.mono h4.size)
                exact Below.beside h5 hb6 h5.size (fun x hx => by have := HGE.out; rw [List.mem_singleton] at hx; omega)
              have HW6 := Lib.hid hW6
              clear hL6 hW6 hgrow hF6 hR6 g6 hb6 hgx5
              go_wp2
              go_roundw
              case rel => exact ⟨j + 1, La2, lc2, L2, ⟨Ja2, Jc2, Ra2, Rc2, Ha2, Hc2, tm2, W02, M2⟩, by simp, by omega, HL6, HO6, HW6⟩
              case measure => simp [intOf]; omega
          · obtain rfl : j = n2 := by omega
            have hd1 : decide ((j : Int) < (j : Int)) = false := decide_eq_false (by omega)
            obtain ⟨F2, hF2⟩ : ∃ F2, F2 = runPu F1 (l2.take j) := ⟨_, rfl⟩
            have hA := HA.out
            rw [← hF2] at hA
            obtain ⟨Ja2, Jc2, Ra2, Rc2, Ha2, Hc2, tm2, W02, M2⟩ := h1
            obtain ⟨N1, hN1⟩ : ∃ n', n' = L.length := ⟨_, rfl⟩
            obtain ⟨N2, hN2⟩ : ∃ n', n' = L1.length := ⟨_, rfl⟩
            have hO := HO.out
            have hb1 := hA.box
            have hb2 := hO.box
            unfold rv at hb1 hb2
            rw [← hN1] at hb1
            rw [← hN2] at hb2
            simp only [] at hb1 hb2
            have TD1 := Lib.hid (by
              have := told_any wr hO.f hO.r (hO.few.bytes hO.ok (by omega)) (by have := hO.few.len; omega) hO.few.none_
              unfold rv at this
              rw [← hN2] at this
              exact this : Calls Tryz.prog 11 #[.pointer (some ⟨d, 0, none⟩), .agg #[.slice La1 N2 lc1, .slice Ja2 64 Jc2, .slice Ra2 64 Rc2, .slice Ha2 64 Hc2, .int .u64 (tm2 : Int), .int .i64 (W02 : Int), .int .u64 (M2 : Int)]] wr fun e w' => e = .returned (.bool true) ∧ Below wr.heap.size wr w')
            have TD2 := Lib.hid (fun (W : World) (hW : Below wr.heap.size wr W) => (by
              have h := hA.below hW
              have := told_any W h.f h.r (h.few.bytes h.ok (by omega)) (by have := h.few.len; omega) h.few.none_
              unfold rv at this
              rw [← hN1] at this
              exact this : Calls Tryz.prog 11 #[.pointer (some ⟨d2, 0, none⟩), .agg #[.slice La N1 lc, .slice Ja 64 Jc, .slice Ra 64 Rc, .slice Ha 64 Hc, .int .u64 (tm : Int), .int .i64 (W0 : Int), .int .u64 (M : Int)]] W fun e w' => e = .returned (.bool true) ∧ Below W.heap.size W w'))
            obtain ⟨q0, q1, q2, q3, q4, q5, q6⟩ := rv_cells (h := ⟨Ja2, Jc2, Ra2, Rc2, Ha2, Hc2, tm2, W02, M2⟩) hb2
            have HB1 := Lib.hid hb1
            clear hA hO hb1 hb2 hF2 hN1 hN2 HO HA
            go_wp2_with fail
            refine TD1.out.mono ?_
            rintro e wg ⟨rfl, hbg⟩
            obtain ⟨r0, r1, r2, r3, r4, r5, r6⟩ := rv_cells (h := ⟨Ja, Jc, Ra, Rc, Ha, Hc, tm, W0, M⟩) ((hbg.block g12 (Array.getElem?_eq_some_iff.1 HB1.out).1).trans HB1.out)
            have HBG := Lib.hid hbg
            clear hbg TD1 q0 q1 q2 q3 q4 q5 q6
            go_wp2_with fail
            refine (TD2.out _ HBG.out).mono ?_
            rintro e wh ⟨rfl, hbh⟩
            have HBH := Lib.hid hbh
            clear hbh r0 r1 r2 r3 r4 r5 r6
            go_wp2
            go_ret
            have hh1 := HBw.out.trans (HBG.out.mono HBw.out.size)
            exact ⟨rfl, hh1.trans (HBH.out.mono hh1.size)⟩
  · by_cases h30 : n1 ≤ 30
    · have h10 : ¬ n2 ≤ 10 := fun h => hbig ⟨h30, h⟩
      have hd30 : decide ((30 : Int) < (n1 : Int)) = false := decide_eq_false (by omega)
      have hd30b : decide ((n1 : Int) > 30) = false := decide_eq_false (by omega)
      have hd10 : decide ((10 : Int) < (n2 : Int)) = true := decide_eq_true (by omega)
      have hd10b : decide ((n2 : Int) > 10) = true := decide_eq_true (by omega)
      go_enter Tryz.func3, Tryz.ntmps3
      go_wp2_with fail
      refine (AW.out _).mono ?_
      rintro e wa ⟨rfl, hba⟩
      go_wp2_with fail
      refine (AW.out _).mono ?_
      rintro e wb ⟨rfl, hbb⟩
      go_wp2
      go_ret
      exact ⟨rfl, hba.trans (hbb.mono hba.size)⟩
    · have hd30 : decide ((30 : Int) < (n1 : Int)) = true := decide_eq_true (by omega)
      have hd30b : decide ((n1 : Int) > 30) = true := decide_eq_true (by omega)
      go_enter Tryz.func3, Tryz.ntmps3
      go_wp2_with fail
      refine (AW.out _).mono ?_
      rintro e wa ⟨rfl, hba⟩
      go_wp2_with fail
      refine (AW.out _).mono ?_
      rintro e wb ⟨rfl, hbb⟩
      go_wp2
      go_ret
      exact ⟨rfl, hba.trans (hbb.mono hba.size)⟩
end Go.Proofs.YtjceeojbnpcpfaaGreat.Fol
