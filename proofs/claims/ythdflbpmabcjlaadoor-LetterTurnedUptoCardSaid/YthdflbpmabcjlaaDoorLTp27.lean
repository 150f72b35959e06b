/- Layer 16: package letter's takeFields, kind 2. Layer 16: package letter's takeFields, kind 3. Layer 16: package letter's takeFields, kind 4. Layer 16: package letter's takeFields, kind 5. Layer 16: package letter's takeFields, kind 6. -/
import Derived.Test.YthdflbpmabcjlaaDoorLTp25
namespace Go.Proofs.YthdflbpmabcjlaaDoor.Lt
open Go Go.RowKit Go.Proofs.YthdflbpmabcjlaaDoor.Words Go.Proofs.YthdflbpmabcjlaaDoor.Enc Go.Proofs.YthdflbpmabcjlaaDoor.Evt Go.Proofs.YthdflbpmabcjlaaDoor.Made Go.Proofs.YthdflbpmabcjlaaDoor.Tape Go.Proofs.YthdflbpmabcjlaaDoor.Seg
set_option linter.unusedVariables false
set_option linter.unusedSimpArgs false

set_option maxRecDepth 100000 in
set_option maxHeartbeats 4000000 in
theorem fields_k2 (PA : Option Addr) (PN : Nat) (L : List UInt8) (t xb : Nat) (l : List UInt8) (s d : Nat) (m : Bool) (q : Nat) (w : World) (ht : TapeOn PA PN L w t l) (hP : Sees w PA PN L) (hll : l.length ≤ 100000) (hb : w.heap[xb]? = some (.cells (ltV (x0 2 s d m q) Adr.zero) 37 (0, 0))) (hne : xb ≠ t) (hox : Out [xb] PA PN) :
    Calls Tryd.prog 39 #[.pointer (some ⟨t, 0, none⟩), .pointer (some ⟨xb, 0, none⟩)] w (FldGives PA PN L t xb (fieldsT (x0 2 s d m q) l) w) := by
  have st0 : FSt PA PN L t xb w w _ l := ⟨hb, ht, hP, Beside.refl _ _, hne, hox, (Array.getElem?_eq_some_iff.1 hb).1, ht.lt⟩
  have k0 : w.cell? ⟨xb, 0, none⟩ = some (.int .u8 2) := st0.cell 0
  obtain ⟨G, hG⟩ : ∃ G, G = fieldsT (x0 2 s d m q) l := ⟨_, rfl⟩
  rw [← hG]
  have hG2 : G = (vecT l).bind fun v l1 => (rowsT l1).bind fun rs l2 => .ok { x0 2 s d m q with H := v, rows := rs } l2 := by rw [hG]; rfl
  have HG := Lib.hid hG2
  have RD := takeVector_any PA PN L t l w ht hP hll
  clear hG hG2 ht hP hb hne hox
  cases gv : vecT l with
  | bad E =>
    rw [gv] at RD
    obtain rfl : G = .bad E := by rw [HG.out, gv]; rfl
    have NB := Lib.hid RD
    have ST := Lib.hid st0
    clear RD gv HG st0
    go_enter Tryd.func39, Tryd.ntmps39
    clear hll
    go_wp2_with fail
    refine NB.out.mono ?_
    rintro e wb ⟨rfl, hbb⟩
    have HB := Lib.hid (ST.out.bad hbb)
    clear hbb NB
    unfold fault
    go_wp2
    exact ⟨rfl, rfl, HB.out⟩
  | no =>
    rw [gv] at RD
    obtain rfl : G = .no := by rw [HG.out, gv]; rfl
    have NB := Lib.hid RD
    have ST := Lib.hid st0
    clear RD gv HG st0
    go_enter Tryd.func39, Tryd.ntmps39
    go_wp2_with fail
    refine NB.out.mono ?_
    rintro e w1 ⟨R, k, rc, rfl, hb1⟩
    have hbx : w1.heap[xb]? = _ := (hb1.block xb (Array.getElem?_eq_some_iff.1 ST.out.box).1 (by simp; exact ST.out.ne)).trans ST.out.box
    have c5 : w1.cell? ⟨xb, 5, none⟩ = some (.slice none 0 0) := by rw [cell_of_row w1 xb _ _ _ _ hbx]; rfl
    have f5 : w1.frozen? ⟨xb, 5, none⟩ = false := frozen_row0 hbx
    have FIN : Hid ((w1.setCell ⟨xb, 5, none⟩ (.slice R k rc)).heap[xb]? = some (.cells (ltV (x0 2 s d m q) { Adr.zero with Ha := R, hn := k, hc := rc }) 37 (0, 0)) ∧ Beside [t, xb] w (w1.setCell ⟨xb, 5, none⟩ (.slice R k rc))) := Lib.hid ⟨(heapSame hbx).trans rfl, (ST.out.bad hb1).setCell (by simp) _⟩
    clear hb1 hbx NB k0
    go_wp2
    go_ret
    exact ⟨_, _, rfl, FIN.out.1, FIN.out.2⟩
  | ok v l1 =>
    rw [gv] at RD
    have NB := Lib.hid RD
    have ST := Lib.hid st0
    have hl1 : l1.length ≤ 100000 := by have := (vecT_enc gv).1; have h2 := congrArg List.length this; rw [List.length_append] at h2; omega
    have HG1 : Hid (G = (rowsT l1).bind fun rs l2 => .ok { x0 2 s d m q with H := v, rows := rs } l2) := Lib.hid (by rw [HG.out, gv]; rfl)
    clear RD gv HG st0
    go_enter Tryd.func39, Tryd.ntmps39
    go_wp2_with fail
    refine NB.out.mono ?_
    rintro e w1 ⟨R, k, rc, rfl, own1, ht1, hb1⟩
    have ST1 := Lib.hid (ST.out.read hb1 ht1)
    have c5 : w1.cell? ⟨xb, 5, none⟩ = some (.slice none 0 0) := (ST1.out.cell 5).trans rfl
    have f5 := ST1.out.froz 5
    have ST2 := Lib.hid (ST1.out.set 5 (.slice R k rc))
    have OW2 : Hid ((w1.setCell ⟨xb, 5, none⟩ (.slice R k rc)).ownsRow w.heap.size 22 1 (.slice R k rc) k (Vec.us v)) := Lib.hid (Own.beside own1 ((Beside.refl [xb] w1).setCell (by simp) _) (by have := ST.out.old.1; simp; omega))
    clear own1 ht1 hb1 NB ST k0
    go_wp2_with fail
    generalize w1.setCell ⟨xb, 5, none⟩ (.slice R k rc) = w2 at ST2 OW2 ⊢
    have RD := takeRows_any PA PN L t l1 w2 ST2.out.tape ST2.out.see hl1
    clear c5 f5 ST1
    cases gr : rowsT l1 with
    | bad E =>
      rw [gr] at RD
      obtain rfl : G = .bad E := by rw [HG1.out, gr]; rfl
      have NB := Lib.hid RD
      clear RD gr HG1
      clear hll
      go_wp2_with fail
      refine NB.out.mono ?_
      rintro e wb ⟨rfl, hbb⟩
      have HB := Lib.hid (ST2.out.bad hbb)
      clear hbb NB
      unfold fault
      go_wp2
      exact ⟨rfl, rfl, HB.out⟩
    | no =>
      rw [gr] at RD
      obtain rfl : G = .no := by rw [HG1.out, gr]; rfl
      have NB := Lib.hid RD
      clear RD gr HG1
      go_wp2_with fail
      refine NB.out.mono ?_
      rintro e w3 ⟨rfl, hb3⟩
      have hbx := (hb3.block xb (Array.getElem?_eq_some_iff.1 ST2.out.box).1 (by simp; exact ST2.out.ne)).trans ST2.out.box
      have c6 : w3.cell? ⟨xb, 6, none⟩ = some (.slice none 0 0) := by rw [cell_of_row w3 xb _ _ _ _ hbx]; rfl
      have f6 : w3.frozen? ⟨xb, 6, none⟩ = false := frozen_row0 hbx
      have FIN : Hid ((w3.setCell ⟨xb, 6, none⟩ (.slice none 0 0)).heap[xb]? = some (.cells (ltV (x0 2 s d m q) { Adr.zero with Ha := R, hn := k, hc := rc }) 37 (0, 0)) ∧ Beside [t, xb] w (w3.setCell ⟨xb, 6, none⟩ (.slice none 0 0))) := Lib.hid ⟨(heapSame hbx).trans rfl, (ST2.out.bad hb3).setCell (by simp) _⟩
      clear hb3 hbx NB
      go_wp2
      go_ret
      exact ⟨_, _, rfl, FIN.out.1, FIN.out.2⟩
    | ok rs l2 =>
      rw [gr] at RD
      obtain rfl : G = .ok { x0 2 s d m q with H := v, rows := rs } l2 := by rw [HG1.out, gr]; rfl
      have NB := Lib.hid RD
      clear RD gr HG1
      go_wp2_with fail
      refine NB.out.mono ?_
      rintro e w3 ⟨b, rfl, hb0, rw3, ht3, hb3⟩
      have ST3 := Lib.hid (ST2.out.read hb3 ht3)
      have c6 : w3.cell? ⟨xb, 6, none⟩ = some (.slice none 0 0) := (ST3.out.cell 6).trans rfl
      have f6 := ST3.out.froz 6
      have HB0 : Hid (w.heap.size ≤ b) := Lib.hid (by have := ST2.out.bes.size; omega)
      obtain ⟨n, hn⟩ : ∃ n, n = rs.length := ⟨_, rfl⟩
      rw [← hn] at rw3 ⊢
      have ST4 := Lib.hid (ST3.out.set 6 (.slice (some ⟨b, 0, none⟩) n n))
      have OW4 : Hid ((w3.setCell ⟨xb, 6, none⟩ (.slice (some ⟨b, 0, none⟩) n n)).ownsRow w.heap.size 22 1 (.slice R k rc) k (Vec.us v)) := Lib.hid (Own.beside (Own.beside OW2.out hb3 (by have := ST2.out.old.2; simp; omega)) ((Beside.refl [xb] w3).setCell (by simp) _) (by have := ST2.out.old.1; simp; omega))
      have RW4 : Hid (RwsAt b n rs (w3.setCell ⟨xb, 6, none⟩ (.slice (some ⟨b, 0, none⟩) n n))) := Lib.hid (rw3.beside ((Beside.refl [xb] w3).setCell (by simp) _) (by have h1 := ST2.out.old.1; have h2 := ST2.out.bes.size; simp; omega))
      have HN := Lib.hid hn
      clear rw3 ht3 hb3 NB hn OW2 ST2 ST3
      go_wp2
      go_ret
      exact ⟨⟨R, k, rc, some ⟨b, 0, none⟩, n, n, none, 0, 0, none, 0, 0⟩, [], rfl, ST4.out.box, ⟨Vec.SeesU.of_own OW4.out, Fresh.of_own OW4.out (Nat.le_refl _), HN.out, rows_of RW4.out HB0.out, rfl, rfl, raw_nil _, Fresh.none _, (fun r hr => by cases hr), Sees.nil _ _, Fresh.none _⟩, ST4.out.tape, ST4.out.bes⟩
end Go.Proofs.YthdflbpmabcjlaaDoor.Lt
namespace Go.Proofs.YthdflbpmabcjlaaDoor.Lt
open Go Go.RowKit Go.Proofs.YthdflbpmabcjlaaDoor.Words Go.Proofs.YthdflbpmabcjlaaDoor.Enc Go.Proofs.YthdflbpmabcjlaaDoor.Evt Go.Proofs.YthdflbpmabcjlaaDoor.Made Go.Proofs.YthdflbpmabcjlaaDoor.Tape Go.Proofs.YthdflbpmabcjlaaDoor.Seg
set_option linter.unusedVariables false
set_option linter.unusedSimpArgs false

set_option maxRecDepth 100000 in
set_option maxHeartbeats 4000000 in
theorem fields_k3 (PA : Option Addr) (PN : Nat) (L : List UInt8) (t xb : Nat) (l : List UInt8) (s d : Nat) (m : Bool) (q : Nat) (w : World) (ht : TapeOn PA PN L w t l) (hP : Sees w PA PN L) (hll : l.length ≤ 100000) (hb : w.heap[xb]? = some (.cells (ltV (x0 3 s d m q) Adr.zero) 37 (0, 0))) (hne : xb ≠ t) (hox : Out [xb] PA PN) :
    Calls Tryd.prog 39 #[.pointer (some ⟨t, 0, none⟩), .pointer (some ⟨xb, 0, none⟩)] w (FldGives PA PN L t xb (fieldsT (x0 3 s d m q) l) w) := by
  have st0 : FSt PA PN L t xb w w _ l := ⟨hb, ht, hP, Beside.refl _ _, hne, hox, (Array.getElem?_eq_some_iff.1 hb).1, ht.lt⟩
  have k0 : w.cell? ⟨xb, 0, none⟩ = some (.int .u8 3) := st0.cell 0
  obtain ⟨G, hG⟩ : ∃ G, G = fieldsT (x0 3 s d m q) l := ⟨_, rfl⟩
  rw [← hG]
  have hG2 : G = (vecT l).bind fun v l1 => (evsT l1).bind fun rs l2 => .ok { x0 3 s d m q with H := v, E := rs } l2 := by rw [hG]; rfl
  have HG := Lib.hid hG2
  have RD := takeVector_any PA PN L t l w ht hP hll
  clear hG hG2 ht hP hb hne hox
  cases gv : vecT l with
  | bad E =>
    rw [gv] at RD
    obtain rfl : G = .bad E := by rw [HG.out, gv]; rfl
    have NB := Lib.hid RD
    have ST := Lib.hid st0
    clear RD gv HG st0
    go_enter Tryd.func39, Tryd.ntmps39
    clear hll
    go_wp2_with fail
    refine NB.out.mono ?_
    rintro e wb ⟨rfl, hbb⟩
    have HB := Lib.hid (ST.out.bad hbb)
    clear hbb NB
    unfold fault
    go_wp2
    exact ⟨rfl, rfl, HB.out⟩
  | no =>
    rw [gv] at RD
    obtain rfl : G = .no := by rw [HG.out, gv]; rfl
    have NB := Lib.hid RD
    have ST := Lib.hid st0
    clear RD gv HG st0
    go_enter Tryd.func39, Tryd.ntmps39
    go_wp2_with fail
    refine NB.out.mono ?_
    rintro e w1 ⟨R, k, rc, rfl, hb1⟩
    have hbx : w1.heap[xb]? = _ := (hb1.block xb (Array.getElem?_eq_some_iff.1 ST.out.box).1 (by simp; exact ST.out.ne)).trans ST.out.box
    have c5 : w1.cell? ⟨xb, 5, none⟩ = some (.slice none 0 0) := by rw [cell_of_row w1 xb _ _ _ _ hbx]; rfl
    have f5 : w1.frozen? ⟨xb, 5, none⟩ = false := frozen_row0 hbx
    have FIN : Hid ((w1.setCell ⟨xb, 5, none⟩ (.slice R k rc)).heap[xb]? = some (.cells (ltV (x0 3 s d m q) { Adr.zero with Ha := R, hn := k, hc := rc }) 37 (0, 0)) ∧ Beside [t, xb] w (w1.setCell ⟨xb, 5, none⟩ (.slice R k rc))) := Lib.hid ⟨(heapSame hbx).trans rfl, (ST.out.bad hb1).setCell (by simp) _⟩
    clear hb1 hbx NB k0
    go_wp2
    go_ret
    exact ⟨_, _, rfl, FIN.out.1, FIN.out.2⟩
  | ok v l1 =>
    rw [gv] at RD
    have NB := Lib.hid RD
    have ST := Lib.hid st0
    have hl1 : l1.length ≤ 100000 := by have := (vecT_enc gv).1; have h2 := congrArg List.length this; rw [List.length_append] at h2; omega
    have HG1 : Hid (G = (evsT l1).bind fun rs l2 => .ok { x0 3 s d m q with H := v, E := rs } l2) := Lib.hid (by rw [HG.out, gv]; rfl)
    clear RD gv HG st0
    go_enter Tryd.func39, Tryd.ntmps39
    go_wp2_with fail
    refine NB.out.mono ?_
    rintro e w1 ⟨R, k, rc, rfl, own1, ht1, hb1⟩
    have ST1 := Lib.hid (ST.out.read hb1 ht1)
    have c5 : w1.cell? ⟨xb, 5, none⟩ = some (.slice none 0 0) := (ST1.out.cell 5).trans rfl
    have f5 := ST1.out.froz 5
    have ST2 := Lib.hid (ST1.out.set 5 (.slice R k rc))
    have OW2 : Hid ((w1.setCell ⟨xb, 5, none⟩ (.slice R k rc)).ownsRow w.heap.size 22 1 (.slice R k rc) k (Vec.us v)) := Lib.hid (Own.beside own1 ((Beside.refl [xb] w1).setCell (by simp) _) (by have := ST.out.old.1; simp; omega))
    clear own1 ht1 hb1 NB ST k0
    go_wp2_with fail
    generalize w1.setCell ⟨xb, 5, none⟩ (.slice R k rc) = w2 at ST2 OW2 ⊢
    have RD := takeEvents_any PA PN L t l1 w2 ST2.out.tape ST2.out.see hl1
    clear c5 f5 ST1
    cases gr : evsT l1 with
    | bad E =>
      rw [gr] at RD
      obtain rfl : G = .bad E := by rw [HG1.out, gr]; rfl
      have NB := Lib.hid RD
      clear RD gr HG1
      clear hll
      go_wp2_with fail
      refine NB.out.mono ?_
      rintro e wb ⟨rfl, hbb⟩
      have HB := Lib.hid (ST2.out.bad hbb)
      clear hbb NB
      unfold fault
      go_wp2
      exact ⟨rfl, rfl, HB.out⟩
    | no =>
      rw [gr] at RD
      obtain rfl : G = .no := by rw [HG1.out, gr]; rfl
      have NB := Lib.hid RD
      clear RD gr HG1
      go_wp2_with fail
      refine NB.out.mono ?_
      rintro e w3 ⟨rfl, hb3⟩
      have hbx := (hb3.block xb (Array.getElem?_eq_some_iff.1 ST2.out.box).1 (by simp; exact ST2.out.ne)).trans ST2.out.box
      have c6 : w3.cell? ⟨xb, 7, none⟩ = some (.slice none 0 0) := by rw [cell_of_row w3 xb _ _ _ _ hbx]; rfl
      have f6 : w3.frozen? ⟨xb, 7, none⟩ = false := frozen_row0 hbx
      have FIN : Hid ((w3.setCell ⟨xb, 7, none⟩ (.slice none 0 0)).heap[xb]? = some (.cells (ltV (x0 3 s d m q) { Adr.zero with Ha := R, hn := k, hc := rc }) 37 (0, 0)) ∧ Beside [t, xb] w (w3.setCell ⟨xb, 7, none⟩ (.slice none 0 0))) := Lib.hid ⟨(heapSame hbx).trans rfl, (ST2.out.bad hb3).setCell (by simp) _⟩
      clear hb3 hbx NB
      go_wp2
      go_ret
      exact ⟨_, _, rfl, FIN.out.1, FIN.out.2⟩
    | ok es l2 =>
      rw [gr] at RD
      obtain rfl : G = .ok { x0 3 s d m q with H := v, E := es } l2 := by rw [HG1.out, gr]; rfl
      have NB := Lib.hid RD
      clear RD gr HG1
      go_wp2_with fail
      refine NB.out.mono ?_
      rintro e w3 ⟨A, S, rfl, hes, hsr, hfr, hAg, ht3, hb3⟩
      have ST3 := Lib.hid (ST2.out.read hb3 ht3)
      have c7 : w3.cell? ⟨xb, 7, none⟩ = some (.slice none 0 0) := (ST3.out.cell 7).trans rfl
      have f7 := ST3.out.froz 7
      have hxo := ST2.out.old.1
      have hx2 := ST2.out.bes.size
      obtain ⟨n, hn⟩ : ∃ n, n = es.length := ⟨_, rfl⟩
      rw [← hn] at hAg ⊢
      have ST4 := Lib.hid (ST3.out.set 7 (.slice A n n))
      have hbs : Beside [xb] w3 (w3.setCell ⟨xb, 7, none⟩ (.slice A n n)) := (Beside.refl [xb] w3).setCell (by simp) _
      have OW4 : Hid ((w3.setCell ⟨xb, 7, none⟩ (.slice A n n)).ownsRow w.heap.size 22 1 (.slice R k rc) k (Vec.us v)) := Lib.hid (Own.beside (Own.beside OW2.out hb3 (by have := ST2.out.old.2; simp; omega)) hbs (by simp; omega))
      have hSn : S.length = n := by rw [hn, hes, List.length_map]
      have SR4 : Hid (Ord.SameR (w3.setCell ⟨xb, 7, none⟩ (.slice A n n)) A S) := Lib.hid ⟨fun h0 => by
        obtain ⟨b, o, h1, h2⟩ := hsr.raw h0
        obtain ⟨g, h3, h4⟩ := hAg (by omega)
        rw [h3] at h1
        cases h1
        exact ⟨_, _, h3, fun j v hv => hbs.cell (h2 j v hv) (by simp; omega)⟩, fun r hr => (hsr.text r hr).beside hbs ((hfr r hr).out (by simp; omega))⟩
      have FE : Hid (Fresh w.heap.size A n ∧ ∀ r ∈ S, Fresh w.heap.size r.A r.n) := Lib.hid ⟨fun h0 a ha => by obtain ⟨g, h3, h4⟩ := hAg h0; rw [h3] at ha; cases ha; show w.heap.size ≤ g; omega, fun r hr h0 a ha => by have := hfr r hr h0 a ha; omega⟩
      have HN := Lib.hid (And.intro hn hes)
      clear hes hsr hfr hAg ht3 hb3 NB hn OW2 ST2 ST3 hbs hSn
      go_wp2
      go_ret
      exact ⟨⟨R, k, rc, none, 0, 0, A, n, n, none, 0, 0⟩, S, rfl, ST4.out.box, ⟨Vec.SeesU.of_own OW4.out, Fresh.of_own OW4.out (Nat.le_refl _), rfl, fun j r hj => (by simp [x0, zeroL] at hj), HN.out.1, HN.out.2, SR4.out.raw, FE.out.1, fun r hr => ⟨SR4.out.text r hr, FE.out.2 r hr⟩, Sees.nil _ _, Fresh.none _⟩, ST4.out.tape, ST4.out.bes⟩
end Go.Proofs.YthdflbpmabcjlaaDoor.Lt
namespace Go.Proofs.YthdflbpmabcjlaaDoor.Lt
open Go Go.RowKit Go.Proofs.YthdflbpmabcjlaaDoor.Words Go.Proofs.YthdflbpmabcjlaaDoor.Enc Go.Proofs.YthdflbpmabcjlaaDoor.Evt Go.Proofs.YthdflbpmabcjlaaDoor.Made Go.Proofs.YthdflbpmabcjlaaDoor.Tape Go.Proofs.YthdflbpmabcjlaaDoor.Seg
set_option linter.unusedVariables false
set_option linter.unusedSimpArgs false

set_option maxRecDepth 100000 in
set_option maxHeartbeats 4000000 in
theorem fields_k4 (PA : Option Addr) (PN : Nat) (L : List UInt8) (t xb : Nat) (l : List UInt8) (s d : Nat) (m : Bool) (q : Nat) (w : World) (ht : TapeOn PA PN L w t l) (hP : Sees w PA PN L) (hll : l.length ≤ 100000) (hb : w.heap[xb]? = some (.cells (ltV (x0 4 s d m q) Adr.zero) 37 (0, 0))) (hne : xb ≠ t) (hox : Out [xb] PA PN) :
    Calls Tryd.prog 39 #[.pointer (some ⟨t, 0, none⟩), .pointer (some ⟨xb, 0, none⟩)] w (FldGives PA PN L t xb (fieldsT (x0 4 s d m q) l) w) := by
  have st0 : FSt PA PN L t xb w w _ l := ⟨hb, ht, hP, Beside.refl _ _, hne, hox, (Array.getElem?_eq_some_iff.1 hb).1, ht.lt⟩
  have k0 : w.cell? ⟨xb, 0, none⟩ = some (.int .u8 4) := st0.cell 0
  obtain ⟨G, hG⟩ : ∃ G, G = fieldsT (x0 4 s d m q) l := ⟨_, rfl⟩
  rw [← hG]
  have hG2 : G = (vecT l).bind fun v l1 => (rowsT l1).bind fun rs l2 => .ok { x0 4 s d m q with H := v, rows := rs } l2 := by rw [hG]; rfl
  have HG := Lib.hid hG2
  have RD := takeVector_any PA PN L t l w ht hP hll
  clear hG hG2 ht hP hb hne hox
  cases gv : vecT l with
  | bad E =>
    rw [gv] at RD
    obtain rfl : G = .bad E := by rw [HG.out, gv]; rfl
    have NB := Lib.hid RD
    have ST := Lib.hid st0
    clear RD gv HG st0
    go_enter Tryd.func39, Tryd.ntmps39
    clear hll
    go_wp2_with fail
    refine NB.out.mono ?_
    rintro e wb ⟨rfl, hbb⟩
    have HB := Lib.hid (ST.out.bad hbb)
    clear hbb NB
    unfold fault
    go_wp2
    exact ⟨rfl, rfl, HB.out⟩
  | no =>
    rw [gv] at RD
    obtain rfl : G = .no := by rw [HG.out, gv]; rfl
    have NB := Lib.hid RD
    have ST := Lib.hid st0
    clear RD gv HG st0
    go_enter Tryd.func39, Tryd.ntmps39
    go_wp2_with fail
    refine NB.out.mono ?_
    rintro e w1 ⟨R, k, rc, rfl, hb1⟩
    have hbx : w1.heap[xb]? = _ := (hb1.block xb (Array.getElem?_eq_some_iff.1 ST.out.box).1 (by simp; exact ST.out.ne)).trans ST.out.box
    have c5 : w1.cell? ⟨xb, 5, none⟩ = some (.slice none 0 0) := by rw [cell_of_row w1 xb _ _ _ _ hbx]; rfl
    have f5 : w1.frozen? ⟨xb, 5, none⟩ = false := frozen_row0 hbx
    have FIN : Hid ((w1.setCell ⟨xb, 5, none⟩ (.slice R k rc)).heap[xb]? = some (.cells (ltV (x0 4 s d m q) { Adr.zero with Ha := R, hn := k, hc := rc }) 37 (0, 0)) ∧ Beside [t, xb] w (w1.setCell ⟨xb, 5, none⟩ (.slice R k rc))) := Lib.hid ⟨(heapSame hbx).trans rfl, (ST.out.bad hb1).setCell (by simp) _⟩
    clear hb1 hbx NB k0
    go_wp2
    go_ret
    exact ⟨_, _, rfl, FIN.out.1, FIN.out.2⟩
  | ok v l1 =>
    rw [gv] at RD
    have NB := Lib.hid RD
    have ST := Lib.hid st0
    have hl1 : l1.length ≤ 100000 := by have := (vecT_enc gv).1; have h2 := congrArg List.length this; rw [List.length_append] at h2; omega
    have HG1 : Hid (G = (rowsT l1).bind fun rs l2 => .ok { x0 4 s d m q with H := v, rows := rs } l2) := Lib.hid (by rw [HG.out, gv]; rfl)
    clear RD gv HG st0
    go_enter Tryd.func39, Tryd.ntmps39
    go_wp2_with fail
    refine NB.out.mono ?_
    rintro e w1 ⟨R, k, rc, rfl, own1, ht1, hb1⟩
    have ST1 := Lib.hid (ST.out.read hb1 ht1)
    have c5 : w1.cell? ⟨xb, 5, none⟩ = some (.slice none 0 0) := (ST1.out.cell 5).trans rfl
    have f5 := ST1.out.froz 5
    have ST2 := Lib.hid (ST1.out.set 5 (.slice R k rc))
    have OW2 : Hid ((w1.setCell ⟨xb, 5, none⟩ (.slice R k rc)).ownsRow w.heap.size 22 1 (.slice R k rc) k (Vec.us v)) := Lib.hid (Own.beside own1 ((Beside.refl [xb] w1).setCell (by simp) _) (by have := ST.out.old.1; simp; omega))
    clear own1 ht1 hb1 NB ST k0
    go_wp2_with fail
    generalize w1.setCell ⟨xb, 5, none⟩ (.slice R k rc) = w2 at ST2 OW2 ⊢
    have RD := takeRows_any PA PN L t l1 w2 ST2.out.tape ST2.out.see hl1
    clear c5 f5 ST1
    cases gr : rowsT l1 with
    | bad E =>
      rw [gr] at RD
      obtain rfl : G = .bad E := by rw [HG1.out, gr]; rfl
      have NB := Lib.hid RD
      clear RD gr HG1
      clear hll
      go_wp2_with fail
      refine NB.out.mono ?_
      rintro e wb ⟨rfl, hbb⟩
      have HB := Lib.hid (ST2.out.bad hbb)
      clear hbb NB
      unfold fault
      go_wp2
      exact ⟨rfl, rfl, HB.out⟩
    | no =>
      rw [gr] at RD
      obtain rfl : G = .no := by rw [HG1.out, gr]; rfl
      have NB := Lib.hid RD
      clear RD gr HG1
      go_wp2_with fail
      refine NB.out.mono ?_
      rintro e w3 ⟨rfl, hb3⟩
      have hbx := (hb3.block xb (Array.getElem?_eq_some_iff.1 ST2.out.box).1 (by simp; exact ST2.out.ne)).trans ST2.out.box
      have c6 : w3.cell? ⟨xb, 6, none⟩ = some (.slice none 0 0) := by rw [cell_of_row w3 xb _ _ _ _ hbx]; rfl
      have f6 : w3.frozen? ⟨xb, 6, none⟩ = false := frozen_row0 hbx
      have FIN : Hid ((w3.setCell ⟨xb, 6, none⟩ (.slice none 0 0)).heap[xb]? = some (.cells (ltV (x0 4 s d m q) { Adr.zero with Ha := R, hn := k, hc := rc }) 37 (0, 0)) ∧ Beside [t, xb] w (w3.setCell ⟨xb, 6, none⟩ (.slice none 0 0))) := Lib.hid ⟨(heapSame hbx).trans rfl, (ST2.out.bad hb3).setCell (by simp) _⟩
      clear hb3 hbx NB
      go_wp2
      go_ret
      exact ⟨_, _, rfl, FIN.out.1, FIN.out.2⟩
    | ok rs l2 =>
      rw [gr] at RD
      obtain rfl : G = .ok { x0 4 s d m q with H := v, rows := rs } l2 := by rw [HG1.out, gr]; rfl
      have NB := Lib.hid RD
      clear RD gr HG1
      go_wp2_with fail
      refine NB.out.mono ?_
      rintro e w3 ⟨b, rfl, hb0, rw3, ht3, hb3⟩
      have ST3 := Lib.hid (ST2.out.read hb3 ht3)
      have c6 : w3.cell? ⟨xb, 6, none⟩ = some (.slice none 0 0) := (ST3.out.cell 6).trans rfl
      have f6 := ST3.out.froz 6
      have HB0 : Hid (w.heap.size ≤ b) := Lib.hid (by have := ST2.out.bes.size; omega)
      obtain ⟨n, hn⟩ : ∃ n, n = rs.length := ⟨_, rfl⟩
      rw [← hn] at rw3 ⊢
      have ST4 := Lib.hid (ST3.out.set 6 (.slice (some ⟨b, 0, none⟩) n n))
      have OW4 : Hid ((w3.setCell ⟨xb, 6, none⟩ (.slice (some ⟨b, 0, none⟩) n n)).ownsRow w.heap.size 22 1 (.slice R k rc) k (Vec.us v)) := Lib.hid (Own.beside (Own.beside OW2.out hb3 (by have := ST2.out.old.2; simp; omega)) ((Beside.refl [xb] w3).setCell (by simp) _) (by have := ST2.out.old.1; simp; omega))
      have RW4 : Hid (RwsAt b n rs (w3.setCell ⟨xb, 6, none⟩ (.slice (some ⟨b, 0, none⟩) n n))) := Lib.hid (rw3.beside ((Beside.refl [xb] w3).setCell (by simp) _) (by have h1 := ST2.out.old.1; have h2 := ST2.out.bes.size; simp; omega))
      have HN := Lib.hid hn
      clear rw3 ht3 hb3 NB hn OW2 ST2 ST3
      go_wp2
      go_ret
      exact ⟨⟨R, k, rc, some ⟨b, 0, none⟩, n, n, none, 0, 0, none, 0, 0⟩, [], rfl, ST4.out.box, ⟨Vec.SeesU.of_own OW4.out, Fresh.of_own OW4.out (Nat.le_refl _), HN.out, rows_of RW4.out HB0.out, rfl, rfl, raw_nil _, Fresh.none _, (fun r hr => by cases hr), Sees.nil _ _, Fresh.none _⟩, ST4.out.tape, ST4.out.bes⟩
end Go.Proofs.YthdflbpmabcjlaaDoor.Lt
namespace Go.Proofs.YthdflbpmabcjlaaDoor.Lt
open Go Go.RowKit Go.Proofs.YthdflbpmabcjlaaDoor.Words Go.Proofs.YthdflbpmabcjlaaDoor.Enc Go.Proofs.YthdflbpmabcjlaaDoor.Evt Go.Proofs.YthdflbpmabcjlaaDoor.Made Go.Proofs.YthdflbpmabcjlaaDoor.Tape Go.Proofs.YthdflbpmabcjlaaDoor.Seg
set_option linter.unusedVariables false
set_option linter.unusedSimpArgs false

set_option maxRecDepth 100000 in
set_option maxHeartbeats 4000000 in
theorem fields_k5 (PA : Option Addr) (PN : Nat) (L : List UInt8) (t xb : Nat) (l : List UInt8) (s d : Nat) (m : Bool) (q : Nat) (w : World) (ht : TapeOn PA PN L w t l) (hP : Sees w PA PN L) (hll : l.length ≤ 100000) (hb : w.heap[xb]? = some (.cells (ltV (x0 5 s d m q) Adr.zero) 37 (0, 0))) (hne : xb ≠ t) (hox : Out [xb] PA PN) :
    Calls Tryd.prog 39 #[.pointer (some ⟨t, 0, none⟩), .pointer (some ⟨xb, 0, none⟩)] w (FldGives PA PN L t xb (fieldsT (x0 5 s d m q) l) w) := by
  have st0 : FSt PA PN L t xb w w _ l := ⟨hb, ht, hP, Beside.refl _ _, hne, hox, (Array.getElem?_eq_some_iff.1 hb).1, ht.lt⟩
  have k0 : w.cell? ⟨xb, 0, none⟩ = some (.int .u8 5) := st0.cell 0
  obtain ⟨G, hG⟩ : ∃ G, G = fieldsT (x0 5 s d m q) l := ⟨_, rfl⟩
  rw [← hG]
  have hG2 : G = (vecT l).bind fun v l1 => (gT (numG 9223372036854775807 l1)).bind fun a l2 => (gT (numG 1099511627776 l2)).bind fun b l3 => (gT (numG 4294967295 l3)).bind fun c l4 => .ok { x0 5 s d m q with H := v, time := a, size := b, sum := c } l4 := by rw [hG]; rfl
  have HG := Lib.hid hG2
  have RD := takeVector_any PA PN L t l w ht hP hll
  clear hG hG2 ht hP hb hne hox
  cases gv : vecT l with
  | bad E =>
    rw [gv] at RD
    obtain rfl : G = .bad E := by rw [HG.out, gv]; rfl
    have NB := Lib.hid RD
    have ST := Lib.hid st0
    clear RD gv HG st0
    go_enter Tryd.func39, Tryd.ntmps39
    clear hll
    go_wp2_with fail
    refine NB.out.mono ?_
    rintro e wb ⟨rfl, hbb⟩
    have HB := Lib.hid (ST.out.bad hbb)
    clear hbb NB
    unfold fault
    go_wp2
    exact ⟨rfl, rfl, HB.out⟩
  | no =>
    rw [gv] at RD
    obtain rfl : G = .no := by rw [HG.out, gv]; rfl
    have NB := Lib.hid RD
    have ST := Lib.hid st0
    clear RD gv HG st0
    go_enter Tryd.func39, Tryd.ntmps39
    go_wp2_with fail
    refine NB.out.mono ?_
    rintro e w1 ⟨R, k, rc, rfl, hb1⟩
    have hbx : w1.heap[xb]? = _ := (hb1.block xb (Array.getElem?_eq_some_iff.1 ST.out.box).1 (by simp; exact ST.out.ne)).trans ST.out.box
    have c5 : w1.cell? ⟨xb, 5, none⟩ = some (.slice none 0 0) := by rw [cell_of_row w1 xb _ _ _ _ hbx]; rfl
    have f5 : w1.frozen? ⟨xb, 5, none⟩ = false := frozen_row0 hbx
    have FIN : Hid ((w1.setCell ⟨xb, 5, none⟩ (.slice R k rc)).heap[xb]? = some (.cells (ltV (x0 5 s d m q) { Adr.zero with Ha := R, hn := k, hc := rc }) 37 (0, 0)) ∧ Beside [t, xb] w (w1.setCell ⟨xb, 5, none⟩ (.slice R k rc))) := Lib.hid ⟨(heapSame hbx).trans rfl, (ST.out.bad hb1).setCell (by simp) _⟩
    clear hb1 hbx NB k0
    go_wp2
    go_ret
    exact ⟨_, _, rfl, FIN.out.1, FIN.out.2⟩
  | ok v l1 =>
    rw [gv] at RD
    have NB := Lib.hid RD
    have ST := Lib.hid st0
    have hl1 : l1.length ≤ 100000 := by have := (vecT_enc gv).1; have h2 := congrArg List.length this; rw [List.length_append] at h2; omega
    have HG1 : Hid (G = (gT (numG 9223372036854775807 l1)).bind fun a l2 => (gT (numG 1099511627776 l2)).bind fun b l3 => (gT (numG 4294967295 l3)).bind fun c l4 => .ok { x0 5 s d m q with H := v, time := a, size := b, sum := c } l4) := Lib.hid (by rw [HG.out, gv]; rfl)
    clear RD gv HG st0
    go_enter Tryd.func39, Tryd.ntmps39
    go_wp2_with fail
    refine NB.out.mono ?_
    rintro e w1 ⟨R, k, rc, rfl, own1, ht1, hb1⟩
    have ST1 := Lib.hid (ST.out.read hb1 ht1)
    have c5 : w1.cell? ⟨xb, 5, none⟩ = some (.slice none 0 0) := (ST1.out.cell 5).trans rfl
    have f5 := ST1.out.froz 5
    have ST2 := Lib.hid (ST1.out.set 5 (.slice R k rc))
    have OW2 : Hid ((w1.setCell ⟨xb, 5, none⟩ (.slice R k rc)).ownsRow w.heap.size 22 1 (.slice R k rc) k (Vec.us v)) := Lib.hid (Own.beside own1 ((Beside.refl [xb] w1).setCell (by simp) _) (by have := ST.out.old.1; simp; omega))
    clear own1 ht1 hb1 NB ST k0
    go_wp2_with fail
    generalize w1.setCell ⟨xb, 5, none⟩ (.slice R k rc) = w2 at ST2 OW2 ⊢
    have HG := HG1
    clear c5 f5 ST1 HG1
    cases ga : numG 9223372036854775807 l1 with
    | bad E =>
      obtain rfl : G = .bad E := by rw [HG.out, ga]; rfl
      have NB := Lib.hid (num_bad t 9223372036854775807 E l1 w2 (ST2.out.tape.at_ ST2.out.see) (by omega) ga)
      clear ga HG
      clear hll
      go_wp2_with fail
      refine NB.out.mono ?_
      rintro e wb ⟨rfl, hbb⟩
      have HB := Lib.hid (ST2.out.bad hbb)
      clear hbb NB
      unfold fault
      go_wp2
      exact ⟨rfl, rfl, HB.out⟩
    | ok a l2 =>
    have ba : a ≤ 9223372036854775807 := (Vec.numG_enc ga).2
    have hl2 : l2.length ≤ 100000 := by have := (Vec.numG_enc ga).1; have h2 := congrArg List.length this; rw [List.length_append] at h2; omega
    have NB := Lib.hid (num_ok t 9223372036854775807 a l1 l2 w2 ST2.out.tape ST2.out.see (by omega) ga)
    have Ga := Lib.hid ga
    clear ga
    go_wp2_with fail
    refine NB.out.mono ?_
    rintro e w3 ⟨rfl, ht, hb⟩
    have ST3 := Lib.hid (ST2.out.read hb ht)
    have HBB := Lib.hid hb
    clear ht hb NB
    have HG := Lib.hid (show G = (gT (numG 1099511627776 l2)).bind fun b l3 => (gT (numG 4294967295 l3)).bind fun c l4 => .ok { x0 5 s d m q with H := v, time := a, size := b, sum := c } l4 by rw [HG.out, Ga.out]; rfl)
    have OW3 := Lib.hid (Own.beside OW2.out HBB.out (by have := ST2.out.old.2; simp; omega))
    cases gb : numG 1099511627776 l2 with
    | bad E =>
      obtain rfl : G = .bad E := by rw [HG.out, gb]; rfl
      have NB := Lib.hid (num_bad t 1099511627776 E l2 w3 (ST3.out.tape.at_ ST3.out.see) (by omega) gb)
      clear gb HG
      clear hll
      go_wp2_with fail
      refine NB.out.mono ?_
      rintro e wb ⟨rfl, hbb⟩
      have HB := Lib.hid (ST3.out.bad hbb)
      clear hbb NB
      unfold fault
      go_wp2
      exact ⟨rfl, rfl, HB.out⟩
    | ok b l3 =>
    have bb : b ≤ 1099511627776 := (Vec.numG_enc gb).2
    have hl3 : l3.length ≤ 100000 := by have := (Vec.numG_enc gb).1; have h2 := congrArg List.length this; rw [List.length_append] at h2; omega
    have NB := Lib.hid (num_ok t 1099511627776 b l2 l3 w3 ST3.out.tape ST3.out.see (by omega) gb)
    have Gb := Lib.hid gb
    clear gb
    go_wp2_with fail
    refine NB.out.mono ?_
    rintro e w4 ⟨rfl, ht, hb⟩
    have ST4 := Lib.hid (ST3.out.read hb ht)
    have HBB := Lib.hid hb
    clear ht hb NB
    have HG := Lib.hid (show G = (gT (numG 4294967295 l3)).bind fun c l4 => .ok { x0 5 s d m q with H := v, time := a, size := b, sum := c } l4 by rw [HG.out, Gb.out]; rfl)
    have OW4 := Lib.hid (Own.beside OW3.out HBB.out (by have := ST2.out.old.2; simp; omega))
    cases gc : numG 4294967295 l3 with
    | bad E =>
      obtain rfl : G = .bad E := by rw [HG.out, gc]; rfl
      have NB := Lib.hid (num_bad t 4294967295 E l3 w4 (ST4.out.tape.at_ ST4.out.see) (by omega) gc)
      clear gc HG
      clear hll
      go_wp2_with fail
      refine NB.out.mono ?_
      rintro e wb ⟨rfl, hbb⟩
      have HB := Lib.hid (ST4.out.bad hbb)
      clear hbb NB
      unfold fault
      go_wp2
      exact ⟨rfl, rfl, HB.out⟩
    | ok c l4 =>
    have bc : c ≤ 4294967295 := (Vec.numG_enc gc).2
    have hl4 : l4.length ≤ 100000 := by have := (Vec.numG_enc gc).1; have h2 := congrArg List.length this; rw [List.length_append] at h2; omega
    have NB := Lib.hid (num_ok t 4294967295 c l3 l4 w4 ST4.out.tape ST4.out.see (by omega) gc)
    have Gc := Lib.hid gc
    clear gc
    go_wp2_with fail
    refine NB.out.mono ?_
    rintro e w5 ⟨rfl, ht, hb⟩
    have ST5 := Lib.hid (ST4.out.read hb ht)
    have HBB := Lib.hid hb
    clear ht hb NB
    have OW5 := Lib.hid (Own.beside OW4.out HBB.out (by have := ST2.out.old.2; simp; omega))
    obtain rfl : G = .ok { x0 5 s d m q with H := v, time := a, size := b, sum := c } l4 := by rw [HG.out, Gc.out]; rfl
    have hwc : IntKind.u32.wrap (c : Int) = (c : Int) := by rw [IntKind.wrap_u32]; omega
    have c8 : w5.cell? ⟨xb, 8, none⟩ = some (.int .u64 0) := (ST5.out.cell 8).trans rfl
    have c9 : w5.cell? ⟨xb, 9, none⟩ = some (.int .u64 0) := (ST5.out.cell 9).trans rfl
    have c10 : w5.cell? ⟨xb, 10, none⟩ = some (.int .u32 0) := (ST5.out.cell 10).trans rfl
    have f8 := ST5.out.froz 8
    have f9 := ST5.out.froz 9
    have f10 := ST5.out.froz 10
    have ST6 := Lib.hid (((ST5.out.set 8 (.int .u64 (a : Int))).set 9 (.int .u64 (b : Int))).set 10 (.int .u32 (c : Int)))
    have OW6 := Lib.hid (Own.beside OW5.out (((((Beside.refl [xb] w5).setCell (p := ⟨xb, 8, none⟩) (by simp) (.int .u64 (a : Int)))).setCell (p := ⟨xb, 9, none⟩) (by simp) (.int .u64 (b : Int))).setCell (p := ⟨xb, 10, none⟩) (by simp) (.int .u32 (c : Int))) (by have h1 := ST2.out.old.1; simp; omega))
    clear OW2 OW3 OW4 OW5 ST2 ST3 ST4 ST5 HBB HG Ga Gb Gc
    go_wp2
    go_ret
    exact ⟨⟨R, k, rc, none, 0, 0, none, 0, 0, none, 0, 0⟩, [], rfl, ST6.out.box, ⟨Vec.SeesU.of_own OW6.out, Fresh.of_own OW6.out (Nat.le_refl _), rfl, fun j r hj => (by simp [x0, zeroL] at hj), rfl, rfl, raw_nil _, Fresh.none _, (fun r hr => by cases hr), Sees.nil _ _, Fresh.none _⟩, ST6.out.tape, ST6.out.bes⟩
end Go.Proofs.YthdflbpmabcjlaaDoor.Lt
namespace Go.Proofs.YthdflbpmabcjlaaDoor.Lt
open Go Go.RowKit Go.Proofs.YthdflbpmabcjlaaDoor.Words Go.Proofs.YthdflbpmabcjlaaDoor.Enc Go.Proofs.YthdflbpmabcjlaaDoor.Evt Go.Proofs.YthdflbpmabcjlaaDoor.Made Go.Proofs.YthdflbpmabcjlaaDoor.Tape Go.Proofs.YthdflbpmabcjlaaDoor.Seg
set_option linter.unusedVariables false
set_option linter.unusedSimpArgs false

set_option maxRecDepth 100000 in
set_option maxHeartbeats 4000000 in
theorem fields_k6 (PA : Option Addr) (PN : Nat) (L : List UInt8) (t xb : Nat) (l : List UInt8) (s d : Nat) (m : Bool) (q : Nat) (w : World) (ht : TapeOn PA PN L w t l) (hP : Sees w PA PN L) (hll : l.length ≤ 100000) (hb : w.heap[xb]? = some (.cells (ltV (x0 6 s d m q) Adr.zero) 37 (0, 0))) (hne : xb ≠ t) (hox : Out [xb] PA PN) :
    Calls Tryd.prog 39 #[.pointer (some ⟨t, 0, none⟩), .pointer (some ⟨xb, 0, none⟩)] w (FldGives PA PN L t xb (fieldsT (x0 6 s d m q) l) w) := by
  have st0 : FSt PA PN L t xb w w _ l := ⟨hb, ht, hP, Beside.refl _ _, hne, hox, (Array.getElem?_eq_some_iff.1 hb).1, ht.lt⟩
  have k0 : w.cell? ⟨xb, 0, none⟩ = some (.int .u8 6) := st0.cell 0
  obtain ⟨G, hG⟩ : ∃ G, G = fieldsT (x0 6 s d m q) l := ⟨_, rfl⟩
  rw [← hG]
  have HG := Lib.hid (show G = (gT (numG 1099511627776 l)).bind fun a l1 => (gT (numG 1099511627776 l1)).bind fun b l2 => (gT (textG 4194304 l2)).bind fun T l3 => .ok { x0 6 s d m q with size := a, pos := b, bytes := T } l3 by rw [hG]; rfl)
  have ST := Lib.hid st0
  clear hG st0 ht hP hb hne hox
  go_enter Tryd.func39, Tryd.ntmps39
  cases ga : numG 1099511627776 l with
  | bad E =>
    obtain rfl : G = .bad E := by rw [HG.out, ga]; rfl
    have NB := Lib.hid (num_bad t 1099511627776 E l w (ST.out.tape.at_ ST.out.see) (by omega) ga)
    clear ga HG
    clear hll
    go_wp2_with fail
    refine NB.out.mono ?_
    rintro e wb ⟨rfl, hbb⟩
    have HB := Lib.hid (ST.out.bad hbb)
    clear hbb NB
    unfold fault
    go_wp2
    exact ⟨rfl, rfl, HB.out⟩
  | ok a l1 =>
  have ba : a ≤ 1099511627776 := (Vec.numG_enc ga).2
  have hl1 : l1.length ≤ 100000 := by have := (Vec.numG_enc ga).1; have h2 := congrArg List.length this; rw [List.length_append] at h2; omega
  have NB := Lib.hid (num_ok t 1099511627776 a l l1 w ST.out.tape ST.out.see (by omega) ga)
  have Ga := Lib.hid ga
  clear ga
  go_wp2_with fail
  refine NB.out.mono ?_
  rintro e w1 ⟨rfl, ht, hb⟩
  have ST1 := Lib.hid (ST.out.read hb ht)
  clear ht hb NB
  clear k0
  have HG := Lib.hid (show G = (gT (numG 1099511627776 l1)).bind fun b l2 => (gT (textG 4194304 l2)).bind fun T l3 => .ok { x0 6 s d m q with size := a, pos := b, bytes := T } l3 by rw [HG.out, Ga.out]; rfl)
  cases gb : numG 1099511627776 l1 with
  | bad E =>
    obtain rfl : G = .bad E := by rw [HG.out, gb]; rfl
    have NB := Lib.hid (num_bad t 1099511627776 E l1 w1 (ST1.out.tape.at_ ST1.out.see) (by omega) gb)
    clear gb HG
    clear hll
    go_wp2_with fail
    refine NB.out.mono ?_
    rintro e wb ⟨rfl, hbb⟩
    have HB := Lib.hid (ST1.out.bad hbb)
    clear hbb NB
    unfold fault
    go_wp2
    exact ⟨rfl, rfl, HB.out⟩
  | ok b l2 =>
  have bb : b ≤ 1099511627776 := (Vec.numG_enc gb).2
  have hl2 : l2.length ≤ 100000 := by have := (Vec.numG_enc gb).1; have h2 := congrArg List.length this; rw [List.length_append] at h2; omega
  have NB := Lib.hid (num_ok t 1099511627776 b l1 l2 w1 ST1.out.tape ST1.out.see (by omega) gb)
  have Gb := Lib.hid gb
  clear gb
  go_wp2_with fail
  refine NB.out.mono ?_
  rintro e w2 ⟨rfl, ht, hb⟩
  have ST2 := Lib.hid (ST1.out.read hb ht)
  clear ht hb NB
  have HG := Lib.hid (show G = (gT (textG 4194304 l2)).bind fun T l3 => .ok { x0 6 s d m q with size := a, pos := b, bytes := T } l3 by rw [HG.out, Gb.out]; rfl)
  cases gt : textG 4194304 l2 with
  | bad E =>
    obtain rfl : G = .bad E := by rw [HG.out, gt]; rfl
    have NB := Lib.hid (text_bad t 4194304 E l2 w2 (ST2.out.tape.at_ ST2.out.see) (by omega) (by omega) gt)
    clear gt HG
    clear hll
    go_wp2_with fail
    refine NB.out.mono ?_
    rintro e wb ⟨rfl, hbb⟩
    have HB := Lib.hid (ST2.out.bad hbb)
    clear hbb NB
    unfold fault
    go_wp2
    exact ⟨rfl, rfl, HB.out⟩
  | ok T l3 =>
    obtain rfl : G = .ok { x0 6 s d m q with size := a, pos := b, bytes := T } l3 := by rw [HG.out, gt]; rfl
    have NB := Lib.hid (text_ok t 4194304 T l2 l3 w2 ST2.out.tape ST2.out.see (by omega) (by omega) gt)
    clear gt HG
    go_wp2_with fail
    refine NB.out.mono ?_
    rintro e w3 ⟨B, n, k, rfl, own3, ht3, hb3⟩
    have ST3 := Lib.hid (ST2.out.read hb3 ht3)
    have c9 : w3.cell? ⟨xb, 9, none⟩ = some (.int .u64 0) := (ST3.out.cell 9).trans rfl
    have c11 : w3.cell? ⟨xb, 11, none⟩ = some (.int .u64 0) := (ST3.out.cell 11).trans rfl
    have c12 : w3.cell? ⟨xb, 12, none⟩ = some (.slice none 0 0) := (ST3.out.cell 12).trans rfl
    have f9 := ST3.out.froz 9
    have f11 := ST3.out.froz 11
    have f12 := ST3.out.froz 12
    have ST4 := Lib.hid (((ST3.out.set 9 (.int .u64 (a : Int))).set 11 (.int .u64 (b : Int))).set 12 (.slice B n k))
    have SE4 := Lib.hid (And.intro (OwnC.beside own3 (((((Beside.refl [xb] w3).setCell (p := ⟨xb, 9, none⟩) (by simp) (.int .u64 (a : Int)))).setCell (p := ⟨xb, 11, none⟩) (by simp) (.int .u64 (b : Int))).setCell (p := ⟨xb, 12, none⟩) (by simp) (.slice B n k)) (by have h1 := ST2.out.old.1; have h2 := ST2.out.bes.size; simp; omega)).sees (Fresh.of_ownC own3 (B := w.heap.size) ST2.out.bes.size))
    clear own3 ht3 hb3 NB ST ST1 ST2 ST3
    go_wp2
    go_ret
    exact ⟨⟨none, 0, 0, none, 0, 0, none, 0, 0, B, n, k⟩, [], rfl, ST4.out.box, ⟨seesU_nil _, Fresh.none _, rfl, fun j r hj => (by simp [x0, zeroL] at hj), rfl, rfl, raw_nil _, Fresh.none _, (fun r hr => by cases hr), SE4.out.1, SE4.out.2⟩, ST4.out.tape, ST4.out.bes⟩
end Go.Proofs.YthdflbpmabcjlaaDoor.Lt
