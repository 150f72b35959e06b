/- Package fold: Have, Members, the mask of a set. -/
import Derived.Test.YtjceeojbnpcpfaaGreatFolK
import Derived.Test.YtjceeojbnpcpfaaGreatVecAll
namespace Go.Proofs.YtjceeojbnpcpfaaGreat.Fol
open Go Go.RowKit Go.Proofs.YtjceeojbnpcpfaaGreat.Words Go.Proofs.YtjceeojbnpcpfaaGreat.Enc Go.Proofs.YtjceeojbnpcpfaaGreat.Q Go.Proofs.YtjceeojbnpcpfaaGreat.Evt Go.Maps Go.Sort Go.Shelf
set_option linter.unusedVariables false
set_option linter.unusedSimpArgs false

theorem FoldAt.seesH {S : List Nat} {d mb : Nat} {F : Fo} {w : World} (h : FoldAt w S d mb F) : Vec.SeesU w (some ⟨d, 129, none⟩) 64 F.H := ⟨h.ok.h, fun _ => ⟨d, 129, rfl, fun j x hj => by
  have hj64 : j < 64 := by have h1 := (List.getElem?_eq_some_iff.1 hj).1; have h2 := h.ok.h; omega
  have h3 := h.cH hj64
  rw [show F.H.getD j 0 = x by simp [List.getD, hj]] at h3
  exact h3⟩⟩
set_option maxRecDepth 100000 in
theorem have_any (S : List Nat) (d mb : Nat) (F : Fo) (w : World) (h : FoldAt w S d mb F) :
    Calls Tryz.prog 34 #[.pointer (some ⟨d, 0, none⟩)] w (Vec.Trims w F.H 64) := by
  have TR := Lib.hid (Vec.trim_at (some ⟨d, 129, none⟩) 64 64 F.H w h.seesH (by omega) (by omega) (by omega))
  have c0 := h.c0
  have hlt := h.lt
  have hr := h.row
  unfold Vec.Trims at *
  obtain ⟨K, hK⟩ : ∃ K, K = Vec.trimN F.H 64 := ⟨_, rfl⟩
  rw [← hK] at TR ⊢
  clear h hK
  go_enter Tryz.func34, Tryz.ntmps34
  go_wp2_with fail
  refine TR.out.mono ?_
  rintro e w2 ⟨R, rc, rfl, h1, h2⟩
  have FIN := Lib.hid (And.intro h1 h2)
  clear h1 h2 TR
  go_wp2
  go_ret
  exact ⟨_, _, rfl, FIN.out⟩

def memL (F : Fo) : Nat → List Nat
  | 0 => []
  | j + 1 => memL F j ++ if memB F (j : Int) = true then [j] else []
theorem memL_len (F : Fo) (j : Nat) : (memL F j).length ≤ j := by
  induction j with
  | zero => simp [memL]
  | succ j ih =>
    unfold memL
    rw [List.length_append]
    split <;> simp <;> omega
def nodesV (l : List Nat) : List Value := l.map fun x : Nat => Value.int .i64 (x : Int)
theorem infoInt : (Tryz.prog.info? 3).map (fun i => (i.zero, i.size, i.bytes)) = some (some (.int .i64 0), 1, 8) := by kernel_rfl
set_option maxRecDepth 100000 in
set_option maxHeartbeats 1000000 in
theorem members_any (S : List Nat) (d mb : Nat) (F : Fo) (w : World) (h : FoldAt w S d mb F) :
    Calls Tryz.prog 38 #[.pointer (some ⟨d, 0, none⟩)] w fun e w' => ∃ A c, e = .returned (.slice A (memL F 64).length c) ∧ w'.ownsRow w.heap.size 3 1 (.slice A (memL F 64).length c) (memL F 64).length (nodesV (memL F 64)) ∧ Below w.heap.size w w' := by
  obtain ⟨i, hi, hz, hsz, hby⟩ := info_parts infoInt
  have H := Lib.hid h
  obtain ⟨ML, hML⟩ : ∃ ML, ML = memL F 64 := ⟨_, rfl⟩
  rw [← hML]
  have HML := Lib.hid hML
  clear h hML
  go_enter Tryz.func38, Tryz.ntmps38
  go_wp2_with fail
  go_loopw [3, 5] (fun a3 a5 wr => ∃ (j : Nat) (A : Option Addr) (m c : Nat), a5 = .int .i64 (j : Int) ∧ a3 = .slice A m c ∧ j ≤ 64 ∧ m ≤ j ∧ Hid (m = (memL F j).length) ∧ Hid (wr.ownsRow w.heap.size 3 1 (.slice A m c) m (nodesV (memL F j))) ∧ Hid (Below w.heap.size w wr)) (fun a3 a5 _ => 64 - (intOf a5).toNat)
  case atStart => exact ⟨0, none, 0, 0, rfl, rfl, by omega, by omega, Lib.hid rfl, Lib.hid (World.ownsRow_nil _ _ _ _), Lib.hid (Below.refl _ _)⟩
  case round =>
    obtain ⟨j, A, m, c, rfl, rfl, hj, hmj, HM, HO, HB⟩ := hrel
    by_cases h1 : j < 64
    · have hd : decide ((j : Int) < 64) = true := decide_eq_true (by omega)
      have MB := Lib.hid (member_any (j : Int) wr (H.out.below HB.out))
      obtain ⟨x, hx⟩ : ∃ x, x = memB F (j : Int) := ⟨_, rfl⟩
      rw [← hx] at MB
      have HX := Lib.hid hx
      clear hx
      cases x with
      | true =>
        go_wp2_with fail
        refine MB.out.mono ?_
        rintro e w1 ⟨rfl, hb1⟩
        have hb0 := HB.out
        have o1 := Own.below HO.out hb1 (Nat.le_refl _)
        have hs1 := hb0.size
        have hs2 := hb1.size
        have o2 := World.ownsRow.alloc o1 (.cells #[.int .i64 (j : Int)] 3)
        have HL : Hid (memL F (j + 1) = memL F j ++ [j]) := Lib.hid (by rw [memL, if_pos HX.out.symm])
        have HB1 := Lib.hid hb1
        clear hb1 MB hb0 o1
        go_wp2_with (first | (at_builtin; (refine wpList_append_own _ rfl _ _ 86 rfl w.heap.size 3 i (.int .i64 0) 1 8 Tryz.underlying86 hi hz hsz hby rfl (by decide) (.slice A m c) m (nodesV (memL F j)) rfl o2 ⟨w1.heap.size, 0, none⟩ 1 1 [.int .i64 (j : Int)] rfl rfl ?c1 ?c2 ?c3 ?c4 ?c5 ?_)))
        case c1 =>
          intro j u hj
          match j, hj with
          | 0, hj => simp at hj; subst hj; simp [Addr.add]
        case c2 => intro u hu; simp at hu; subst hu; rfl
        case c3 => unfold maxLen; omega
        case c4 => omega
        case c5 => simp; omega
        intro v' w3 hown3 hgrow _
        have hb3 : Below w.heap.size (w1.alloc (.cells #[.int .i64 (j : Int)] 3)) w3 := (Below.refl _ _).grown hgrow (by simp; omega) (fun g hg => by have := (o2.lt g hg).1; omega)
        have HB3 := Lib.hid ((HB.out.trans (HB1.out.mono hs1)).trans (((Below.refl _ _).alloc (by omega) _).trans hb3))
        obtain ⟨A3, c3, rfl, _⟩ := Own.shape hown3
        have HO3 := Lib.hid hown3
        clear hown3 hb3 hgrow o2
        go_wp2
        go_roundw
        case rel => exact ⟨j + 1, A3, m + 1, c3, by simp, rfl, by omega, by omega, Lib.hid (by rw [HL.out, List.length_append, ← HM.out]; rfl), Lib.hid (by rw [HL.out]; simpa [nodesV] using HO3.out), HB3⟩
        case measure => simp [intOf]; omega
      | false =>
        go_wp2_with fail
        refine MB.out.mono ?_
        rintro e w1 ⟨rfl, hb1⟩
        have hs1 := HB.out.size
        have HO1 := Lib.hid (Own.below HO.out hb1 (Nat.le_refl _))
        have HB1 := Lib.hid (HB.out.trans (hb1.mono hs1))
        have HL : Hid (memL F (j + 1) = memL F j) := Lib.hid (by rw [memL, if_neg (by rw [← HX.out]; simp)]; simp)
        clear hb1 MB
        go_wp2
        go_roundw
        case rel => exact ⟨j + 1, A, m, c, by simp, rfl, by omega, by omega, Lib.hid (by rw [HL.out]; exact HM.out), Lib.hid (by rw [HL.out]; exact HO1.out), HB1⟩
        case measure => simp [intOf]; omega
    · have hd : decide ((j : Int) < 64) = false := decide_eq_false (by omega)
      obtain rfl : j = 64 := by omega
      go_wp2
      go_ret
      have hm := HM.out
      have ho := HO.out
      rw [← HML.out] at hm ho
      subst hm
      exact ⟨A, c, rfl, ho, HB.out⟩
end Go.Proofs.YtjceeojbnpcpfaaGreat.Fol
