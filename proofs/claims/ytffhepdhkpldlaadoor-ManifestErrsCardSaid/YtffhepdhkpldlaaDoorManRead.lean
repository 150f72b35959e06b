/- manifest.Read: its contracts. -/
import Derived.Test.YtffhepdhkpldlaaDoorManDec
import Derived.Test.YtffhepdhkpldlaaDoorShtScan
import Derived.Deep.RegionHeld3
namespace Go.Proofs.YtffhepdhkpldlaaDoor.Man
open Go Go.RowKit Go.Proofs.YtffhepdhkpldlaaDoor.Words Go.Proofs.YtffhepdhkpldlaaDoor.Enc Go.Proofs.YtffhepdhkpldlaaDoor.Made Go.Proofs.YtffhepdhkpldlaaDoor.Tape Go.Proofs.YtffhepdhkpldlaaDoor.Vec Go.Proofs.YtffhepdhkpldlaaDoor.Dsk
set_option linter.unusedVariables false
set_option linter.unusedSimpArgs false

/-- The file's name. -/
abbrev mN : List UInt8 := [109, 97, 110, 105, 102, 101, 115, 116]
def errM (E : Nat) : Nat := if E = 2 ∨ E = 7 then E else 4
/-- Read, where sheet.Read tells an error. -/
def ReadErr (E : Nat) (w : World) (e : Ending) (w' : World) : Prop := e = .returned (.tuple #[zeroM, .int .i64 (E : Int)]) ∧ Below w.heap.size w w'

set_option maxRecDepth 100000 in
set_option maxHeartbeats 2000000 in
theorem read_err (d E : Nat) (w : World) (hE : E = 2 ∨ E = 4 ∨ E = 5 ∨ E = 6 ∨ E = 7)
    (HS : ∀ W, Below w.heap.size w W → Calls Tryd.prog 40 #[.pointer (some ⟨d, 0, none⟩), .string ⟨mN.toArray⟩] W fun e w' => e = .returned (.tuple #[Sht.zeroSheet, .int .i64 (E : Int)]) ∧ Below W.heap.size W w') :
    Calls Tryd.prog 19 #[.pointer (some ⟨d, 0, none⟩)] w (ReadErr (errM E) w) := by
  have hb0 : Below w.heap.size w (w.alloc (.cells zRow 26)) := (Below.refl _ _).alloc (Nat.le_refl _) _
  have g0 : (w.alloc (.cells zRow 26)).heap[w.heap.size]? = some (.cells zRow 26 (0, 0)) := heap_alloc_new w _
  have CALL := Lib.hid (HS _ hb0)
  unfold zRow at hb0 g0 CALL
  clear HS
  go_enter Tryd.func19, Tryd.ntmps19
  go_wp2_with fail
  refine CALL.out.mono ?_
  rintro e w1 ⟨rfl, hb1⟩
  have b1 := hb0.trans (hb1.mono hb0.size)
  have g1 := (hb1.block w.heap.size (Array.getElem?_eq_some_iff.1 g0).1).trans g0
  have al := (Below.refl w1.heap.size w1).alloc (Nat.le_refl _) (.cells #[.int .u8 0, .int .u64 0, .int .u64 0, .slice none 0 0, .int .i64 0, .int .i64 0] 78)
  have s2 := Sht.sheetAt_new w1 (.int .u8 0) (.int .u64 0) (.int .u64 0) (.slice none 0 0) (.int .i64 0) (.int .i64 0)
  have b2 := Lib.hid (b1.trans (al.mono b1.size))
  have g2 := (al.block w.heap.size (Array.getElem?_eq_some_iff.1 g1).1).trans g1
  obtain ⟨⟨s0, s1, s2', s3, s4, s5⟩, -⟩ := s2.cells
  unfold Sht.zeroSheet
  clear hb0 g0 CALL hb1 b1 g1 al s2
  have W' : True := trivial
  rcases hE with rfl | rfl | rfl | rfl | rfl
  case inl | inr.inr.inr.inr =>
    go_wp2_with (first
      | (refine wpList_putRow rfl 26 (.tmp 2) (.tmp 17) rfl w.heap.size 26 #[.int .i64 0, .int .u64 0, .slice none 0 0, .int .u64 0, .string ⟨#[]⟩] #[.int .i64 0, .int .u64 0, .slice none 0 0, .int .u64 0, .string ⟨#[]⟩] rfl rfl g2 (by kernel_rfl) rfl (by simp [Value.oneCell']) ?_))
    intro W' hW' hbe
    have BEL := Lib.hid (Below.beside b2.out hbe b2.out.size (by simp))
    obtain ⟨c0, c1, c2, c3, c4⟩ := box5 hW'
    clear hbe hW'
    go_wp2
    refine bodyPost_ret (v := .tuple #[.agg #[.int .i64 0, .int .u64 0, .slice none 0 0, .int .u64 0, .string ⟨#[]⟩], _]) (by simp [results, Tryd.results19, go_sem, c0, c1, c2, c3, c4]; rfl) rfl ?_
    exact ⟨rfl, BEL.out⟩
  all_goals
    go_wp2_with (first
      | (refine wpList_putRow rfl 26 (.tmp 2) (.tmp 29) rfl w.heap.size 26 #[.int .i64 0, .int .u64 0, .slice none 0 0, .int .u64 0, .string ⟨#[]⟩] #[.int .i64 0, .int .u64 0, .slice none 0 0, .int .u64 0, .string ⟨#[]⟩] rfl rfl g2 (by kernel_rfl) rfl (by simp [Value.oneCell']) ?_))
    intro W' hW' hbe
    have BEL := Lib.hid (Below.beside b2.out hbe b2.out.size (by simp))
    obtain ⟨c0, c1, c2, c3, c4⟩ := box5 hW'
    clear hbe hW'
    go_wp2
    refine bodyPost_ret (v := .tuple #[.agg #[.int .i64 0, .int .u64 0, .slice none 0 0, .int .u64 0, .string ⟨#[]⟩], .int .i64 4]) (by simp [results, Tryd.results19, go_sem, c0, c1, c2, c3, c4]) rfl ?_
    exact ⟨rfl, BEL.out⟩

theorem tGuardM : Tryd.prog.eqGuardType Tryd.prog.depth 50 = false := by kernel_rfl
theorem title_neq (k k2 : UInt8) (a b a2 b2 : Nat) (W : World) :
    (binOp .neq 50 (.agg #[.int .u8 (k.toNat : Int), .int .u64 (a : Int), .int .u64 (b : Int)]) (.agg #[.int .u8 (k2.toNat : Int), .int .u64 (a2 : Int), .int .u64 (b2 : Int)])).run Tryd.prog W = .ok (.bool (!decide (k = k2 ∧ a = a2 ∧ b = b2))) W := by
  rw [run_neq_struct, run_equalIn_agg _ _ _ _ _ Sht.tFields Sht.tHeld]
  simp only [Program.fieldsOf, Tryd.underlying50]
  by_cases h1 : k = k2
  · by_cases h2 : a = a2
    · by_cases h3 : b = b2
      · subst h1 h2 h3; simp [go_sem]
      · subst h1 h2; simp [go_sem, h3]; omega
    · subst h1; simp [go_sem, h2]; omega
  · have : (k.toNat : Int) ≠ (k2.toNat : Int) := fun e => h1 (UInt8.toNat_inj.1 (by omega))
    have h2 : ((k.toNat : Int) == (k2.toNat : Int)) = false := by rw [beq_eq_false_iff_ne]; exact this
    simp [go_sem, h1, h2]
/-- What a sheet is, as a manifest. -/
def readM (k : UInt8) (a b : Nat) (L : List (List UInt8)) (E : Nat) : Nat ⊕ Mn :=
  if E ≠ 0 then .inl 4 else
  match L with
  | [x] => (match decM x with | .inl _ => .inl 4 | .inr m => if k = 109 ∧ a = m.node.toNat ∧ b = m.serial then .inr m else .inl 4)
  | _ => .inl 4

set_option maxRecDepth 100000 in
set_option maxHeartbeats 2000000 in
theorem read_sheet (d good E : Nat) (k : UInt8) (a b : Nat) (L : List (List UInt8)) (w : World) (hL : ∀ x ∈ L, x.length ≤ 100000) (hLn : L.length ≤ 1000000000)
    (HS : ∀ W, Below w.heap.size w W → Calls Tryd.prog 40 #[.pointer (some ⟨d, 0, none⟩), .string ⟨mN.toArray⟩] W (Sht.TellsSheet k a b L good E W)) :
    Calls Tryd.prog 19 #[.pointer (some ⟨d, 0, none⟩)] w (DecGives (readM k a b L E) w) := by
  have hb0 : Below w.heap.size w (w.alloc (.cells zRow 26)) := (Below.refl _ _).alloc (Nat.le_refl _) _
  have g0 : (w.alloc (.cells zRow 26)).heap[w.heap.size]? = some (.cells zRow 26 (0, 0)) := heap_alloc_new w _
  have CALL := Lib.hid (HS _ hb0)
  obtain ⟨G, hG⟩ : ∃ G, G = readM k a b L E := ⟨_, rfl⟩
  rw [← hG]
  have HG := Lib.hid hG
  unfold zRow at hb0 g0 CALL
  clear HS hG
  go_enter Tryd.func19, Tryd.ntmps19
  go_wp2_with fail
  refine CALL.out.mono ?_
  rintro e w1 ⟨Al, nl, cl, vs, rfl, hown, heach, hb1⟩
  obtain ⟨EI, hEI⟩ : ∃ EI : Int, EI = (E : Int) := ⟨_, rfl⟩
  unfold Sht.sheetV
  rw [← hEI]
  have b1 := hb0.trans (hb1.mono hb0.size)
  have g1 := (hb1.block w.heap.size (Array.getElem?_eq_some_iff.1 g0).1).trans g0
  have al := (Below.refl w1.heap.size w1).alloc (Nat.le_refl _) (.cells #[.int .u8 (k.toNat : Int), .int .u64 (a : Int), .int .u64 (b : Int), .slice Al nl cl, .int .i64 (good : Int), .int .i64 EI] 78)
  have s2 := Sht.sheetAt_new w1 (.int .u8 (k.toNat : Int)) (.int .u64 (a : Int)) (.int .u64 (b : Int)) (.slice Al nl cl) (.int .i64 (good : Int)) (.int .i64 EI)
  have b2 := b1.trans (al.mono b1.size)
  have g2 := (al.block w.heap.size (Array.getElem?_eq_some_iff.1 g1).1).trans g1
  have hown2 := Own.below hown al (Nat.le_refl _)
  have heach2 := Sht.eachOwn_of heach al (Nat.le_refl _)
  have hz1 : w.heap.size < w1.heap.size := (Array.getElem?_eq_some_iff.1 g1).1
  obtain ⟨⟨s0, s1, s2', s3, s4, s5⟩, -⟩ := s2.cells
  have hnl : nl = L.length := by have h1 := hown.1; have h2 := heach.1; omega
  have HNL := Lib.hid hnl
  have HOWN := Lib.hid hown2
  have HEACH := Lib.hid heach2
  have B2 := Lib.hid b2
  have S2 := Lib.hid s2
  have HEI := Lib.hid hEI
  clear hb0 g0 CALL hb1 b1 g1 al s2 hown heach hown2 heach2 hnl b2 hEI
  have d0 : ((0 : Int) != 0) = false := rfl
  by_cases hE : E = 0
  case neg =>
    have hE1 : (EI != 0) = true := by rw [bne_iff_ne]; have := HEI.out; omega
    have hE2 : (EI == 0) = false := by rw [beq_eq_false_iff_ne]; have := HEI.out; omega
    have GD : Hid (G = .inl 4) := Lib.hid (by rw [HG.out]; unfold readM; rw [if_pos hE])
    clear hE
    go_wp2_with (first
      | (refine wpList_putRow rfl 26 (.tmp 2) (.tmp 29) rfl w.heap.size 26 #[.int .i64 0, .int .u64 0, .slice none 0 0, .int .u64 0, .string ⟨#[]⟩] #[.int .i64 0, .int .u64 0, .slice none 0 0, .int .u64 0, .string ⟨#[]⟩] rfl rfl g2 (by kernel_rfl) rfl (by simp [Value.oneCell']) ?_))
    intro W' hW' hbe
    have BEL := Lib.hid (Below.beside B2.out hbe B2.out.size (by simp))
    obtain ⟨c0, c1, c2, c3, c4⟩ := box5 hW'
    clear hbe hW'
    go_wp2
    refine bodyPost_ret (v := .tuple #[.agg #[.int .i64 0, .int .u64 0, .slice none 0 0, .int .u64 0, .string ⟨#[]⟩], .int .i64 4]) (by simp [results, Tryd.results19, go_sem, c0, c1, c2, c3, c4]) rfl ?_
    exact dec_bad GD.out rfl BEL.out
  case pos =>
  obtain rfl : EI = 0 := by have := HEI.out; omega
  subst hE
  by_cases hn1 : nl = 1
  case neg =>
    have hN1 : ((nl : Int) != 1) = true := by rw [bne_iff_ne]; omega
    have hN2 : ((nl : Int) == 1) = false := by rw [beq_eq_false_iff_ne]; omega
    have GD : Hid (G = .inl 4) := Lib.hid (by
      rw [HG.out]; unfold readM; rw [if_neg (by simp)]
      have := HNL.out
      match L, this with
      | [], _ => rfl
      | [x], h => exact absurd h hn1
      | x :: y :: r, _ => rfl)
    clear hn1
    go_wp2_with (first
      | (refine wpList_putRow rfl 26 (.tmp 2) (.tmp 29) rfl w.heap.size 26 #[.int .i64 0, .int .u64 0, .slice none 0 0, .int .u64 0, .string ⟨#[]⟩] #[.int .i64 0, .int .u64 0, .slice none 0 0, .int .u64 0, .string ⟨#[]⟩] rfl rfl g2 (by kernel_rfl) rfl (by simp [Value.oneCell']) ?_))
    intro W' hW' hbe
    have BEL := Lib.hid (Below.beside B2.out hbe B2.out.size (by simp))
    obtain ⟨c0, c1, c2, c3, c4⟩ := box5 hW'
    clear hbe hW'
    go_wp2
    refine bodyPost_ret (v := .tuple #[.agg #[.int .i64 0, .int .u64 0, .slice none 0 0, .int .u64 0, .string ⟨#[]⟩], .int .i64 4]) (by simp [results, Tryd.results19, go_sem, c0, c1, c2, c3, c4]) rfl ?_
    exact dec_bad GD.out rfl BEL.out
  case pos =>
  subst hn1
  obtain ⟨x, rfl⟩ : ∃ x, L = [x] := by
    have := HNL.out
    match L, this with
    | [x], _ => exact ⟨x, rfl⟩
  obtain ⟨Ax, cx, hx, ownx⟩ := HEACH.out.2 0 x rfl
  obtain ⟨g, rfl, hgb⟩ := Own.at_ HOWN.out (by omega)
  have hcg := HOWN.out.cells (g := g) rfl 0 _ hx
  simp only [Addr.add, Nat.zero_mul, Nat.add_zero, if_true] at hcg
  have hcl := (Own.cap HOWN.out).1
  have hxl : x.length ≤ 100000 := hL x (by simp)
  have hcx := ownx.cap
  have DEC := fun W hb => decode_any Ax x.length cx x W (ownx.sees.below hb) hcx.1 hxl
  have HG1 : Hid (G = match decM x with | .inl _ => .inl 4 | .inr m => if k = 109 ∧ a = m.node.toNat ∧ b = m.serial then .inr m else .inl 4) := Lib.hid (by rw [HG.out]; unfold readM; rw [if_neg (by simp)])
  clear HG HNL HEACH hL hxl hx
  cases hdm : decM x with
  | inl E0 =>
    have hE0 := decM_errs hdm
    have GD : Hid (G = .inl 4) := Lib.hid (by rw [HG1.out, hdm])
    have DEC2 := Lib.hid (DEC _ (Below.refl _ _))
    rw [hdm] at DEC2
    have dE : ((E0 : Int) != 0) = true := by rw [bne_iff_ne]; omega
    have dE2 : ((E0 : Int) == 0) = false := by rw [beq_eq_false_iff_ne]; omega
    clear DEC HG1 hdm hE0
    go_wp2_with fail
    refine DEC2.out.mono ?_
    rintro e w3 ⟨rfl, hb3⟩
    unfold zeroM
    have al := (Below.refl w3.heap.size w3).alloc (Nat.le_refl _) (.cells #[.int .i64 0, .int .u64 0, .slice none 0 0, .int .u64 0, .string ⟨#[]⟩] 26)
    have hb4 := hb3.trans (al.mono hb3.size)
    have B4 := Lib.hid (B2.out.trans (hb4.mono B2.out.size))
    have GZ := (hb4.block w.heap.size (Array.getElem?_eq_some_iff.1 g2).1).trans g2
    clear DEC2 hb3 hb4 al g2 s0 s1 s2' s3 s4 s5 hcg S2 B2 HOWN
    go_wp2_with fail
    generalize w3.alloc (.cells #[.int .i64 0, .int .u64 0, .slice none 0 0, .int .u64 0, .string ⟨#[]⟩] 26) = w4 at B4 GZ ⊢
    go_quiet (fail)
    have B4d := Lib.hid (fun (q : Nat) => B4.out.trans ((Chk.below_drewN w4 q).mono B4.out.size))
    go_wp2_with (first
      | (refine wpList_putRow rfl 26 (.tmp 2) (.tmp 47) rfl w.heap.size 26 #[.int .i64 0, .int .u64 0, .slice none 0 0, .int .u64 0, .string ⟨#[]⟩] #[.int .i64 0, .int .u64 0, .slice none 0 0, .int .u64 0, .string ⟨#[]⟩] rfl rfl GZ (by kernel_rfl) rfl (by simp [Value.oneCell']) ?_))
    intro W' hW' hbe
    have BEL := Lib.hid (Below.beside (B4d.out _) hbe (B4d.out _).size (by simp))
    obtain ⟨c0, c1, c2, c3, c4⟩ := box5 hW'
    clear hbe hW'
    go_wp2
    refine bodyPost_ret (v := .tuple #[.agg #[.int .i64 0, .int .u64 0, .slice none 0 0, .int .u64 0, .string ⟨#[]⟩], .int .i64 4]) (by simp [results, Tryd.results19, go_sem, c0, c1, c2, c3, c4]) rfl ?_
    exact dec_bad GD.out rfl BEL.out
  | inr m =>
    obtain ⟨-, hr, -⟩ := decM_ok hdm
    have HG2 : Hid (G = if k = 109 ∧ a = m.node.toNat ∧ b = m.serial then .inr m else .inl 4) := Lib.hid (by rw [HG1.out, hdm])
    have DEC2 := Lib.hid (DEC _ (Below.refl _ _))
    rw [hdm] at DEC2
    clear DEC HG1 hdm
    go_wp2_with fail
    refine DEC2.out.mono ?_
    rintro e w3 ⟨A3, n3, c3, rfl, own3, hb3⟩
    have TM := fun W => title_man m A3 n3 c3 W hr.n0 hr.n1
    unfold Mn.val Mn.row Sht.titleV at TM
    unfold Mn.val Mn.row
    have al := (Below.refl w3.heap.size w3).alloc (Nat.le_refl _) (.cells #[.int .i64 m.node, .int .u64 (m.serial : Int), .slice A3 n3 c3, .int .u64 (m.time : Int), .string m.fold] 26)
    have gm := heap_alloc_new w3 (.cells #[.int .i64 m.node, .int .u64 (m.serial : Int), .slice A3 n3 c3, .int .u64 (m.time : Int), .string m.fold] 26)
    have hb4 := hb3.trans (al.mono hb3.size)
    have own4 := Lib.hid (Own.lower (base' := w.heap.size + 1) (Own.below own3 al (Nat.le_refl _)) (by simp; omega))
    have B4 := Lib.hid (B2.out.trans (hb4.mono B2.out.size))
    have GZ := (hb4.block w.heap.size (Array.getElem?_eq_some_iff.1 g2).1).trans g2
    have S4 := S2.out.below hb4
    have hzz : w.heap.size < w3.heap.size := by have := (hb3.block w.heap.size (Array.getElem?_eq_some_iff.1 g2).1).trans g2; exact (Array.getElem?_eq_some_iff.1 this).1
    obtain ⟨⟨s0, s1, s2', s3, s4, s5⟩, -⟩ := S4.cells
    obtain ⟨m0, m1, m2, m3, m4⟩ := box5 gm
    have S4 := Lib.hid S4
    have GM := Lib.hid gm
    have hw1 : w1.heap.size < w3.heap.size + 1 := by have := (Array.getElem?_eq_some_iff.1 S4.out).1; simpa using this
    clear DEC2 hb3 hb4 al g2 hcg S2 B2 HOWN own3 gm ownx
    have tg := tGuardM
    go_wp2_with fail
    generalize hW4 : w3.alloc (.cells #[.int .i64 m.node, .int .u64 (m.serial : Int), .slice A3 n3 c3, .int .u64 (m.time : Int), .string m.fold] 26) = w4 at B4 GZ S4 GM own4 s0 s1 s2' m0 m1 m2 m3 m4 ⊢
    clear hW4
    generalize hg3 : w3.heap.size = g3 at GM m0 m1 m2 m3 m4 hzz ⊢
    generalize hg1 : w1.heap.size = g1 at S4 s0 s1 s2' ⊢
    have TIT : ∀ W, Below w4.heap.size w4 W → Calls Tryd.prog 38 #[.agg #[.int .i64 m.node, .int .u64 (m.serial : Int), .slice A3 n3 c3, .int .u64 (m.time : Int), .string m.fold]] W fun e w' => e = .returned (.agg #[.int .u8 109, .int .u64 (m.node.toNat : Int), .int .u64 (m.serial : Int)]) ∧ Hid (Below w4.heap.size w4 w') ∧
        (w'.cell? ⟨g1, 0, none⟩ = some (.int .u8 (k.toNat : Int)) ∧ w'.cell? ⟨g1, 1, none⟩ = some (.int .u64 (a : Int)) ∧ w'.cell? ⟨g1, 2, none⟩ = some (.int .u64 (b : Int))) ∧
        (w'.cell? ⟨g3, 0, none⟩ = some (.int .i64 m.node) ∧ w'.cell? ⟨g3, 1, none⟩ = some (.int .u64 (m.serial : Int)) ∧ w'.cell? ⟨g3, 2, none⟩ = some (.slice A3 n3 c3) ∧ w'.cell? ⟨g3, 3, none⟩ = some (.int .u64 (m.time : Int)) ∧ w'.cell? ⟨g3, 4, none⟩ = some (.string m.fold)) := fun W hW => by
      refine (TM W).mono ?_
      rintro e w' ⟨rfl, hb⟩
      have hb' := hW.trans (hb.mono hW.size)
      have c := (S4.out.below hb').cells.1
      exact ⟨rfl, Lib.hid hb', ⟨c.1, c.2.1, c.2.2.1⟩, box5 ((hb'.block g3 (Array.getElem?_eq_some_iff.1 GM.out).1).trans GM.out)⟩
    clear TM s3 s4 s5
    by_cases hT : k = 109 ∧ a = m.node.toNat ∧ b = m.serial
    case neg =>
      have GD : Hid (G = .inl 4) := Lib.hid (by rw [HG2.out, if_neg hT])
      have hq : ((k.toNat : Int) == 109) = false ∨ (((k.toNat : Int) == 109) = true ∧ ((a : Int) == (m.node.toNat : Int)) = false) ∨ (((k.toNat : Int) == 109) = true ∧ ((a : Int) == (m.node.toNat : Int)) = true ∧ ((b : Int) == (m.serial : Int)) = false) := by
        have hk : ((k.toNat : Int) == 109) = decide (k = 109) := by
          by_cases h : k = 109
          · subst h; rfl
          · rw [decide_eq_false h, beq_eq_false_iff_ne]
            exact fun e => h (UInt8.toNat_inj.1 (by have : (109 : UInt8).toNat = 109 := rfl; omega))
        have ha : ((a : Int) == (m.node.toNat : Int)) = decide (a = m.node.toNat) := by
          by_cases h : a = m.node.toNat
          · rw [decide_eq_true h, beq_iff_eq]; omega
          · rw [decide_eq_false h, beq_eq_false_iff_ne]; omega
        have hb : ((b : Int) == (m.serial : Int)) = decide (b = m.serial) := by
          by_cases h : b = m.serial
          · rw [decide_eq_true h, beq_iff_eq]; omega
          · rw [decide_eq_false h, beq_eq_false_iff_ne]; omega
        rw [hk, ha, hb]
        simp only [decide_eq_true_eq, decide_eq_false_iff_not]
        by_cases h1 : k = 109
        · by_cases h2 : a = m.node.toNat
          · exact .inr (.inr ⟨h1, h2, fun h3 => hT ⟨h1, h2, h3⟩⟩)
          · exact .inr (.inl ⟨h1, h2⟩)
        · exact .inl h1
      clear hT
      generalize (k.toNat : Int) = ki at hq TIT s0 S4
      generalize (a : Int) = ai at hq TIT s1 S4
      generalize (b : Int) = bi at hq TIT s2' S4
      generalize (m.node.toNat : Int) = ni at hq TIT
      rcases hq with q1 | ⟨q1, q2⟩ | ⟨q1, q2, q3⟩
      all_goals
        go_region_held3 (fun w' => (w'.cell? ⟨g1, 0, none⟩ = some (.int .u8 ki) ∧ w'.cell? ⟨g1, 1, none⟩ = some (.int .u64 ai) ∧ w'.cell? ⟨g1, 2, none⟩ = some (.int .u64 bi)) ∧
            (w'.cell? ⟨g3, 0, none⟩ = some (.int .i64 m.node) ∧ w'.cell? ⟨g3, 1, none⟩ = some (.int .u64 (m.serial : Int)) ∧ w'.cell? ⟨g3, 2, none⟩ = some (.slice A3 n3 c3) ∧ w'.cell? ⟨g3, 3, none⟩ = some (.int .u64 (m.time : Int)) ∧ w'.cell? ⟨g3, 4, none⟩ = some (.string m.fold))) (go_keep)
          (first
            | (go_at_call 38
               refine (TIT _ ?h0).mono ?_
               case h0 => first | exact Below.refl _ _ | exact (Below.refl _ _).drew
               rintro e w6 ⟨rfl, HB6, ⟨s0, s1, s2'⟩, ⟨m0, m1, m2, m3, m4⟩⟩))
        have B4d := Lib.hid (B4.out.trans (HB6.out.mono B4.out.size))
        have GZ := (HB6.out.block w.heap.size (Array.getElem?_eq_some_iff.1 GZ).1).trans GZ
        clear s0 s1 s2' m0 m1 m2 m3 m4
        go_wp2_with (first
          | (refine wpList_putRow rfl 26 (.tmp 2) (.tmp 47) rfl w.heap.size 26 #[.int .i64 0, .int .u64 0, .slice none 0 0, .int .u64 0, .string ⟨#[]⟩] #[.int .i64 0, .int .u64 0, .slice none 0 0, .int .u64 0, .string ⟨#[]⟩] rfl rfl GZ (by kernel_rfl) rfl (by simp [Value.oneCell']) ?_))
        intro W' hW' hbe
        have BEL := Lib.hid (Below.beside B4d.out hbe B4d.out.size (by simp))
        obtain ⟨c0, c1, c2, c3, c4⟩ := box5 hW'
        clear hbe hW'
        go_wp2
        refine bodyPost_ret (v := .tuple #[.agg #[.int .i64 0, .int .u64 0, .slice none 0 0, .int .u64 0, .string ⟨#[]⟩], .int .i64 4]) (by simp [results, Tryd.results19, go_sem, c0, c1, c2, c3, c4]) rfl ?_
        exact dec_bad GD.out rfl BEL.out
    case pos =>
      have GD : Hid (G = .inr m) := Lib.hid (by rw [HG2.out, if_pos hT])
      obtain ⟨h1, h2, h3⟩ := hT
      subst h1 h2 h3
      have e109 : ((109 : UInt8).toNat : Int) = 109 := rfl
      rw [e109] at TIT s0 S4
      clear e109
      go_region_held3 (fun w' => (w'.cell? ⟨g1, 0, none⟩ = some (.int .u8 109) ∧ w'.cell? ⟨g1, 1, none⟩ = some (.int .u64 (m.node.toNat : Int)) ∧ w'.cell? ⟨g1, 2, none⟩ = some (.int .u64 (m.serial : Int))) ∧
          (w'.cell? ⟨g3, 0, none⟩ = some (.int .i64 m.node) ∧ w'.cell? ⟨g3, 1, none⟩ = some (.int .u64 (m.serial : Int)) ∧ w'.cell? ⟨g3, 2, none⟩ = some (.slice A3 n3 c3) ∧ w'.cell? ⟨g3, 3, none⟩ = some (.int .u64 (m.time : Int)) ∧ w'.cell? ⟨g3, 4, none⟩ = some (.string m.fold))) (go_keep)
        (first
          | (go_at_call 38
             refine (TIT _ ?h0).mono ?_
             case h0 => first | exact Below.refl _ _ | exact (Below.refl _ _).drew
             rintro e w6 ⟨rfl, HB6, ⟨s0, s1, s2'⟩, ⟨m0, m1, m2, m3, m4⟩⟩))
      have B4d := Lib.hid (B4.out.trans (HB6.out.mono B4.out.size))
      have GZ := (HB6.out.block w.heap.size (Array.getElem?_eq_some_iff.1 GZ).1).trans GZ
      have GM6 := (HB6.out.block g3 (Array.getElem?_eq_some_iff.1 GM.out).1).trans GM.out
      have OWN6 := Lib.hid (Own.below own4.out HB6.out (Nat.le_refl _))
      clear s0 s1 s2' m0 m1 m2 m3 m4
      go_wp2_with (first
        | (refine wpList_getRow rfl 26 (.tmp 6) rfl g3 26 #[.int .i64 m.node, .int .u64 (m.serial : Int), .slice A3 n3 c3, .int .u64 (m.time : Int), .string m.fold] (0, 0) _ rfl GM6 Tryd.underlying26 rfl (by kernel_rfl) ?_)
        | (refine wpList_putRow rfl 26 (.tmp 2) (.tmp 48) rfl w.heap.size 26 #[.int .i64 0, .int .u64 0, .slice none 0 0, .int .u64 0, .string ⟨#[]⟩] #[.int .i64 m.node, .int .u64 (m.serial : Int), .slice A3 n3 c3, .int .u64 (m.time : Int), .string m.fold] rfl rfl GZ (by kernel_rfl) rfl (by simp [Value.oneCell']) ?_))
      intro W' hW' hbe
      have BEL := Lib.hid (Below.beside B4d.out hbe B4d.out.size (by simp))
      obtain ⟨c0, c1, c2, c3', c4⟩ := box5 hW'
      have OWNF := Lib.hid (Own.lower (base' := w.heap.size) (Own.beside OWN6.out hbe (fun z hz => by simp at hz; omega)) (by omega))
      clear hbe hW'
      go_wp2
      refine bodyPost_ret (v := .tuple #[.agg #[.int .i64 m.node, .int .u64 (m.serial : Int), .slice A3 n3 c3, .int .u64 (m.time : Int), .string m.fold], .int .i64 0]) (by simp [results, Tryd.results19, go_sem, c0, c1, c2, c3', c4]) rfl ?_
      exact dec_ok GD.out rfl OWNF.out BEL.out
end Go.Proofs.YtffhepdhkpldlaaDoor.Man
