/- sheet.titleOf, of any bytes. -/
import Derived.Test.YtffhepdhkpldlaaDoorBSheet
namespace Go.Proofs.YtffhepdhkpldlaaDoor.Sht
open Go Go.RowKit Go.Proofs.YtffhepdhkpldlaaDoor.Words Go.Proofs.YtffhepdhkpldlaaDoor.Enc Go.Proofs.YtffhepdhkpldlaaDoor.Made Go.Proofs.YtffhepdhkpldlaaDoor.Tape
set_option linter.unusedVariables false
set_option linter.unusedSimpArgs false

/-- What is left behind the marks, or the error's number. -/
def markG : List UInt8 → List UInt8 → Nat ⊕ List UInt8
  | [], l => .inr l
  | _ :: _, [] => .inl 5
  | m :: ms, b :: l => if b = m then markG ms l else .inl 4
def marks : List UInt8 := [97, 110, 97, 49]
/-- The title that such contents are, or the error's number. -/
def titleG (l : List UInt8) : Nat ⊕ (UInt8 × Nat × Nat) :=
  match markG marks l with
  | .inl E => .inl E
  | .inr l1 =>
  match byteG l1 with
  | .bad E => .inl E
  | .ok k l2 =>
  match numG 18446744073709551615 l2 with
  | .bad E => .inl E
  | .ok a l3 =>
  match numG 18446744073709551615 l3 with
  | .bad E => .inl E
  | .ok b l4 => if l4 ≠ [] then .inl 4 else .inr (k, a, b)
def zeroT : Value := .agg #[.int .u8 0, .int .u64 0, .int .u64 0]
def zeroTRow : Array Value := #[.int .u8 0, .int .u64 0, .int .u64 0]
def TitGives (g : Nat ⊕ (UInt8 × Nat × Nat)) (w : World) (e : Ending) (w' : World) : Prop :=
  match g with
  | .inl E => e = .returned (.tuple #[zeroT, .int .i64 (E : Int)]) ∧ Below w.heap.size w w'
  | .inr (k, a, b) => e = .returned (.tuple #[titleV k a b, .int .i64 0]) ∧ Below w.heap.size w w'
theorem tit_bad {g : Nat ⊕ (UInt8 × Nat × Nat)} {E : Nat} {w w' : World} {v : Value} (h : g = .inl E) (hv : v = .tuple #[zeroT, .int .i64 (E : Int)]) (hb : Below w.heap.size w w') : TitGives g w (.returned v) w' := by
  subst h
  subst hv
  exact ⟨rfl, hb⟩
theorem tit_ok {g : Nat ⊕ (UInt8 × Nat × Nat)} {k : UInt8} {a b : Nat} {w w' : World} {v : Value} (h : g = .inr (k, a, b)) (hv : v = .tuple #[titleV k a b, .int .i64 0]) (hb : Below w.heap.size w w') : TitGives g w (.returned v) w' := by
  subst h
  subst hv
  exact ⟨rfl, hb⟩
theorem box3 {w : World} {b : Nat} {v0 v1 v2 : Value} {T : TypeId} {f : Nat × Nat} (h : w.heap[b]? = some (.cells #[v0, v1, v2] T f)) :
    w.cell? ⟨b, 0, none⟩ = some v0 ∧ w.cell? ⟨b, 1, none⟩ = some v1 ∧ w.cell? ⟨b, 2, none⟩ = some v2 := by
  refine ⟨?_, ?_, ?_⟩ <;> (rw [cell_of_row w b _ _ _ _ h]; rfl)
theorem markG_cons (m b : UInt8) (ms l : List UInt8) : markG (m :: ms) (b :: l) = if b = m then markG ms l else .inl 4 := rfl
theorem markG_drop (j : Nat) (u : UInt8) (h : marks[j]? = some u) : marks.drop j = u :: marks.drop (j + 1) := by
  match j, h with
  | 0, h => simp [marks] at h; subst h; rfl
  | 1, h => simp [marks] at h; subst h; rfl
  | 2, h => simp [marks] at h; subst h; rfl
  | 3, h => simp [marks] at h; subst h; rfl
theorem markG_errs : ∀ {ms l : List UInt8} {E : Nat}, markG ms l = .inl E → E = 4 ∨ E = 5
  | [], l, E, h => by cases h
  | m :: ms, [], E, h => by simp [markG] at h; omega
  | m :: ms, b :: l, E, h => by
    rw [markG_cons] at h
    by_cases hb : b = m
    · rw [if_pos hb] at h; exact markG_errs h
    · rw [if_neg hb] at h; injection h with h; omega
theorem tk_errs5 : ∀ (l : List UInt8) (i n : Nat), (tk i n l).2.2 = 0 ∨ (tk i n l).2.2 = 4 ∨ (tk i n l).2.2 = 5
  | [], i, n => .inr (.inr rfl)
  | b :: r, i, n => by
    unfold tk
    split
    · exact .inr (.inl rfl)
    · split
      · exact .inl rfl
      · exact tk_errs5 r _ _
theorem tnum_errs {most E : Nat} {l : List UInt8} (h : numG most l = .bad E) : E = 4 ∨ E = 5 ∨ E = 6 := by
  have := tk_errs5 l 0 0
  rcases numG_bad h with ⟨h1, h2⟩ | ⟨-, -, h2⟩ <;> omega
theorem titleG_errs {l : List UInt8} {E : Nat} (h : titleG l = .inl E) : E = 4 ∨ E = 5 ∨ E = 6 := by
  unfold titleG at h
  cases h1 : markG marks l with
  | inl E1 => rw [h1] at h; injection h with h; subst h; have := markG_errs h1; omega
  | inr l1 =>
  rw [h1] at h
  simp only [] at h
  cases l1 with
  | nil => simp [byteG] at h; omega
  | cons k l2 =>
  simp only [byteG] at h
  cases h3 : numG 18446744073709551615 l2 with
  | bad E1 => rw [h3] at h; injection h with h; subst h; exact tnum_errs h3
  | ok a l3 =>
  rw [h3] at h
  simp only [] at h
  cases h4 : numG 18446744073709551615 l3 with
  | bad E1 => rw [h4] at h; injection h with h; subst h; exact tnum_errs h4
  | ok b l4 =>
  rw [h4] at h
  simp only [] at h
  by_cases hr : l4 ≠ []
  · rw [if_pos hr] at h; injection h with h; omega
  · rw [if_neg hr] at h; cases h
theorem titleG_ne {l : List UInt8} {E : Nat} (h : titleG l = .inl E) : E ≠ 0 := by have := titleG_errs h; omega
/-- titleOf's results' boxes, the marks' row at g, and what was there. -/
structure RetT (w W : World) : Prop where
  z : W.heap[w.heap.size]? = some (.cells zeroTRow 50 (0, 0))
  e : W.heap[w.heap.size + 1]? = some (.cells #[.int .i64 0] 36 (0, 0))
  b : Below w.heap.size w W
theorem RetT.lt {w W : World} (h : RetT w W) : w.heap.size + 1 < W.heap.size := (Array.getElem?_eq_some_iff.1 h.e).1
theorem RetT.beside {w W W' : World} (h : RetT w W) {t : Nat} (ht : w.heap.size + 1 < t) (hb : Beside [t] W W') : RetT w W' :=
  ⟨(hb.block w.heap.size (by have := h.lt; omega) (by simp; omega)).trans h.z, (hb.block (w.heap.size + 1) h.lt (by simp; omega)).trans h.e, Below.beside h.b hb h.b.size (by simp; omega)⟩
theorem RetT.below {w W W' : World} (h : RetT w W) (hb : Below W.heap.size W W') : RetT w W' :=
  ⟨(hb.block w.heap.size (by have := h.lt; omega)).trans h.z, (hb.block (w.heap.size + 1) h.lt).trans h.e, h.b.trans (hb.mono h.b.size)⟩
structure StT (A : Option Addr) (n : Nat) (l : List UInt8) (w W : World) (r : List UInt8) : Prop where
  ret : RetT w W
  tape : TapeOn A n l W (w.heap.size + 1 + 1) r
  see : Sees W A n l
theorem StT.read {A : Option Addr} {n : Nat} {l : List UInt8} {w W W' : World} {r r' : List UInt8} (h : StT A n l w W r) (hb : Beside [w.heap.size + 1 + 1] W W') (ht : TapeOn A n l W' (w.heap.size + 1 + 1) r') : StT A n l w W' r' :=
  ⟨h.ret.beside (by omega) hb, ht, h.see.beside hb (by obtain ⟨A', n', c', hb', -⟩ := h.tape; exact sees_off hb' h.see)⟩
theorem StT.below {A : Option Addr} {n : Nat} {l : List UInt8} {w W W' : World} {r : List UInt8} (h : StT A n l w W r) (hb : Below W.heap.size W W') : StT A n l w W' r :=
  ⟨h.ret.below hb, h.tape.keep (hb.block _ h.tape.lt), h.see.below hb⟩

set_option maxRecDepth 100000 in
set_option maxHeartbeats 4000000 in
theorem titleOf_all (A : Option Addr) (n c : Nat) (l : List UInt8) (w : World) (hs : Sees w A n l) (hc : n ≤ c) (hn : n ≤ 900000000) :
    Calls Tryd.prog 73 #[.slice A n c] w (TitGives (titleG l) w) := by
  have hln := hs.1
  obtain ⟨G, hG⟩ : ∃ G, G = titleG l := ⟨_, rfl⟩
  rw [← hG]
  have HG := Lib.hid hG
  clear hG
  have hb0 : Below w.heap.size w ((w.alloc (.cells zeroTRow 50)).alloc (.cells #[.int .i64 0] 36)) := ((Below.refl _ _).alloc (Nat.le_refl _) _).alloc (by simp) _
  have hm0 : ((w.alloc (.cells zeroTRow 50)).alloc (.cells #[.int .i64 0] 36)).heap[w.heap.size]? = some (.cells zeroTRow 50 (0, 0)) := by
    rw [Below.heap_alloc _ _ _ (by simp)]
    exact heap_alloc_new w _
  have hm1 : ((w.alloc (.cells zeroTRow 50)).alloc (.cells #[.int .i64 0] 36)).heap[w.heap.size + 1]? = some (.cells #[.int .i64 0] 36 (0, 0)) := by
    have := heap_alloc_new (w.alloc (.cells zeroTRow 50)) (.cells #[.int .i64 0] 36)
    simpa using this
  have ret0 : RetT w ((w.alloc (.cells zeroTRow 50)).alloc (.cells #[.int .i64 0] 36)) := ⟨hm0, hm1, hb0⟩
  have hs0 := hs.below hb0
  have hz0 : ((w.alloc (.cells zeroTRow 50)).alloc (.cells #[.int .i64 0] 36)).heap.size = w.heap.size + 1 + 1 := by simp
  clear hm0 hm1 hb0
  unfold zeroTRow at ret0 hs0 hz0
  go_enter_defers Tryd.func73, Tryd.ntmps73
  go_wp2_with fail
  generalize hW0 : (w.alloc (.cells #[.int .u8 0, .int .u64 0, .int .u64 0] 50)).alloc (.cells #[.int .i64 0] 36) = W0 at ret0 hs0 hz0 ⊢
  clear hW0 hs
  refine (newTape_on A n c l W0 hs0 hc (by omega)).mono ?_
  rintro e w1 ⟨rfl, ht1, hb1⟩
  rw [hz0] at ht1 ⊢
  have st1 : StT A n l w w1 l := ⟨ret0.below hb1, ht1, hs0.below hb1⟩
  clear ret0 hs0 hz0 hb1 ht1
  have hconv := Lib.run_convert_bytes_const (P := Tryd.prog) w1 27 5 #[.int .u8 97, .int .u8 110, .int .u8 97, .int .u8 49] 4 4 Tryd.underlying27 Tryd.underlying5
  go_wp2_with fail
  have hbm : Below w1.heap.size w1 (w1.alloc (.cells #[.int .u8 97, .int .u8 110, .int .u8 97, .int .u8 49] 5 (4, 5))) := (Below.refl _ _).alloc (Nat.le_refl _) _
  have gm : (w1.alloc (.cells #[.int .u8 97, .int .u8 110, .int .u8 97, .int .u8 49] 5 (4, 5))).heap[w1.heap.size]? = some (.cells #[.int .u8 97, .int .u8 110, .int .u8 97, .int .u8 49] 5 (4, 5)) := heap_alloc_new w1 _
  have st2 := st1.below hbm
  have hgt : w1.heap.size ≠ w.heap.size + 1 + 1 := by have := st1.tape.lt; omega
  generalize w1.alloc (.cells #[.int .u8 97, .int .u8 110, .int .u8 97, .int .u8 49] 5 (4, 5)) = W2 at gm st2 ⊢
  generalize w1.heap.size = g at gm hgt ⊢
  clear hconv hbm st1
  obtain ⟨M, hM⟩ : ∃ M, M = markG marks l := ⟨_, rfl⟩
  have HM := Lib.hid hM
  clear hM
  go_loopw [13] (fun x wr => ∃ (j : Nat) (r : List UInt8), x = .int .i64 (j : Int) ∧ j ≤ 4 ∧ r.length ≤ 900000000 ∧ Hid (M = markG (marks.drop j) r) ∧ StT A n l w wr r ∧ Beside [w.heap.size + 1 + 1] W2 wr) (fun x _ => 4 - (intOf x).toNat)
  case atStart => exact ⟨0, l, rfl, by omega, by omega, HM, st2, Beside.refl _ _⟩
  case round =>
    obtain ⟨j, r, rfl, hj, hr, HJ, st, hbj⟩ := hrel
    by_cases hlt : j < 4
    · have hg := (hbj.block g (Array.getElem?_eq_some_iff.1 gm).1 (by simpa using hgt)).trans gm
      obtain ⟨u, hu, hcell⟩ : ∃ u : UInt8, marks[j]? = some u ∧ wr.cell? ⟨g, j, none⟩ = some (.int .u8 (u.toNat : Int)) := by
        rw [cell_of_row wr g j _ _ _ hg]
        match j, hlt with
        | 0, _ => exact ⟨97, rfl, rfl⟩
        | 1, _ => exact ⟨110, rfl, rfl⟩
        | 2, _ => exact ⟨97, rfl, rfl⟩
        | 3, _ => exact ⟨49, rfl, rfl⟩
      have HJ2 : Hid (M = markG (u :: marks.drop (j + 1)) r) := Lib.hid (by rw [HJ.out, markG_drop j u hu])
      clear hu hg HJ
      cases r with
      | nil =>
        have NB := Lib.hid (byte_bad (w.heap.size + 1 + 1) wr (st.tape.at_ st.see))
        have RT0 := Lib.hid st.ret
        go_wp2_with fail
        refine NB.out.mono ?_
        rintro e wb ⟨rfl, rfl⟩
        have GD := Lib.hid (show G = .inl 5 by rw [HG.out]; unfold titleG; rw [← HM.out, HJ2.out]; rfl)
        have RT := Lib.hid (RT0.out)
        unfold fault
        go_wp2
        refine leaves_cons (f := 29) (args := #[.pointer (some ⟨w.heap.size + 1, 0, none⟩)]) (by simp) (by simp [go_sem]) ?_
        refine (caught_bad (w.heap.size + 1) 5 [] wr 0 36 RT.out.e).mono ?_
        rintro e u' w9 ⟨rfl, rfl, hst, hbe9⟩
        have j0 := (hbe9.block w.heap.size (by have := RT.out.lt; omega) (by simp)).trans RT.out.z
        have BEL := Lib.hid (Below.beside RT.out.b hbe9 RT.out.b.size (by simp))
        obtain ⟨c0, c1, c2⟩ := box3 j0
        have e0 : w9.cell? ⟨w.heap.size + 1, 0, none⟩ = some (.int .i64 ((5 : Nat) : Int)) := by rw [cell_of_row w9 (w.heap.size + 1) _ _ _ _ hst]; rfl
        clear hst hbe9 j0
        simp [Leaves, settle, results, Tryd.results73, go_sem, c0, c1, c2, e0]
        exact tit_bad GD.out rfl BEL.out
      | cons b r' =>
        have hr' : r'.length ≤ 900000000 := by simp at hr; omega
        have NB := Lib.hid (byte_ok (w.heap.size + 1 + 1) b r' wr st.tape st.see hr')
        have RT0 := Lib.hid st.ret
        have ST0 := Lib.hid st
        clear st
        by_cases hbu : b = u
        · have d1 : ((b.toNat : Int) != (u.toNat : Int)) = false := by rw [hbu]; simp
          have d2 : ((b.toNat : Int) == (u.toNat : Int)) = true := by rw [hbu]; simp
          have HJ3 : Hid (M = markG (marks.drop (j + 1)) r') := Lib.hid (by rw [HJ2.out, markG_cons, if_pos hbu])
          clear hbu HJ2
          generalize (b.toNat : Int) = bi at d1 d2 NB
          generalize (u.toNat : Int) = ui at d1 d2 hcell
          go_wp2_with fail
          refine NB.out.mono ?_
          rintro e w3 ⟨rfl, ht3, hb3⟩
          have ST3 := Lib.hid (ST0.out.read hb3 ht3)
          have HB3 := Lib.hid (hbj.trans hb3 fun x hx => .inl hx)
          clear ht3 hb3 hbj NB
          go_wp2
          go_roundw
          case rel => exact ⟨j + 1, r', rfl, by omega, hr', HJ3, ST3.out, HB3.out⟩
          case measure => simp [intOf]; omega
        · have hne : (b.toNat : Int) ≠ (u.toNat : Int) := fun e => hbu (UInt8.toNat_inj.1 (by omega))
          have d1 : ((b.toNat : Int) != (u.toNat : Int)) = true := by rw [bne_iff_ne]; exact hne
          have d2 : ((b.toNat : Int) == (u.toNat : Int)) = false := by rw [beq_eq_false_iff_ne]; exact hne
          have GD := Lib.hid (show G = .inl 4 by rw [HG.out]; unfold titleG; rw [← HM.out, HJ2.out, markG_cons, if_neg hbu])
          clear hne hbu HJ2 HG
          generalize (b.toNat : Int) = bi at d1 d2 NB
          generalize (u.toNat : Int) = ui at d1 d2 hcell
          go_wp2_with fail
          refine NB.out.mono ?_
          rintro e w3 ⟨rfl, ht3, hb3⟩
          have RT := Lib.hid (RT0.out.beside (by omega) hb3)
          clear ht3 hb3 hbj NB RT0 ST0
          have y0 := RT.out.z
          unfold zeroTRow at y0
          go_wp2_with (first
            | (refine wpList_putRow rfl 50 (.tmp 2) (.tmp 21) rfl w.heap.size 50 #[.int .u8 0, .int .u64 0, .int .u64 0] #[.int .u8 0, .int .u64 0, .int .u64 0] rfl rfl y0 (by kernel_rfl) rfl (by simp [Value.oneCell']) ?_))
          intro W' hW' hbe
          have j1 := (hbe.block (w.heap.size + 1) RT.out.lt (by simp)).trans RT.out.e
          have BEL := Lib.hid ((Below.beside RT.out.b hbe RT.out.b.size (by simp)).setCell (p := ⟨w.heap.size + 1, 0, none⟩) (by simp))
          have e0 : W'.cell? ⟨w.heap.size + 1, 0, none⟩ = some (.int .i64 0) := by rw [cell_of_row W' (w.heap.size + 1) _ _ _ _ j1]; rfl
          have y1 := frozen_row0 (i := 0) j1
          obtain ⟨c0, c1, c2⟩ := box3 hW'
          go_wp2
          refine leaves_cons (f := 29) (args := #[.pointer (some ⟨w.heap.size + 1, 0, none⟩)]) (by simp) (by simp [go_sem]) ?_
          refine (caught_idle _ _).mono ?_
          rintro e u' w'' ⟨rfl, rfl, rfl⟩
          simp [Leaves, settle, results, Tryd.results73, go_sem, c0, c1, c2, e0]
          exact tit_bad GD.out rfl (BEL.out _)
    · obtain rfl : j = 4 := by omega
      have HJ2 : Hid (M = .inr r) := Lib.hid (by rw [HJ.out]; rfl)
      have HG2 : Hid (G = match byteG r with
          | .bad E => .inl E
          | .ok k l2 =>
          match numG 18446744073709551615 l2 with
          | .bad E => .inl E
          | .ok a l3 =>
          match numG 18446744073709551615 l3 with
          | .bad E => .inl E
          | .ok b l4 => if l4 ≠ [] then .inl 4 else .inr (k, a, b)) := Lib.hid (by rw [HG.out]; unfold titleG; rw [← HM.out, HJ2.out])
      clear HJ HG HM HJ2 gm hbj
      have ST0 := Lib.hid st
      clear st
      cases r with
      | nil =>
        have NB := Lib.hid (byte_bad (w.heap.size + 1 + 1) wr (ST0.out.tape.at_ ST0.out.see))
        go_wp2_with fail
        refine NB.out.mono ?_
        rintro e wb ⟨rfl, rfl⟩
        have GD := Lib.hid (show G = .inl 5 by rw [HG2.out]; rfl)
        have RT := Lib.hid (ST0.out.ret)
        unfold fault
        go_wp2
        refine leaves_cons (f := 29) (args := #[.pointer (some ⟨w.heap.size + 1, 0, none⟩)]) (by simp) (by simp [go_sem]) ?_
        refine (caught_bad (w.heap.size + 1) 5 [] wr 0 36 RT.out.e).mono ?_
        rintro e u' w9 ⟨rfl, rfl, hst, hbe9⟩
        have j0 := (hbe9.block w.heap.size (by have := RT.out.lt; omega) (by simp)).trans RT.out.z
        have BEL := Lib.hid (Below.beside RT.out.b hbe9 RT.out.b.size (by simp))
        obtain ⟨c0, c1, c2⟩ := box3 j0
        have e0 : w9.cell? ⟨w.heap.size + 1, 0, none⟩ = some (.int .i64 ((5 : Nat) : Int)) := by rw [cell_of_row w9 (w.heap.size + 1) _ _ _ _ hst]; rfl
        clear hst hbe9 j0
        simp [Leaves, settle, results, Tryd.results73, go_sem, c0, c1, c2, e0]
        exact tit_bad GD.out rfl BEL.out
      | cons k l2 =>
      have hl2 : l2.length ≤ 900000000 := by simp at hr; omega
      have NB := Lib.hid (byte_ok (w.heap.size + 1 + 1) k l2 wr ST0.out.tape ST0.out.see hl2)
      have HG3 : Hid (G = match numG 18446744073709551615 l2 with
          | .bad E => .inl E
          | .ok a l3 =>
          match numG 18446744073709551615 l3 with
          | .bad E => .inl E
          | .ok b l4 => if l4 ≠ [] then .inl 4 else .inr (k, a, b)) := Lib.hid (by rw [HG2.out]; rfl)
      clear HG2
      go_wp2_with fail
      refine NB.out.mono ?_
      rintro e w3 ⟨rfl, ht3, hb3⟩
      have ST3 := Lib.hid (ST0.out.read hb3 ht3)
      clear ht3 hb3 NB ST0
      cases g1 : numG 18446744073709551615 l2 with
      | bad E =>
        have GG := Lib.hid g1
        have NB := Lib.hid (num_bad (w.heap.size + 1 + 1) 18446744073709551615 E l2 w3 (ST3.out.tape.at_ ST3.out.see) (by omega) g1)
        clear g1
        go_wp2_with fail
        refine NB.out.mono ?_
        rintro e wb ⟨rfl, HBB⟩
        have GD := Lib.hid (show G = .inl E by rw [HG3.out, GG.out])
        have RT := Lib.hid (ST3.out.ret.beside (by omega) HBB)
        unfold fault
        go_wp2
        refine leaves_cons (f := 29) (args := #[.pointer (some ⟨w.heap.size + 1, 0, none⟩)]) (by simp) (by simp [go_sem]) ?_
        refine (caught_bad (w.heap.size + 1) E [] wb 0 36 RT.out.e).mono ?_
        rintro e u' w9 ⟨rfl, rfl, hst, hbe9⟩
        have j0 := (hbe9.block w.heap.size (by have := RT.out.lt; omega) (by simp)).trans RT.out.z
        have BEL := Lib.hid (Below.beside RT.out.b hbe9 RT.out.b.size (by simp))
        obtain ⟨c0, c1, c2⟩ := box3 j0
        have e0 : w9.cell? ⟨w.heap.size + 1, 0, none⟩ = some (.int .i64 ((E : Nat) : Int)) := by rw [cell_of_row w9 (w.heap.size + 1) _ _ _ _ hst]; rfl
        clear hst hbe9 j0
        simp [Leaves, settle, results, Tryd.results73, go_sem, c0, c1, c2, e0]
        exact tit_bad GD.out rfl BEL.out
      | ok a l3 =>
      have G1 := Lib.hid g1
      have hl3 : l3.length ≤ 900000000 := by have h2 := (numG_ok g1).2.2.2; have := congrArg List.length h2; rw [List.length_drop] at this; omega
      have NB := Lib.hid (num_ok (w.heap.size + 1 + 1) 18446744073709551615 a l2 l3 w3 ST3.out.tape ST3.out.see (by omega) g1)
      clear g1
      go_wp2_with fail
      refine NB.out.mono ?_
      rintro e w4 ⟨rfl, ht4, hb4⟩
      have ST4 := Lib.hid (ST3.out.read hb4 ht4)
      clear ht4 hb4 NB ST3
      cases g2 : numG 18446744073709551615 l3 with
      | bad E =>
        have GG := Lib.hid g2
        have NB := Lib.hid (num_bad (w.heap.size + 1 + 1) 18446744073709551615 E l3 w4 (ST4.out.tape.at_ ST4.out.see) (by omega) g2)
        clear g2
        go_wp2_with fail
        refine NB.out.mono ?_
        rintro e wb ⟨rfl, HBB⟩
        have GD := Lib.hid (show G = .inl E by rw [HG3.out, G1.out]; simp only []; rw [GG.out])
        have RT := Lib.hid (ST4.out.ret.beside (by omega) HBB)
        unfold fault
        go_wp2
        refine leaves_cons (f := 29) (args := #[.pointer (some ⟨w.heap.size + 1, 0, none⟩)]) (by simp) (by simp [go_sem]) ?_
        refine (caught_bad (w.heap.size + 1) E [] wb 0 36 RT.out.e).mono ?_
        rintro e u' w9 ⟨rfl, rfl, hst, hbe9⟩
        have j0 := (hbe9.block w.heap.size (by have := RT.out.lt; omega) (by simp)).trans RT.out.z
        have BEL := Lib.hid (Below.beside RT.out.b hbe9 RT.out.b.size (by simp))
        obtain ⟨c0, c1, c2⟩ := box3 j0
        have e0 : w9.cell? ⟨w.heap.size + 1, 0, none⟩ = some (.int .i64 ((E : Nat) : Int)) := by rw [cell_of_row w9 (w.heap.size + 1) _ _ _ _ hst]; rfl
        clear hst hbe9 j0
        simp [Leaves, settle, results, Tryd.results73, go_sem, c0, c1, c2, e0]
        exact tit_bad GD.out rfl BEL.out
      | ok b l4 =>
      have G2 := Lib.hid g2
      have NB := Lib.hid (num_ok (w.heap.size + 1 + 1) 18446744073709551615 b l3 l4 w4 ST4.out.tape ST4.out.see (by omega) g2)
      clear g2
      go_wp2_with fail
      refine NB.out.mono ?_
      rintro e w5 ⟨rfl, ht5, hb5⟩
      have ST5 := Lib.hid (ST4.out.read hb5 ht5)
      clear ht5 hb5 NB ST4
      have HG4 : Hid (G = if l4 ≠ [] then .inl 4 else .inr (k, a, b)) := Lib.hid (by rw [HG3.out, G1.out]; simp only []; rw [G2.out])
      clear HG3 G1 G2
      have al := (Below.refl w5.heap.size w5).alloc (Nat.le_refl _) (.cells #[.int .u8 (k.toNat : Int), .int .u64 (a : Int), .int .u64 (b : Int)] 50)
      have q2 : (w5.alloc (.cells #[.int .u8 (k.toNat : Int), .int .u64 (a : Int), .int .u64 (b : Int)] 50)).heap[w5.heap.size]? = some (.cells #[.int .u8 (k.toNat : Int), .int .u64 (a : Int), .int .u64 (b : Int)] 50 (0, 0)) := heap_alloc_new w5 _
      have ST6 := Lib.hid (ST5.out.below al)
      clear al
      go_wp2_with fail
      generalize w5.alloc (.cells #[.int .u8 (k.toNat : Int), .int .u64 (a : Int), .int .u64 (b : Int)] 50) = w6 at q2 ST6 ⊢
      generalize w5.heap.size = p at q2 ⊢
      by_cases hr0 : l4 = []
      case neg =>
        have GD0 : Hid (G = .inl 4) := Lib.hid (by rw [HG4.out, if_pos hr0])
        have h4 : 0 < l4.length := by cases l4 with | nil => exact absurd rfl hr0 | cons a b => simp
        refine (done_bad (w.heap.size + 1 + 1) l4 w6 (ST6.out.tape.at_ ST6.out.see) h4).mono ?_
        clear hr0 h4 HG4
        rintro e wb ⟨rfl, rfl⟩
        have GD := Lib.hid (show G = .inl 4 by exact GD0.out)
        have RT := Lib.hid (ST6.out.ret)
        unfold fault
        go_wp2
        refine leaves_cons (f := 29) (args := #[.pointer (some ⟨w.heap.size + 1, 0, none⟩)]) (by simp) (by simp [go_sem]) ?_
        refine (caught_bad (w.heap.size + 1) 4 [] w6 0 36 RT.out.e).mono ?_
        rintro e u' w9 ⟨rfl, rfl, hst, hbe9⟩
        have j0 := (hbe9.block w.heap.size (by have := RT.out.lt; omega) (by simp)).trans RT.out.z
        have BEL := Lib.hid (Below.beside RT.out.b hbe9 RT.out.b.size (by simp))
        obtain ⟨c0, c1, c2⟩ := box3 j0
        have e0 : w9.cell? ⟨w.heap.size + 1, 0, none⟩ = some (.int .i64 ((4 : Nat) : Int)) := by rw [cell_of_row w9 (w.heap.size + 1) _ _ _ _ hst]; rfl
        clear hst hbe9 j0
        simp [Leaves, settle, results, Tryd.results73, go_sem, c0, c1, c2, e0]
        exact tit_bad GD.out rfl BEL.out
      case pos =>
        have GD : Hid (G = .inr (k, a, b)) := Lib.hid (by rw [HG4.out, if_neg (by simpa using hr0)])
        subst hr0
        refine (done_any (w.heap.size + 1 + 1) w6 (ST6.out.tape.at_ ST6.out.see)).mono ?_
        rintro e w6' ⟨rfl, rfl⟩
        have RT := Lib.hid ST6.out.ret
        clear HG4 ST6 ST5
        have y0 := RT.out.z
        unfold zeroTRow at y0
        go_wp2_with (first
          | (refine wpList_getRow rfl 50 (.tmp 7) rfl p 50 #[.int .u8 (k.toNat : Int), .int .u64 (a : Int), .int .u64 (b : Int)] (0, 0) _ rfl q2 Tryd.underlying50 rfl (by kernel_rfl) ?_)
          | (refine wpList_putRow rfl 50 (.tmp 2) (.tmp 32) rfl w.heap.size 50 #[.int .u8 0, .int .u64 0, .int .u64 0] #[.int .u8 (k.toNat : Int), .int .u64 (a : Int), .int .u64 (b : Int)] rfl rfl y0 (by kernel_rfl) rfl (by simp [Value.oneCell']) ?_))
        intro W' hW' hbe
        have j1 := (hbe.block (w.heap.size + 1) RT.out.lt (by simp)).trans RT.out.e
        have BEL := Lib.hid ((Below.beside RT.out.b hbe RT.out.b.size (by simp)).setCell (p := ⟨w.heap.size + 1, 0, none⟩) (by simp))
        have e0 : W'.cell? ⟨w.heap.size + 1, 0, none⟩ = some (.int .i64 0) := by rw [cell_of_row W' (w.heap.size + 1) _ _ _ _ j1]; rfl
        have y1 := frozen_row0 (i := 0) j1
        obtain ⟨c0, c1, c2⟩ := box3 hW'
        go_wp2
        refine leaves_cons (f := 29) (args := #[.pointer (some ⟨w.heap.size + 1, 0, none⟩)]) (by simp) (by simp [go_sem]) ?_
        refine (caught_idle _ _).mono ?_
        rintro e u' w'' ⟨rfl, rfl, rfl⟩
        simp [Leaves, settle, results, Tryd.results73, go_sem, c0, c1, c2, e0]
        exact tit_ok GD.out rfl (BEL.out _)
end Go.Proofs.YtffhepdhkpldlaaDoor.Sht
