/- event.Decode: its contract, of any bytes. -/
import Derived.Test.YtocokfgkbdfodaaEvRead
import Derived.Test.YtocokfgkbdfodaaEvRight
namespace Go.Proofs.Ytocokfgkbdfodaa.Evt
open Go Go.RowKit Go.Proofs.Ytocokfgkbdfodaa.Words Go.Proofs.Ytocokfgkbdfodaa.Enc Go.Proofs.Ytocokfgkbdfodaa.Q Go.Proofs.Ytocokfgkbdfodaa.Tape
set_option linter.unusedVariables false

/-- What Decode reads: an error's number, or an event. -/
def decG (l : List UInt8) : Nat ⊕ Ev :=
  match takeG l with
  | .bad E => .inl E
  | .ok (ev, b) rest => if b = false then .inl 4 else if rest ≠ [] then .inl 4 else if rightE ev ≠ 0 then .inl (rightE ev) else .inr ev

def zeroRow : Array Value := #[.int .i64 0, .int .u64 0, .int .u64 0, .int .u8 0, .string ⟨#[]⟩, .slice none 0 0, .float .f64 0, .int .i64 0]
/-- What Decode answers. -/
def DecGives (g : Nat ⊕ Ev) (w : World) (e : Ending) (w' : World) : Prop :=
  match g with
  | .inl E => e = .returned (.tuple #[.agg zeroRow, .int .i64 (E : Int)]) ∧ Below w.heap.size w w'
  | .inr ev => ∃ A n c, e = .returned (.tuple #[ev.val A n c, .int .i64 0]) ∧ Sees w' A n ev.text ∧ n ≤ c ∧ c ≤ 9223372036854775807 ∧ Fresh w.heap.size A n ∧ Below w.heap.size w w'

theorem dec_bad {g : Nat ⊕ Ev} {E : Nat} {w w' : World} {v : Value} (h : g = .inl E) (hv : v = .tuple #[.agg zeroRow, .int .i64 (E : Int)]) (hb : Below w.heap.size w w') : DecGives g w (.returned v) w' := by
  subst h
  subst hv
  exact ⟨rfl, hb⟩
theorem dec_ok {g : Nat ⊕ Ev} {ev : Ev} {A : Option Addr} {n c : Nat} {w w' : World} {v : Value} (h : g = .inr ev) (hv : v = .tuple #[ev.val A n c, .int .i64 0]) (hs : Sees w' A n ev.text) (h1 : n ≤ c) (h2 : c ≤ 9223372036854775807) (hfr : Fresh w.heap.size A n) (hb : Below w.heap.size w w') : DecGives g w (.returned v) w' := by
  subst h
  subst hv
  exact ⟨A, n, c, rfl, hs, h1, h2, hfr, hb⟩

set_option maxRecDepth 100000 in
set_option maxHeartbeats 2000000 in
theorem decode_any (A : Option Addr) (n c : Nat) (l : List UInt8) (w : World) (hs : Sees w A n l) (hc : n ≤ c) (hn : n ≤ 900000000) :
    Calls Try.prog 13 #[.slice A n c] w (DecGives (decG l) w) := by
  have hln := hs.1
  have hsf := store_float Try.prog
  obtain ⟨G, hG⟩ : ∃ G, G = decG l := ⟨_, rfl⟩
  rw [← hG]
  have HG := Lib.hid hG
  clear hG
  have hb0 : Below w.heap.size w ((w.alloc (.cells zeroRow 26)).alloc (.cells #[.int .i64 0] 29)) := ((Below.refl _ _).alloc (Nat.le_refl _) _).alloc (by simp) _
  have hm0 : ((w.alloc (.cells zeroRow 26)).alloc (.cells #[.int .i64 0] 29)).heap[w.heap.size]? = some (.cells zeroRow 26 (0, 0)) := by
    rw [Below.heap_alloc _ _ _ (by simp)]
    exact heap_alloc_new w _
  have hm1 : ((w.alloc (.cells zeroRow 26)).alloc (.cells #[.int .i64 0] 29)).heap[w.heap.size + 1]? = some (.cells #[.int .i64 0] 29 (0, 0)) := by
    have := heap_alloc_new (w.alloc (.cells zeroRow 26)) (.cells #[.int .i64 0] 29)
    simpa using this
  have hs0 := hs.below hb0
  have hz0 : ((w.alloc (.cells zeroRow 26)).alloc (.cells #[.int .i64 0] 29)).heap.size = w.heap.size + 1 + 1 := by simp
  unfold zeroRow at hb0 hm0 hm1 hs0 hz0
  go_enter_defers Try.func13, Try.ntmps13
  go_wp2_with fail
  generalize hW0 : (w.alloc (.cells #[.int .i64 0, .int .u64 0, .int .u64 0, .int .u8 0, .string ⟨#[]⟩, .slice none 0 0, .float .f64 0, .int .i64 0] 26)).alloc (.cells #[.int .i64 0] 29) = W0 at hb0 hm0 hm1 hs0 hz0 ⊢
  clear hW0 hs
  refine (newTape_on A n c l W0 hs0 hc (by omega)).mono ?_
  rintro e w1 ⟨rfl, ht1, hb1⟩
  rw [hz0] at ht1 ⊢
  have bel1 := hb0.trans (hb1.mono (by omega))
  have g0 := (hb1.block w.heap.size (by omega)).trans hm0
  have g1 := (hb1.block (w.heap.size + 1) (by omega)).trans hm1
  have s1 := hs0.below hb1
  clear hb0 hm0 hm1 hs0 hb1
  go_wp2_with fail
  refine (take_any (w.heap.size + 1 + 1) l w1 ht1 s1 (by omega)).mono ?_
  intro e w2 htk
  cases hg : takeG l with
  | bad E =>
    rw [hg] at htk
    obtain ⟨rfl, hbe⟩ := htk
    have k1 := (hbe.block (w.heap.size + 1) (Array.getElem?_eq_some_iff.1 g1).1 (by simp)).trans g1
    have k0 := (hbe.block w.heap.size (Array.getElem?_eq_some_iff.1 g0).1 (by simp; omega)).trans g0
    have bel2 := Below.beside bel1 hbe bel1.size (by simp; omega)
    have hgd : G = .inl E := by rw [HG.out]; unfold decG; rw [hg]
    clear g0 g1 bel1 s1 ht1 hbe hg
    have GD := Lib.hid hgd
    clear hgd
    unfold fault
    go_wp2
    refine leaves_cons (f := 28) (args := #[.pointer (some ⟨w.heap.size + 1, 0, none⟩)]) (by simp) (by simp [go_sem]) ?_
    refine (caught_bad (w.heap.size + 1) E [] w2 0 29 k1).mono ?_
    rintro e u' w9 ⟨rfl, rfl, hst, hbe9⟩
    have j0 := (hbe9.block w.heap.size (Array.getElem?_eq_some_iff.1 k0).1 (by simp)).trans k0
    have bel9 := Below.beside bel2 hbe9 bel2.size (by simp)
    obtain ⟨c0, c1, c2, c3, c4, c5, c6, c7⟩ := box8 j0
    have e0 : w9.cell? ⟨w.heap.size + 1, 0, none⟩ = some (.int .i64 ((E : Nat) : Int)) := by rw [cell_of_row w9 (w.heap.size + 1) _ _ _ _ hst]; rfl
    have BEL := Lib.hid bel9
    clear hst hbe9 j0 bel9 bel2 k0 k1
    simp [Leaves, settle, results, Try.results13, go_sem, c0, c1, c2, c3, c4, c5, c6, c7, e0]
    exact dec_bad GD.out rfl BEL.out
  | ok evb rest =>
    obtain ⟨ev, b⟩ := evb
    rw [hg] at htk
    obtain ⟨A2, n2, c2, rfl, hs2, hc2, hcm2, hfr, ht2, hbe⟩ := htk
    have hw1 : w.heap.size + 1 < w1.heap.size := (Array.getElem?_eq_some_iff.1 g1).1
    have FR := Lib.hid (And.intro hfr hw1)
    clear hfr hw1
    have k1 := (hbe.block (w.heap.size + 1) (Array.getElem?_eq_some_iff.1 g1).1 (by simp)).trans g1
    have k0 := (hbe.block w.heap.size (Array.getElem?_eq_some_iff.1 g0).1 (by simp; omega)).trans g0
    have bel2 := Below.beside bel1 hbe bel1.size (by simp; omega)
    have s2 : Sees w2 A n l := s1.beside hbe (by obtain ⟨A', n', c', hb', -⟩ := ht1; exact sees_off hb' s1)
    have hG2 : G = if b = false then .inl 4 else if rest ≠ [] then .inl 4 else if rightE ev ≠ 0 then .inl (rightE ev) else .inr ev := by rw [HG.out]; unfold decG; rw [hg]
    have htook := takeG_took hg
    have hlt2 := ht2.lt
    have HG2 := Lib.hid hG2
    have TK := Lib.hid (And.intro htook.fit (And.intro htook.text htook.key))
    clear g0 g1 bel1 s1 ht1 hbe hg hG2 HG htook
    unfold Ev.val
    have hal := (Below.refl w2.heap.size w2).alloc (Nat.le_refl _) (.cells #[.int .i64 ev.writer, .int .u64 (ev.seq : Int), .int .u64 (ev.time : Int), .int .u8 (ev.kind : Int), .string ev.key, .slice A2 n2 c2, .float .f64 ev.num, .int .i64 ev.node] 26)
    have k0 := (hal.block w.heap.size (by omega)).trans k0
    have k1 := (hal.block (w.heap.size + 1) (by omega)).trans k1
    have bel2 := bel2.trans (hal.mono bel2.size)
    have s2 := s2.below hal
    have hs2 := hs2.below hal
    have ht2 := ht2.keep (hal.block _ hlt2)
    have ke := heap_alloc_new w2 (.cells #[.int .i64 ev.writer, .int .u64 (ev.seq : Int), .int .u64 (ev.time : Int), .int .u8 (ev.kind : Int), .string ev.key, .slice A2 n2 c2, .float .f64 ev.num, .int .i64 ev.node] 26)
    have hsz : (w2.alloc (.cells #[.int .i64 ev.writer, .int .u64 (ev.seq : Int), .int .u64 (ev.time : Int), .int .u8 (ev.kind : Int), .string ev.key, .slice A2 n2 c2, .float .f64 ev.num, .int .i64 ev.node] 26)).heap.size = w2.heap.size + 1 := by simp
    clear hal
    cases b with
    | false =>
      have hgd : G = .inl 4 := by rw [HG2.out, if_pos rfl]
      have GD := Lib.hid hgd
      clear hgd HG2 s2 hs2 ht2 ke
      go_wp2_with (first
        | (refine wpList_putRow rfl 26 (.tmp 2) (.tmp 17) rfl w.heap.size 26 #[.int .i64 0, .int .u64 0, .int .u64 0, .int .u8 0, .string ⟨#[]⟩, .slice none 0 0, .float .f64 0, .int .i64 0] #[.int .i64 0, .int .u64 0, .int .u64 0, .int .u8 0, .string ⟨#[]⟩, .slice none 0 0, .float .f64 0, .int .i64 0] rfl rfl k0 (by kernel_rfl) rfl (by simp [Value.oneCell']) ?_))
      intro W' hW' hbe
      have j1 := (hbe.block (w.heap.size + 1) (Array.getElem?_eq_some_iff.1 k1).1 (by simp)).trans k1
      have BEL := Lib.hid ((Below.beside bel2 hbe bel2.size (by simp)).setCell (p := ⟨w.heap.size + 1, 0, none⟩) (by simp))
      have e0 : W'.cell? ⟨w.heap.size + 1, 0, none⟩ = some (.int .i64 0) := by rw [cell_of_row W' (w.heap.size + 1) _ _ _ _ j1]; rfl
      have y0 := frozen_row0 (i := 0) j1
      obtain ⟨c0, c1, c2, c3, c4, c5, c6, c7⟩ := box8 hW'
      go_wp2
      refine leaves_cons (f := 28) (args := #[.pointer (some ⟨w.heap.size + 1, 0, none⟩)]) (by simp) (by simp [go_sem]) ?_
      refine (caught_idle _ _).mono ?_
      rintro e u' w'' ⟨rfl, rfl, rfl⟩
      simp [Leaves, settle, results, Try.results13, go_sem, c0, c1, c2, c3, c4, c5, c6, c7, e0]
      exact dec_bad GD.out rfl (BEL.out _)
    | true =>
      go_wp2_with fail
      generalize w2.alloc (.cells #[.int .i64 ev.writer, .int .u64 (ev.seq : Int), .int .u64 (ev.time : Int), .int .u8 (ev.kind : Int), .string ev.key, .slice A2 n2 c2, .float .f64 ev.num, .int .i64 ev.node] 26) = w3 at k0 k1 bel2 s2 hs2 ht2 ke hsz ⊢
      by_cases hrest : rest = []
      case neg =>
        have hgd : G = .inl 4 := by rw [HG2.out, if_neg (by simp), if_pos hrest]
        have hr0 : 0 < rest.length := by cases rest with | nil => exact absurd rfl hrest | cons a b => simp
        refine (done_bad (w.heap.size + 1 + 1) rest w3 (ht2.at_ s2) hr0).mono ?_
        rintro e w3 ⟨rfl, rfl⟩
        clear HG2 s2 hs2 ht2 ke hrest hr0
        have GD := Lib.hid hgd
        clear hgd
        unfold fault
        go_wp2
        refine leaves_cons (f := 28) (args := #[.pointer (some ⟨w.heap.size + 1, 0, none⟩)]) (by simp) (by simp [go_sem]) ?_
        refine (caught_bad (w.heap.size + 1) 4 [] w3 0 29 k1).mono ?_
        rintro e u' w9 ⟨rfl, rfl, hst, hbe9⟩
        have j0 := (hbe9.block w.heap.size (Array.getElem?_eq_some_iff.1 k0).1 (by simp)).trans k0
        have bel9 := Below.beside bel2 hbe9 bel2.size (by simp)
        obtain ⟨c0, c1, c2, c3, c4, c5, c6, c7⟩ := box8 j0
        have e0 : w9.cell? ⟨w.heap.size + 1, 0, none⟩ = some (.int .i64 ((4 : Nat) : Int)) := by rw [cell_of_row w9 (w.heap.size + 1) _ _ _ _ hst]; rfl
        have BEL := Lib.hid bel9
        clear hst hbe9 j0 bel9 bel2 k0 k1
        simp [Leaves, settle, results, Try.results13, go_sem, c0, c1, c2, c3, c4, c5, c6, c7, e0]
        exact dec_bad GD.out rfl BEL.out
      case pos =>
        subst hrest
        refine (done_any (w.heap.size + 1 + 1) w3 (ht2.at_ s2)).mono ?_
        rintro e w3 ⟨rfl, rfl⟩
        obtain ⟨p0, p1, p2, p3, p4, p5, p6, p7⟩ := box8 ke
        have hte := hs2.1
        go_wp2_with fail
        refine (right_any ev A2 n2 c2 w3 TK.out.1 hte.symm (by have := TK.out.2.1; omega) (by have := TK.out.2.2; omega)).mono ?_
        rintro e w4 ⟨rfl, hb4⟩
        have k0 := (hb4.block w.heap.size (by omega)).trans k0
        have k1 := (hb4.block (w.heap.size + 1) (by omega)).trans k1
        have ke := (hb4.block w2.heap.size (by omega)).trans ke
        have bel2 := bel2.trans (hb4.mono bel2.size)
        have hs2 := hs2.below hb4
        clear p0 p1 p2 p3 p4 p5 p6 p7 hb4 s2 ht2
        by_cases hr : rightE ev = 0
        · have d1 : ((rightE ev : Int) != 0) = false := by rw [hr]; rfl
          have d2 : ((rightE ev : Int) == 0) = true := by rw [hr]; rfl
          have hgd : G = .inr ev := by rw [HG2.out, if_neg (by simp), if_neg (by simp), if_neg (by simp [hr])]
          have GD := Lib.hid hgd
          clear hgd hr HG2
          go_wp2_with (first
            | (refine wpList_getRow rfl 26 (.tmp 5) rfl w2.heap.size 26 #[.int .i64 ev.writer, .int .u64 (ev.seq : Int), .int .u64 (ev.time : Int), .int .u8 (ev.kind : Int), .string ev.key, .slice A2 n2 c2, .float .f64 ev.num, .int .i64 ev.node] (0, 0) _ rfl ke Try.underlying26 rfl (by kernel_rfl) ?_)
            | (refine wpList_putRow rfl 26 (.tmp 2) (.tmp 26) rfl w.heap.size 26 #[.int .i64 0, .int .u64 0, .int .u64 0, .int .u8 0, .string ⟨#[]⟩, .slice none 0 0, .float .f64 0, .int .i64 0] #[.int .i64 ev.writer, .int .u64 (ev.seq : Int), .int .u64 (ev.time : Int), .int .u8 (ev.kind : Int), .string ev.key, .slice A2 n2 c2, .float .f64 ev.num, .int .i64 ev.node] rfl rfl k0 (by kernel_rfl) rfl (by simp [Value.oneCell']) ?_))
          intro W' hW' hbe
          have j1 := (hbe.block (w.heap.size + 1) (Array.getElem?_eq_some_iff.1 k1).1 (by simp)).trans k1
          have BEL := Lib.hid ((Below.beside bel2 hbe bel2.size (by simp)).setCell (p := ⟨w.heap.size + 1, 0, none⟩) (by simp))
          have e0 : W'.cell? ⟨w.heap.size + 1, 0, none⟩ = some (.int .i64 0) := by rw [cell_of_row W' (w.heap.size + 1) _ _ _ _ j1]; rfl
          have y0 := frozen_row0 (i := 0) j1
          obtain ⟨c0, c1, c2, c3, c4, c5, c6, c7⟩ := box8 hW'
          have SX : Hid (∀ v, Sees (W'.setCell ⟨w.heap.size + 1, 0, none⟩ v) A2 n2 ev.text) := Lib.hid fun v => (hs2.beside hbe (FR.out.1.out fun x hx => by simp at hx; have := FR.out.2; omega)).beside ((Beside.refl [w.heap.size + 1] _).setCell (by simp) v) (FR.out.1.out fun x hx => by simp at hx; have := FR.out.2; omega)
          go_wp2
          refine leaves_cons (f := 28) (args := #[.pointer (some ⟨w.heap.size + 1, 0, none⟩)]) (by simp) (by simp [go_sem]) ?_
          refine (caught_idle _ _).mono ?_
          rintro e u' w'' ⟨rfl, rfl, rfl⟩
          simp [Leaves, settle, results, Try.results13, go_sem, c0, c1, c2, c3, c4, c5, c6, c7, e0]
          exact dec_ok GD.out rfl (SX.out _) hc2 hcm2 (fun hn a ha => Nat.le_trans (by have := FR.out.2; omega) (FR.out.1 hn a ha)) (BEL.out _)
        · have d1 : ((rightE ev : Int) != 0) = true := by rw [bne_iff_ne]; omega
          have d2 : ((rightE ev : Int) == 0) = false := by rw [beq_eq_false_iff_ne]; omega
          have hgd : G = .inl (rightE ev) := by rw [HG2.out, if_neg (by simp), if_neg (by simp), if_pos hr]
          have GD := Lib.hid hgd
          clear hgd hr HG2 hs2 ke
          generalize rightE ev = R at d1 d2 GD ⊢
          go_wp2_with (first
            | (refine wpList_putRow rfl 26 (.tmp 2) (.tmp 24) rfl w.heap.size 26 #[.int .i64 0, .int .u64 0, .int .u64 0, .int .u8 0, .string ⟨#[]⟩, .slice none 0 0, .float .f64 0, .int .i64 0] #[.int .i64 0, .int .u64 0, .int .u64 0, .int .u8 0, .string ⟨#[]⟩, .slice none 0 0, .float .f64 0, .int .i64 0] rfl rfl k0 (by kernel_rfl) rfl (by simp [Value.oneCell']) ?_))
          intro W' hW' hbe
          have j1 := (hbe.block (w.heap.size + 1) (Array.getElem?_eq_some_iff.1 k1).1 (by simp)).trans k1
          have BEL := Lib.hid ((Below.beside bel2 hbe bel2.size (by simp)).setCell (p := ⟨w.heap.size + 1, 0, none⟩) (by simp))
          have e0 : W'.cell? ⟨w.heap.size + 1, 0, none⟩ = some (.int .i64 0) := by rw [cell_of_row W' (w.heap.size + 1) _ _ _ _ j1]; rfl
          have y0 := frozen_row0 (i := 0) j1
          obtain ⟨c0, c1, c2, c3, c4, c5, c6, c7⟩ := box8 hW'
          go_wp2
          refine leaves_cons (f := 28) (args := #[.pointer (some ⟨w.heap.size + 1, 0, none⟩)]) (by simp) (by simp [go_sem]) ?_
          refine (caught_idle _ _).mono ?_
          rintro e u' w'' ⟨rfl, rfl, rfl⟩
          simp [Leaves, settle, results, Try.results13, go_sem, c0, c1, c2, c3, c4, c5, c6, c7, e0]
          exact dec_bad GD.out rfl (BEL.out _)
end Go.Proofs.Ytocokfgkbdfodaa.Evt
