/- manifest.Decode: its contract, of any bytes. -/
import Derived.Deep.Cut
import Derived.Test.YtinjbdgjcadodaaGreatDoorTNp23
import Derived.Test.YtinjbdgjcadodaaGreatDoorTNp24
namespace Go.Proofs.YtinjbdgjcadodaaGreatDoor.Man
open Go Go.RowKit Go.Proofs.YtinjbdgjcadodaaGreatDoor.Words Go.Proofs.YtinjbdgjcadodaaGreatDoor.Enc Go.Proofs.YtinjbdgjcadodaaGreatDoor.Made Go.Proofs.YtinjbdgjcadodaaGreatDoor.Tape Go.Proofs.YtinjbdgjcadodaaGreatDoor.Vec Go.Proofs.YtinjbdgjcadodaaGreatDoor.Dsk
set_option linter.unusedVariables false
set_option linter.unusedSimpArgs false

/-- What Decode answers. -/
def DecGives (g : Nat ⊕ Mn) (w : World) (e : Ending) (w' : World) : Prop :=
  match g with
  | .inl E => e = .returned (.tuple #[zeroM, .int .i64 (E : Int)]) ∧ Below w.heap.size w w'
  | .inr m => ∃ A n c, e = .returned (.tuple #[m.val A n c, .int .i64 0]) ∧ w'.ownsRow w.heap.size 22 1 (.slice A n c) n (us m.floor) ∧ Below w.heap.size w w'
theorem dec_bad {g : Nat ⊕ Mn} {E : Nat} {w w' : World} {v : Value} (h : g = .inl E) (hv : v = .tuple #[zeroM, .int .i64 (E : Int)]) (hb : Below w.heap.size w w') : DecGives g w (.returned v) w' := by
  subst h
  subst hv
  exact ⟨rfl, hb⟩
theorem dec_ok {g : Nat ⊕ Mn} {m : Mn} {A : Option Addr} {n c : Nat} {w w' : World} {v : Value} (h : g = .inr m) (hv : v = .tuple #[m.val A n c, .int .i64 0]) (hs : w'.ownsRow w.heap.size 22 1 (.slice A n c) n (us m.floor)) (hb : Below w.heap.size w w') : DecGives g w (.returned v) w' := by
  subst h
  subst hv
  exact ⟨A, n, c, rfl, hs, hb⟩

def zRow : Array Value := #[.int .i64 0, .int .u64 0, .slice none 0 0, .int .u64 0, .string ⟨#[]⟩]
/-- Decode's results' boxes, and what was there. -/
structure Ret (w W : World) : Prop where
  z : W.heap[w.heap.size]? = some (.cells zRow 86 (0, 0))
  e : W.heap[w.heap.size + 1]? = some (.cells #[.int .i64 0] 29 (0, 0))
  b : Below w.heap.size w W
theorem Ret.lt {w W : World} (h : Ret w W) : w.heap.size + 1 < W.heap.size := (Array.getElem?_eq_some_iff.1 h.e).1
theorem Ret.beside {w W W' : World} (h : Ret w W) {t : Nat} (ht : w.heap.size + 1 < t) (hb : Beside [t] W W') : Ret w W' :=
  ⟨(hb.block w.heap.size (by have := h.lt; omega) (by simp; omega)).trans h.z, (hb.block (w.heap.size + 1) h.lt (by simp; omega)).trans h.e, Below.beside h.b hb h.b.size (by simp; omega)⟩
theorem Ret.below {w W W' : World} (h : Ret w W) (hb : Below W.heap.size W W') : Ret w W' :=
  ⟨(hb.block w.heap.size (by have := h.lt; omega)).trans h.z, (hb.block (w.heap.size + 1) h.lt).trans h.e, h.b.trans (hb.mono h.b.size)⟩
/-- Between the readers: the tape, too. -/
structure St (A : Option Addr) (n : Nat) (l : List UInt8) (w W : World) (r : List UInt8) : Prop where
  ret : Ret w W
  tape : TapeOn A n l W (w.heap.size + 1 + 1) r
  see : Sees W A n l
theorem St.read {A : Option Addr} {n : Nat} {l : List UInt8} {w W W' : World} {r r' : List UInt8} (h : St A n l w W r) (hb : Beside [w.heap.size + 1 + 1] W W') (ht : TapeOn A n l W' (w.heap.size + 1 + 1) r') : St A n l w W' r' :=
  ⟨h.ret.beside (by omega) hb, ht, h.see.beside hb (by obtain ⟨A', n', c', hb', -⟩ := h.tape; exact sees_off hb' h.see)⟩
theorem St.below {A : Option Addr} {n : Nat} {l : List UInt8} {w W W' : World} {r : List UInt8} (h : St A n l w W r) (hb : Below W.heap.size W W') : St A n l w W' r :=
  ⟨h.ret.below hb, h.tape.keep (hb.block _ h.tape.lt), h.see.below hb⟩
theorem St.box {A : Option Addr} {n : Nat} {l : List UInt8} {w W W' : World} {r : List UInt8} {p : Nat} (h : St A n l w W r) (hp : w.heap.size + 1 + 1 < p) (ho : Out [p] A n) (hb : Beside [p] W W') : St A n l w W' r :=
  ⟨h.ret.beside (by omega) hb, h.tape.keep (hb.block _ h.tape.lt (by simp; omega)), h.see.beside hb ho⟩
theorem endB_iff (v : List Nat) : endB v = true ↔ 0 < v.length ∧ at_ v (v.length - 1) = 0 := by simp [endB]

theorem leaves_same {P : Program} {fn : Func} {R : Ending → World → Prop} {t t' : Array Value} (h : results fn t = results fn t') : ∀ (ds : List Deferred) (u : FrameMode) (w : World), Leaves P fn t R ds u w → Leaves P fn t' R ds u w
  | [], .returning, w, hh => by unfold Leaves at hh ⊢; rw [← h]; exact hh
  | [], .panicking _, _, hh => hh
  | [], .run, _, hh => hh
  | d :: ds, u, w, hh => by
    unfold Leaves at hh ⊢
    obtain ⟨h1, fv, cap, f, args, h2, h3, h4⟩ := hh
    refine ⟨h1, fv, cap, f, args, h2, h3, h4.mono fun e u' w' he => ?_⟩
    cases e
    · exact leaves_same h ds _ _ he
    · exact leaves_same h ds _ _ he
    · exact he
/-- A temporary that is no result's box: a panic's way out does not look at it. -/
theorem panic_put (d : Nat) (h2 : d ≠ 2) (h3 : d ≠ 3) {R : Ending → World → Prop} {K : Act → World → Prop} {c : List PanicEntry} {a : Act} {v : Value} {w : World} (h : Exit.then K (bodyPostD Tryz.prog Tryz.f176 R) (.panic c) (a.put (some d) v) w) : Exit.then K (bodyPostD Tryz.prog Tryz.f176 R) (.panic c) a w := by
  have e : results Tryz.f176 (a.put (some d) v).tmps = results Tryz.f176 a.tmps := by
    simp [results, Tryz.results176, Act.put, Array.getElem?_setIfInBounds_ne h2, Array.getElem?_setIfInBounds_ne h3]
  have hd : (a.put (some d) v).defers = a.defers := rfl
  have h' : Leaves Tryz.prog Tryz.f176 (a.put (some d) v).tmps R (a.put (some d) v).defers (.panicking c) w := h
  rw [hd] at h'
  exact leaves_same e _ _ _ h'
set_option maxRecDepth 100000 in
set_option maxHeartbeats 4000000 in
theorem decode_any (A : Option Addr) (n c : Nat) (l : List UInt8) (w : World) (hs : Sees w A n l) (hc : n ≤ c) (hn : n ≤ 100000) :
    Calls Tryz.prog 176 #[.slice A n c] w (DecGives (decM l) w) := by
  have hln := hs.1
  obtain ⟨G, hG⟩ : ∃ G, G = decM l := ⟨_, rfl⟩
  rw [← hG]
  have HG := Lib.hid hG
  clear hG
  have hb0 : Below w.heap.size w ((w.alloc (.cells zRow 86)).alloc (.cells #[.int .i64 0] 29)) := ((Below.refl _ _).alloc (Nat.le_refl _) _).alloc (by simp) _
  have hm0 : ((w.alloc (.cells zRow 86)).alloc (.cells #[.int .i64 0] 29)).heap[w.heap.size]? = some (.cells zRow 86 (0, 0)) := by
    rw [Below.heap_alloc _ _ _ (by simp)]
    exact heap_alloc_new w _
  have hm1 : ((w.alloc (.cells zRow 86)).alloc (.cells #[.int .i64 0] 29)).heap[w.heap.size + 1]? = some (.cells #[.int .i64 0] 29 (0, 0)) := by
    have := heap_alloc_new (w.alloc (.cells zRow 86)) (.cells #[.int .i64 0] 29)
    simpa using this
  have ret0 : Ret w ((w.alloc (.cells zRow 86)).alloc (.cells #[.int .i64 0] 29)) := ⟨hm0, hm1, hb0⟩
  have hs0 := hs.below hb0
  have hz0 : ((w.alloc (.cells zRow 86)).alloc (.cells #[.int .i64 0] 29)).heap.size = w.heap.size + 1 + 1 := by simp
  clear hm0 hm1 hb0
  unfold zRow at ret0 hs0 hz0
  go_enter_defers Tryz.func176, Tryz.ntmps176
  go_wp2_with fail
  generalize hW0 : (w.alloc (.cells #[.int .i64 0, .int .u64 0, .slice none 0 0, .int .u64 0, .string ⟨#[]⟩] 86)).alloc (.cells #[.int .i64 0] 29) = W0 at ret0 hs0 hz0 ⊢
  clear hW0 hs
  refine (newTape_on A n c l W0 hs0 hc (by omega)).mono ?_
  rintro e w1 ⟨rfl, ht1, hb1⟩
  rw [hz0] at ht1 ⊢
  have st1 : St A n l w w1 l := ⟨ret0.below hb1, ht1, hs0.below hb1⟩
  clear ret0 hs0 hz0 hb1 ht1
  have hl0 : l.length ≤ 100000 := by omega
  cases g1 : numG 63 l with
  | bad E =>
    have GG := Lib.hid g1
    have NB := Lib.hid (num_bad (w.heap.size + 1 + 1) 63 E l w1 (st1.tape.at_ st1.see) (by omega) g1)
    clear g1
    go_wp2_with fail
    refine NB.out.mono ?_
    rintro e wb ⟨rfl, hbb⟩
    have GD := Lib.hid (show G = .inl E by rw [HG.out]; unfold decM; (try simp only [GG.out]))
    have RT := Lib.hid (st1.ret.beside (by omega) hbb)
    clear HG
    unfold fault
    go_wp2
    refine leaves_cons (f := 92) (args := #[.pointer (some ⟨w.heap.size + 1, 0, none⟩)]) (by simp) (by simp [go_sem]) ?_
    refine (caught_bad (w.heap.size + 1) E [] wb 0 29 RT.out.e).mono ?_
    rintro e u' w9 ⟨rfl, rfl, hst, hbe9⟩
    have j0 := (hbe9.block w.heap.size (by have := RT.out.lt; omega) (by simp)).trans RT.out.z
    have BEL := Lib.hid (Below.beside RT.out.b hbe9 RT.out.b.size (by simp))
    obtain ⟨c0, c1, c2, c3, c4⟩ := box5 j0
    have e0 : w9.cell? ⟨w.heap.size + 1, 0, none⟩ = some (.int .i64 ((E : Nat) : Int)) := by rw [cell_of_row w9 (w.heap.size + 1) _ _ _ _ hst]; rfl
    clear hst hbe9 j0
    simp [Leaves, settle, results, Tryz.results176, go_sem, c0, c1, c2, c3, c4, e0]
    exact dec_bad GD.out rfl BEL.out
  | ok nd l1 =>
  have G1 := Lib.hid g1
  have hl1 : l1.length ≤ 100000 := by have := (numG_enc g1).1; have h2 := congrArg List.length this; rw [List.length_append] at h2; omega
  have hb1 : nd ≤ 63 := (numG_enc g1).2
  have NB := Lib.hid (num_ok (w.heap.size + 1 + 1) 63 nd l l1 w1 st1.tape st1.see (by omega) g1)
  clear g1
  go_wp2_with fail
  refine NB.out.mono ?_
  rintro e w2 ⟨rfl, ht, hbb⟩
  have st2 := st1.read hbb ht
  have hw2 : IntKind.i64.wrap (nd : Int) = (nd : Int) := IntWalk.i64_in _ (by omega)
  clear st1 ht hbb NB
  cases g2 : numG 9223372036854775807 l1 with
  | bad E =>
    have GG := Lib.hid g2
    have NB := Lib.hid (num_bad (w.heap.size + 1 + 1) 9223372036854775807 E l1 w2 (st2.tape.at_ st2.see) (by omega) g2)
    clear g2
    go_wp2_with fail
    refine NB.out.mono ?_
    rintro e wb ⟨rfl, hbb⟩
    have GD := Lib.hid (show G = .inl E by rw [HG.out]; unfold decM; (try simp only [G1.out]); (try simp only [GG.out]))
    have RT := Lib.hid (st2.ret.beside (by omega) hbb)
    clear HG
    unfold fault
    go_wp2
    refine leaves_cons (f := 92) (args := #[.pointer (some ⟨w.heap.size + 1, 0, none⟩)]) (by simp) (by simp [go_sem]) ?_
    refine (caught_bad (w.heap.size + 1) E [] wb 0 29 RT.out.e).mono ?_
    rintro e u' w9 ⟨rfl, rfl, hst, hbe9⟩
    have j0 := (hbe9.block w.heap.size (by have := RT.out.lt; omega) (by simp)).trans RT.out.z
    have BEL := Lib.hid (Below.beside RT.out.b hbe9 RT.out.b.size (by simp))
    obtain ⟨c0, c1, c2, c3, c4⟩ := box5 j0
    have e0 : w9.cell? ⟨w.heap.size + 1, 0, none⟩ = some (.int .i64 ((E : Nat) : Int)) := by rw [cell_of_row w9 (w.heap.size + 1) _ _ _ _ hst]; rfl
    clear hst hbe9 j0
    simp [Leaves, settle, results, Tryz.results176, go_sem, c0, c1, c2, c3, c4, e0]
    exact dec_bad GD.out rfl BEL.out
  | ok sr l2 =>
  have G2 := Lib.hid g2
  have hl2 : l2.length ≤ 100000 := by have := (numG_enc g2).1; have h2 := congrArg List.length this; rw [List.length_append] at h2; omega
  have hb2 : sr ≤ 9223372036854775807 := (numG_enc g2).2
  have NB := Lib.hid (num_ok (w.heap.size + 1 + 1) 9223372036854775807 sr l1 l2 w2 st2.tape st2.see (by omega) g2)
  clear g2
  go_wp2_with fail
  refine NB.out.mono ?_
  rintro e w3 ⟨rfl, ht, hbb⟩
  have st3 := st2.read hbb ht
  clear st2 ht hbb NB
  have RD := read_own A n l (w.heap.size + 1 + 1) l2 w3 st3.tape st3.see (by omega)
  have hz3 : w.heap.size + 1 + 1 < w3.heap.size := st3.tape.lt
  cases g3 : readG l2 with
  | bad E =>
    rw [g3] at RD
    have GG := Lib.hid g3
    have NB := Lib.hid RD
    clear g3 RD
    go_wp2_with fail
    refine NB.out.mono ?_
    rintro e wb ⟨rfl, hbb⟩
    have GD := Lib.hid (show G = .inl E by rw [HG.out]; unfold decM; (try simp only [G1.out]); (try simp only [G2.out]); (try simp only [GG.out]))
    have RT := Lib.hid (st3.ret.beside (by omega) hbb)
    clear HG
    unfold fault
    go_wp2
    refine leaves_cons (f := 92) (args := #[.pointer (some ⟨w.heap.size + 1, 0, none⟩)]) (by simp) (by simp [go_sem]) ?_
    refine (caught_bad (w.heap.size + 1) E [] wb 0 29 RT.out.e).mono ?_
    rintro e u' w9 ⟨rfl, rfl, hst, hbe9⟩
    have j0 := (hbe9.block w.heap.size (by have := RT.out.lt; omega) (by simp)).trans RT.out.z
    have BEL := Lib.hid (Below.beside RT.out.b hbe9 RT.out.b.size (by simp))
    obtain ⟨c0, c1, c2, c3, c4⟩ := box5 j0
    have e0 : w9.cell? ⟨w.heap.size + 1, 0, none⟩ = some (.int .i64 ((E : Nat) : Int)) := by rw [cell_of_row w9 (w.heap.size + 1) _ _ _ _ hst]; rfl
    clear hst hbe9 j0
    simp [Leaves, settle, results, Tryz.results176, go_sem, c0, c1, c2, c3, c4, e0]
    exact dec_bad GD.out rfl BEL.out
  | ok v l3 =>
  rw [g3] at RD
  have G3 := Lib.hid g3
  have sm3 : Small v := (readG_ok g3).1
  have hl3 : l3.length ≤ 100000 := by have := (readG_ok g3).2; have h2 := congrArg List.length this; simp only [List.length_append] at h2; omega
  have NB := Lib.hid RD
  clear g3 RD
  go_wp2_with fail
  refine NB.out.mono ?_
  rintro e w4 ⟨R, k, rc, rfl, own4, hk, hrc, ht, hbb⟩
  have st4 := st3.read hbb ht
  have hz4 := hbb.size
  clear st3 ht hbb NB
  have al5 := (Below.refl w4.heap.size w4).alloc (Nat.le_refl _) (.cells #[.int .i64 (nd : Int), .int .u64 (sr : Int), .slice R k rc, .int .u64 0, .string ⟨#[]⟩] 86)
  have gp := heap_alloc_new w4 (.cells #[.int .i64 (nd : Int), .int .u64 (sr : Int), .slice R k rc, .int .u64 0, .string ⟨#[]⟩] 86)
  have st5 := st4.below al5
  have own5 := Own.below own4 al5 (Nat.le_refl _)
  have hoA : Out [w4.heap.size] A n := Out.of_lt st4.see (Nat.le_refl _) (by simp)
  have hz5 : (w4.alloc (.cells #[.int .i64 (nd : Int), .int .u64 (sr : Int), .slice R k rc, .int .u64 0, .string ⟨#[]⟩] 86)).heap.size = w4.heap.size + 1 := by simp
  clear own4 st4 al5
  go_wp2_with fail
  generalize hW5 : w4.alloc (.cells #[.int .i64 (nd : Int), .int .u64 (sr : Int), .slice R k rc, .int .u64 0, .string ⟨#[]⟩] 86) = w5 at gp st5 own5 hz5 ⊢
  clear hW5
  have capR := Own.cap own5
  have hvn : v.length = k := by have := (SeesU.of_own own5).1; exact this
  have tv5 : Took2 w5 R k rc v := ⟨SeesU.of_own own5, small_fits sm3, capR.1, capR.2, by have := sm3.1; omega⟩
  refine (ends_any R k rc v w5 tv5).mono ?_
  rintro e w5' ⟨rfl, rfl⟩
  clear tv5
  cases hend : endB v with
  | true =>
    have hz := (endB_iff v).1 hend
    have GD := Lib.hid (show G = .inl 4 by rw [HG.out]; unfold decM; (try simp only [G1.out]); (try simp only [G2.out]); (try simp only [G3.out]); rw [if_pos hz])
    have RT := Lib.hid st5.ret
    clear HG own5 st5 gp hz
    have y0 := RT.out.z
    unfold zRow at y0
    go_wp2_with (first
      | (refine wpList_putRow rfl 86 (.tmp 2) (.tmp 19) rfl w.heap.size 86 #[.int .i64 0, .int .u64 0, .slice none 0 0, .int .u64 0, .string ⟨#[]⟩] #[.int .i64 0, .int .u64 0, .slice none 0 0, .int .u64 0, .string ⟨#[]⟩] rfl rfl y0 (by kernel_rfl) rfl (by simp [Value.oneCell']) ?_))
    intro W' hW' hbe
    have j1 := (hbe.block (w.heap.size + 1) RT.out.lt (by simp)).trans RT.out.e
    have BEL := Lib.hid ((Below.beside RT.out.b hbe RT.out.b.size (by simp)).setCell (p := ⟨w.heap.size + 1, 0, none⟩) (by simp))
    have e0 : W'.cell? ⟨w.heap.size + 1, 0, none⟩ = some (.int .i64 0) := by rw [cell_of_row W' (w.heap.size + 1) _ _ _ _ j1]; rfl
    have y1 := frozen_row0 (i := 0) j1
    obtain ⟨c0, c1, c2, c3, c4⟩ := box5 hW'
    go_wp2
    refine leaves_cons (f := 92) (args := #[.pointer (some ⟨w.heap.size + 1, 0, none⟩)]) (by simp) (by simp [go_sem]) ?_
    refine (caught_idle _ _).mono ?_
    rintro e u' w'' ⟨rfl, rfl, rfl⟩
    simp [Leaves, settle, results, Tryz.results176, go_sem, c0, c1, c2, c3, c4, e0]
    exact dec_bad GD.out rfl (BEL.out _)
  | false =>
  have hz : ¬ (0 < v.length ∧ at_ v (v.length - 1) = 0) := fun h => by rw [(endB_iff v).2 h] at hend; cases hend
  have HZ := Lib.hid hz
  clear hend hz
  have hp0 : w.heap.size + 1 + 1 < w4.heap.size := by omega
  obtain ⟨p, hp⟩ : ∃ p, p = w4.heap.size := ⟨_, rfl⟩
  rw [← hp] at hoA
  rw [← hp] at gp hp0 hz5 ⊢
  have GP := Lib.hid gp
  have HO5 := Lib.hid own5
  have HST := Lib.hid st5
  have HSZ := Lib.hid (And.intro hz5 (And.intro hp hz4))
  clear gp own5 hz5 hp hz4
  -- the tape goes on
  cases g4 : numG 9223372036854775807 l3 with
  | bad E =>
    have GG := Lib.hid g4
    have NB : Hid (∀ W, Below w5'.heap.size w5' W → Calls Tryz.prog 154 #[.pointer (some ⟨w.heap.size + 1 + 1, 0, none⟩), .int .u64 9223372036854775807] W fun e w' => e = fault E ∧ Hid (Ret w w')) := Lib.hid fun W hW =>
      (num_bad (w.heap.size + 1 + 1) 9223372036854775807 E l3 W ((HST.out.below hW).tape.at_ (HST.out.below hW).see) (by omega) GG.out).mono fun e w' h => ⟨h.1, Lib.hid ((HST.out.below hW).ret.beside (by omega) h.2)⟩
    clear g4 st5
    unfold fault at NB
    go_wp2_with fail
    refine wp_region_any (by kernel_rfl) ?_
    refine wpAny_take (i := 0) (v := ?v0_1) rfl (by kernel_rfl) (by kernel_rfl) (by kernel_rfl) (fun c a w h => panic_put 20 (by decide) (by decide) h) (Or.inl ⟨by rfl, ?y0_1⟩) ?r0_1
    case y0_1 => intro W; go_simp; rfl
    refine wpAny_take (i := 2) (v := ?v2_2) rfl (by kernel_rfl) (by kernel_rfl) (by kernel_rfl) (fun c a w h => panic_put 22 (by decide) (by decide) h) (Or.inl ⟨by rfl, ?y2_2⟩) ?r2_2
    case y2_2 => intro W; go_simp; rfl
    refine wpAny_ready (rs := [1]) (by kernel_rfl) (by simp) ?_
    refine AllReady.cons rfl (fun K hK => ?_) AllReady.nil
    go_simp
    refine (NB.out _ (Below.refl _ _).drew).mono ?_
    rintro e wb ⟨rfl, RT0⟩
    have GD := Lib.hid (show G = .inl E by rw [HG.out]; unfold decM; (try simp only [G1.out]); (try simp only [G2.out]); (try simp only [G3.out]); rw [if_neg HZ.out]; (try simp only [GG.out]))
    have RT := Lib.hid (RT0.out)
    clear HG
    unfold Exit.then
    refine leaves_cons (f := 92) (args := #[.pointer (some ⟨w.heap.size + 1, 0, none⟩)]) (by simp) (by simp [go_sem]) ?_
    refine (caught_bad (w.heap.size + 1) E [] wb 0 29 RT.out.e).mono ?_
    rintro e u' w9 ⟨rfl, rfl, hst, hbe9⟩
    have j0 := (hbe9.block w.heap.size (by have := RT.out.lt; omega) (by simp)).trans RT.out.z
    have BEL := Lib.hid (Below.beside RT.out.b hbe9 RT.out.b.size (by simp))
    obtain ⟨c0, c1, c2, c3, c4⟩ := box5 j0
    have e0 : w9.cell? ⟨w.heap.size + 1, 0, none⟩ = some (.int .i64 ((E : Nat) : Int)) := by rw [cell_of_row w9 (w.heap.size + 1) _ _ _ _ hst]; rfl
    clear hst hbe9 j0
    simp [Leaves, settle, results, Tryz.results176, go_sem, c0, c1, c2, c3, c4, e0]
    exact dec_bad GD.out rfl BEL.out
  | ok tm l4 =>
  have G4 := Lib.hid g4
  have hl4 : l4.length ≤ 100000 := by have := (numG_enc g4).1; have h2 := congrArg List.length this; rw [List.length_append] at h2; omega
  have NB : Hid (∀ W, Below w5'.heap.size w5' W → Calls Tryz.prog 154 #[.pointer (some ⟨w.heap.size + 1 + 1, 0, none⟩), .int .u64 9223372036854775807] W fun e w' => e = .returned (.int .u64 (tm : Int)) ∧ Hid (St A n l w w' l4 ∧ Beside [w.heap.size + 1 + 1] w5' w')) := Lib.hid fun W hW =>
    (num_ok (w.heap.size + 1 + 1) 9223372036854775807 tm l3 l4 W (HST.out.below hW).tape (HST.out.below hW).see (by omega) G4.out).mono fun e w' h => ⟨h.1, Lib.hid ⟨(HST.out.below hW).read h.2.2 h.2.1, (Beside.of_below hW _).trans h.2.2 fun x hx => .inl hx⟩⟩
  clear g4 st5
  go_wp2_with fail
  refine wp_region_any (by kernel_rfl) ?_
  refine wpAny_take (i := 0) (v := ?v0_3) rfl (by kernel_rfl) (by kernel_rfl) (by kernel_rfl) (fun c a w h => panic_put 20 (by decide) (by decide) h) (Or.inl ⟨by rfl, ?y0_3⟩) ?r0_3
  case y0_3 => intro W; go_simp; rfl
  refine wpAny_take (i := 2) (v := ?v2_4) rfl (by kernel_rfl) (by kernel_rfl) (by kernel_rfl) (fun c a w h => panic_put 22 (by decide) (by decide) h) (Or.inl ⟨by rfl, ?y2_4⟩) ?r2_4
  case y2_4 => intro W; go_simp; rfl
  refine wpAny_ready (rs := [1]) (by kernel_rfl) (by simp) ?_
  refine AllReady.cons rfl (fun K hK => ?_) AllReady.nil
  go_simp
  refine (NB.out _ (Below.refl _ _).drew).mono ?_
  rintro e w6 ⟨rfl, H6⟩
  refine hK _ _ ?_
  clear hK K NB
  refine wpAny_take (i := 5) (v := ?v5_5) rfl (by kernel_rfl) (by kernel_rfl) (by kernel_rfl) (fun c a w h => panic_put 25 (by decide) (by decide) h) (Or.inl ⟨by rfl, ?y5_5⟩) ?r5_5
  case y5_5 => intro W; go_simp; rfl
  cases g5 : textG 48 l4 with
  | bad E =>
    have GG := Lib.hid g5
    have NB : Hid (Calls Tryz.prog 218 #[.pointer (some ⟨w.heap.size + 1 + 1, 0, none⟩), .int .i64 48] w6 fun e w' => e = fault E ∧ Hid (Ret w w')) := Lib.hid
      ((text_bad (w.heap.size + 1 + 1) 48 E l4 w6 (H6.out.1.tape.at_ H6.out.1.see) (by omega) (by omega) GG.out).mono fun e w' h => ⟨h.1, Lib.hid (H6.out.1.ret.beside (by omega) h.2)⟩)
    clear g5
    unfold fault at NB
    refine wpAny_ready (rs := [3]) (by kernel_rfl) (by simp) ?_
    refine AllReady.cons rfl (fun K hK => ?_) AllReady.nil
    go_simp
    refine NB.out.mono ?_
    rintro e wb ⟨rfl, RT0⟩
    have GD := Lib.hid (show G = .inl E by rw [HG.out]; unfold decM; (try simp only [G1.out]); (try simp only [G2.out]); (try simp only [G3.out]); rw [if_neg HZ.out]; (try simp only [G4.out]); (try simp only [GG.out]))
    have RT := Lib.hid (RT0.out)
    clear HG
    unfold Exit.then
    refine leaves_cons (f := 92) (args := #[.pointer (some ⟨w.heap.size + 1, 0, none⟩)]) (by simp) (by simp [go_sem]) ?_
    refine (caught_bad (w.heap.size + 1) E [] wb 0 29 RT.out.e).mono ?_
    rintro e u' w9 ⟨rfl, rfl, hst, hbe9⟩
    have j0 := (hbe9.block w.heap.size (by have := RT.out.lt; omega) (by simp)).trans RT.out.z
    have BEL := Lib.hid (Below.beside RT.out.b hbe9 RT.out.b.size (by simp))
    obtain ⟨c0, c1, c2, c3, c4⟩ := box5 j0
    have e0 : w9.cell? ⟨w.heap.size + 1, 0, none⟩ = some (.int .i64 ((E : Nat) : Int)) := by rw [cell_of_row w9 (w.heap.size + 1) _ _ _ _ hst]; rfl
    clear hst hbe9 j0
    simp [Leaves, settle, results, Tryz.results176, go_sem, c0, c1, c2, c3, c4, e0]
    exact dec_bad GD.out rfl BEL.out
  | ok T5 r =>
  have G5 := Lib.hid g5
  have hl5 : r.length ≤ 100000 := by have := (text_enc g5).1; have h2 := congrArg List.length this; simp only [List.length_append] at h2; omega
  have NB : Hid (Calls Tryz.prog 218 #[.pointer (some ⟨w.heap.size + 1 + 1, 0, none⟩), .int .i64 48] w6 fun e w' => ∃ B m k', e = .returned (.slice B m k') ∧ Hid (St A n l w w' r ∧ Beside [w.heap.size + 1 + 1] w5' w' ∧ OwnC w' w6.heap.size 5 B m k' (cs T5))) := Lib.hid
    ((text_ok (w.heap.size + 1 + 1) 48 T5 l4 r w6 H6.out.1.tape H6.out.1.see (by omega) (by omega) G5.out).mono fun e w' ⟨B, m, k', h1, h2, h3, h4⟩ => ⟨B, m, k', h1, Lib.hid ⟨H6.out.1.read h4 h3, H6.out.2.trans h4 fun x hx => .inl hx, h2⟩⟩)
  clear g5
  refine wpAny_ready (rs := [3]) (by kernel_rfl) (by simp) ?_
  refine AllReady.cons rfl (fun K hK => ?_) AllReady.nil
  go_simp
  refine NB.out.mono ?_
  rintro e w7 ⟨B, m, k', rfl, H7⟩
  refine hK _ _ ?_
  clear hK K NB
  have ST7 := Lib.hid H7.out.1
  have GP7 : w7.heap[p]? = some (.cells #[.int .i64 (nd : Int), .int .u64 (sr : Int), .slice R k rc, .int .u64 0, .string ⟨#[]⟩] 86 (0, 0)) :=
    (H7.out.2.1.block p (by have := HSZ.out.1; omega) (by simp; omega)).trans GP.out
  have rA := H7.out.2.2.sees.string (P := Tryz.prog) k' (t := 28) (s := 9) (e := 5) Tryz.underlying28 Tryz.underlying5 Tryz.underlying9
  have hpB : Out [p] B m := OwnC.out H7.out.2.2 (fun x hx => by simp at hx; have := (Array.getElem?_eq_some_iff.1 GP.out).1; have := H6.out.2.size; omega)
  have rB := fun v => (H7.out.2.2.sees.beside ((Beside.refl [p] w7).setCell (p := ⟨p, 3, none⟩) (by simp) v) hpB).string (P := Tryz.prog) k' (t := 28) (s := 9) (e := 5) Tryz.underlying28 Tryz.underlying5 Tryz.underlying9
  obtain ⟨q0, q1, q2, q3, q4⟩ := box5 GP7
  have y3 := frozen_row0 (i := 3) GP7
  have y4 := frozen_row0 (i := 4) GP7
  have OWN : Hid (w7.ownsRow w3.heap.size 22 1 (.slice R k rc) k (us v)) := Lib.hid (Own.beside HO5.out H7.out.2.1 (fun x hx => by simp at hx; omega))
  have HS7 := Lib.hid GP7
  clear hpB GP7
  refine wpAny_ready (rs := [4, 6]) (by kernel_rfl) (by simp) ?_
  refine AllReady.cons rfl (fun K hK => ?way4) (AllReady.cons rfl (fun K hK => ?way6) AllReady.nil)
  case way4 =>
    go_simp
    refine hK _ _ ?_
    clear hK K rB
    refine wpAny_ready (rs := [6]) (by kernel_rfl) (by simp) ?_
    refine AllReady.cons rfl (fun K hK => ?_) AllReady.nil
    go_simp
    refine hK _ _ ?_
    clear hK K
    refine wpAny_take (i := 7) (v := ?v7_6) rfl (by kernel_rfl) (by kernel_rfl) (by kernel_rfl) (fun c a w h => panic_put 26 (by decide) (by decide) h) (Or.inl ⟨by rfl, ?y7_6⟩) ?r7_6
    case y7_6 => intro W; go_simp; rfl
    refine wpAny_ready (rs := [8]) (by kernel_rfl) (by simp) ?_
    refine AllReady.cons rfl (fun K hK => ?_) AllReady.nil
    go_simp
    refine hK _ _ ?_
    clear hK K
    refine wpAny_done (by kernel_rfl) ?_ _
    have ST8 : Hid (St A n l w ((w7.setCell ⟨p, 3, none⟩ (.int .u64 (tm : Int))).setCell ⟨p, 4, none⟩ (.string ⟨T5.toArray⟩)) r) := Lib.hid (ST7.out.box (by omega) hoA (((Beside.refl [p] w7).setCell (p := ⟨p, 3, none⟩) (by simp) _).setCell (p := ⟨p, 4, none⟩) (by simp) _))
    have GP8 : Hid (((w7.setCell ⟨p, 3, none⟩ (.int .u64 (tm : Int))).setCell ⟨p, 4, none⟩ (.string ⟨T5.toArray⟩)).heap[p]? = some (.cells #[.int .i64 (nd : Int), .int .u64 (sr : Int), .slice R k rc, .int .u64 (tm : Int), .string ⟨T5.toArray⟩] 86 (0, 0))) := Lib.hid ((heapSame (heapSame HS7.out)).trans rfl)
    have OWN8 : Hid (((w7.setCell ⟨p, 3, none⟩ (.int .u64 (tm : Int))).setCell ⟨p, 4, none⟩ (.string ⟨T5.toArray⟩)).ownsRow w3.heap.size 22 1 (.slice R k rc) k (us v)) := Lib.hid (Sht.own_other (cur2 := #[.int .i64 (nd : Int), .int .u64 (sr : Int), .slice R k rc, .int .u64 (tm : Int), .string ⟨#[]⟩]) (e2 := 86) (fr := (0, 0)) (Sht.own_other OWN.out HS7.out (by decide)) ((heapSame HS7.out).trans rfl) (by decide))
    clear q0 q1 q2 q3 q4 y3 y4 OWN HS7 ST7 H7 H6
    go_wp2_with fail
    generalize (w7.setCell ⟨p, 3, none⟩ (.int .u64 (tm : Int))).setCell ⟨p, 4, none⟩ (.string ⟨T5.toArray⟩) = w8 at ST8 GP8 OWN8 ⊢
    by_cases hr : r = []
    case neg =>
      have HR := Lib.hid hr
      have hr0 : 0 < r.length := by cases r with | nil => exact absurd rfl hr | cons a b => simp
      refine (done_bad (w.heap.size + 1 + 1) r w8 (ST8.out.tape.at_ ST8.out.see) hr0).mono ?_
      clear hr hr0
      rintro e wb ⟨rfl, rfl⟩
      have GD := Lib.hid (show G = .inl 4 by rw [HG.out]; unfold decM; (try simp only [G1.out]); (try simp only [G2.out]); (try simp only [G3.out]); rw [if_neg HZ.out]; (try simp only [G4.out]); (try simp only [G5.out]); rw [if_pos HR.out])
      have RT := Lib.hid (ST8.out.ret)
      clear HG
      unfold fault
      go_wp2
      refine leaves_cons (f := 92) (args := #[.pointer (some ⟨w.heap.size + 1, 0, none⟩)]) (by simp) (by simp [go_sem]) ?_
      refine (caught_bad (w.heap.size + 1) 4 [] w8 0 29 RT.out.e).mono ?_
      rintro e u' w9 ⟨rfl, rfl, hst, hbe9⟩
      have j0 := (hbe9.block w.heap.size (by have := RT.out.lt; omega) (by simp)).trans RT.out.z
      have BEL := Lib.hid (Below.beside RT.out.b hbe9 RT.out.b.size (by simp))
      obtain ⟨c0, c1, c2, c3, c4⟩ := box5 j0
      have e0 : w9.cell? ⟨w.heap.size + 1, 0, none⟩ = some (.int .i64 ((4 : Nat) : Int)) := by rw [cell_of_row w9 (w.heap.size + 1) _ _ _ _ hst]; rfl
      clear hst hbe9 j0
      simp [Leaves, settle, results, Tryz.results176, go_sem, c0, c1, c2, c3, c4, e0]
      exact dec_bad GD.out rfl BEL.out
    case pos =>
      subst hr
      refine (done_any (w.heap.size + 1 + 1) w8 (ST8.out.tape.at_ ST8.out.see)).mono ?_
      rintro e w8' ⟨rfl, rfl⟩
      obtain ⟨p0, p1, p2, p3, p4⟩ := box5 GP8.out
      go_wp2_with fail
      have hsz5 : (⟨T5.toArray⟩ : ByteArray).size ≤ 48 := by rw [size_of]; exact (text_enc G5.out).2
      refine (fold_may ⟨T5.toArray⟩ w8 (by omega)).mono ?_
      rintro e w9 ⟨rfl, hb9⟩
      have RT := Lib.hid (ST8.out.ret.below hb9)
      have GP9 := (hb9.block p (Array.getElem?_eq_some_iff.1 GP8.out).1).trans GP8.out
      have OWN9 := Lib.hid (Own.below OWN8.out hb9 (Nat.le_refl _))
      have hp9 : p < w9.heap.size := (Array.getElem?_eq_some_iff.1 GP9).1
      have HG2 : Hid (G = endG (nd : Int) sr v tm T5) := Lib.hid (by rw [HG.out]; unfold decM; (try simp only [G1.out]); (try simp only [G2.out]); (try simp only [G3.out]); rw [if_neg HZ.out]; (try simp only [G4.out]); (try simp only [G5.out]); rw [if_neg (by simp)])
      clear p0 p1 p2 p3 p4 hb9 GP8 OWN8 ST8 HG
      cases hfo : foldB ⟨T5.toArray⟩ with
      | false =>
        have GD := Lib.hid (show G = .inl 4 by rw [HG2.out]; unfold endG; rw [if_pos hfo])
        clear hfo HG2 GP9 OWN9
        have y0 := RT.out.z
        unfold zRow at y0
        go_wp2_with (first
          | (refine wpList_putRow rfl 86 (.tmp 2) (.tmp 33) rfl w.heap.size 86 #[.int .i64 0, .int .u64 0, .slice none 0 0, .int .u64 0, .string ⟨#[]⟩] #[.int .i64 0, .int .u64 0, .slice none 0 0, .int .u64 0, .string ⟨#[]⟩] rfl rfl y0 (by kernel_rfl) rfl (by simp [Value.oneCell']) ?_))
        intro W' hW' hbe
        have j1 := (hbe.block (w.heap.size + 1) RT.out.lt (by simp)).trans RT.out.e
        have BEL := Lib.hid ((Below.beside RT.out.b hbe RT.out.b.size (by simp)).setCell (p := ⟨w.heap.size + 1, 0, none⟩) (by simp))
        have e0 : W'.cell? ⟨w.heap.size + 1, 0, none⟩ = some (.int .i64 0) := by rw [cell_of_row W' (w.heap.size + 1) _ _ _ _ j1]; rfl
        have y1 := frozen_row0 (i := 0) j1
        obtain ⟨c0, c1, c2, c3, c4⟩ := box5 hW'
        go_wp2
        refine leaves_cons (f := 92) (args := #[.pointer (some ⟨w.heap.size + 1, 0, none⟩)]) (by simp) (by simp [go_sem]) ?_
        refine (caught_idle _ _).mono ?_
        rintro e u' w'' ⟨rfl, rfl, rfl⟩
        simp [Leaves, settle, results, Tryz.results176, go_sem, c0, c1, c2, c3, c4, e0]
        exact dec_bad GD.out rfl (BEL.out _)
      | true =>
        have GD := Lib.hid (show G = .inr ⟨(nd : Int), sr, v, tm, ⟨T5.toArray⟩⟩ by rw [HG2.out]; unfold endG; rw [if_neg (by simp [hfo])])
        clear hfo HG2
        have y0 := RT.out.z
        unfold zRow at y0
        go_wp2_with (first
          | (refine wpList_getRow rfl 86 (.tmp 5) rfl p 86 #[.int .i64 (nd : Int), .int .u64 (sr : Int), .slice R k rc, .int .u64 (tm : Int), .string ⟨T5.toArray⟩] (0, 0) _ rfl GP9 Tryz.underlying86 rfl (by kernel_rfl) ?_)
          | (refine wpList_putRow rfl 86 (.tmp 2) (.tmp 34) rfl w.heap.size 86 #[.int .i64 0, .int .u64 0, .slice none 0 0, .int .u64 0, .string ⟨#[]⟩] #[.int .i64 (nd : Int), .int .u64 (sr : Int), .slice R k rc, .int .u64 (tm : Int), .string ⟨T5.toArray⟩] rfl rfl y0 (by kernel_rfl) rfl (by simp [Value.oneCell']) ?_))
        intro W' hW' hbe
        have j1 := (hbe.block (w.heap.size + 1) RT.out.lt (by simp)).trans RT.out.e
        have BEL := Lib.hid ((Below.beside RT.out.b hbe RT.out.b.size (by simp)).setCell (p := ⟨w.heap.size + 1, 0, none⟩) (by simp))
        have e0 : W'.cell? ⟨w.heap.size + 1, 0, none⟩ = some (.int .i64 0) := by rw [cell_of_row W' (w.heap.size + 1) _ _ _ _ j1]; rfl
        have y1 := frozen_row0 (i := 0) j1
        obtain ⟨c0, c1, c2, c3, c4⟩ := box5 hW'
        have OWNF : Hid (∀ x, (W'.setCell ⟨w.heap.size + 1, 0, none⟩ x).ownsRow w.heap.size 22 1 (.slice R k rc) k (us v)) := Lib.hid fun x => Own.lower (Own.beside (Own.beside OWN9.out hbe (fun z hz => by simp at hz; omega)) ((Beside.refl [w.heap.size + 1] W').setCell (p := ⟨w.heap.size + 1, 0, none⟩) (by simp) x) (fun z hz => by simp at hz; omega)) (by omega)
        go_wp2
        refine leaves_cons (f := 92) (args := #[.pointer (some ⟨w.heap.size + 1, 0, none⟩)]) (by simp) (by simp [go_sem]) ?_
        refine (caught_idle _ _).mono ?_
        rintro e u' w'' ⟨rfl, rfl, rfl⟩
        simp [Leaves, settle, results, Tryz.results176, go_sem, c0, c1, c2, c3, c4, e0]
        exact dec_ok GD.out rfl (OWNF.out _) (BEL.out _)
  case way6 =>
    go_simp
    refine hK _ _ ?_
    clear hK K rA
    refine wpAny_ready (rs := [4]) (by kernel_rfl) (by simp) ?_
    refine AllReady.cons rfl (fun K hK => ?_) AllReady.nil
    go_simp
    refine hK _ _ ?_
    clear hK K
    refine wpAny_take (i := 7) (v := ?v7_7) rfl (by kernel_rfl) (by kernel_rfl) (by kernel_rfl) (fun c a w h => panic_put 26 (by decide) (by decide) h) (Or.inl ⟨by rfl, ?y7_7⟩) ?r7_7
    case y7_7 => intro W; go_simp; rfl
    refine wpAny_ready (rs := [8]) (by kernel_rfl) (by simp) ?_
    refine AllReady.cons rfl (fun K hK => ?_) AllReady.nil
    go_simp
    refine hK _ _ ?_
    clear hK K
    refine wpAny_done (by kernel_rfl) ?_ _
    have ST8 : Hid (St A n l w ((w7.setCell ⟨p, 3, none⟩ (.int .u64 (tm : Int))).setCell ⟨p, 4, none⟩ (.string ⟨T5.toArray⟩)) r) := Lib.hid (ST7.out.box (by omega) hoA (((Beside.refl [p] w7).setCell (p := ⟨p, 3, none⟩) (by simp) _).setCell (p := ⟨p, 4, none⟩) (by simp) _))
    have GP8 : Hid (((w7.setCell ⟨p, 3, none⟩ (.int .u64 (tm : Int))).setCell ⟨p, 4, none⟩ (.string ⟨T5.toArray⟩)).heap[p]? = some (.cells #[.int .i64 (nd : Int), .int .u64 (sr : Int), .slice R k rc, .int .u64 (tm : Int), .string ⟨T5.toArray⟩] 86 (0, 0))) := Lib.hid ((heapSame (heapSame HS7.out)).trans rfl)
    have OWN8 : Hid (((w7.setCell ⟨p, 3, none⟩ (.int .u64 (tm : Int))).setCell ⟨p, 4, none⟩ (.string ⟨T5.toArray⟩)).ownsRow w3.heap.size 22 1 (.slice R k rc) k (us v)) := Lib.hid (Sht.own_other (cur2 := #[.int .i64 (nd : Int), .int .u64 (sr : Int), .slice R k rc, .int .u64 (tm : Int), .string ⟨#[]⟩]) (e2 := 86) (fr := (0, 0)) (Sht.own_other OWN.out HS7.out (by decide)) ((heapSame HS7.out).trans rfl) (by decide))
    clear q0 q1 q2 q3 q4 y3 y4 OWN HS7 ST7 H7 H6
    go_wp2_with fail
    generalize (w7.setCell ⟨p, 3, none⟩ (.int .u64 (tm : Int))).setCell ⟨p, 4, none⟩ (.string ⟨T5.toArray⟩) = w8 at ST8 GP8 OWN8 ⊢
    by_cases hr : r = []
    case neg =>
      have HR := Lib.hid hr
      have hr0 : 0 < r.length := by cases r with | nil => exact absurd rfl hr | cons a b => simp
      refine (done_bad (w.heap.size + 1 + 1) r w8 (ST8.out.tape.at_ ST8.out.see) hr0).mono ?_
      clear hr hr0
      rintro e wb ⟨rfl, rfl⟩
      have GD := Lib.hid (show G = .inl 4 by rw [HG.out]; unfold decM; (try simp only [G1.out]); (try simp only [G2.out]); (try simp only [G3.out]); rw [if_neg HZ.out]; (try simp only [G4.out]); (try simp only [G5.out]); rw [if_pos HR.out])
      have RT := Lib.hid (ST8.out.ret)
      clear HG
      unfold fault
      go_wp2
      refine leaves_cons (f := 92) (args := #[.pointer (some ⟨w.heap.size + 1, 0, none⟩)]) (by simp) (by simp [go_sem]) ?_
      refine (caught_bad (w.heap.size + 1) 4 [] w8 0 29 RT.out.e).mono ?_
      rintro e u' w9 ⟨rfl, rfl, hst, hbe9⟩
      have j0 := (hbe9.block w.heap.size (by have := RT.out.lt; omega) (by simp)).trans RT.out.z
      have BEL := Lib.hid (Below.beside RT.out.b hbe9 RT.out.b.size (by simp))
      obtain ⟨c0, c1, c2, c3, c4⟩ := box5 j0
      have e0 : w9.cell? ⟨w.heap.size + 1, 0, none⟩ = some (.int .i64 ((4 : Nat) : Int)) := by rw [cell_of_row w9 (w.heap.size + 1) _ _ _ _ hst]; rfl
      clear hst hbe9 j0
      simp [Leaves, settle, results, Tryz.results176, go_sem, c0, c1, c2, c3, c4, e0]
      exact dec_bad GD.out rfl BEL.out
    case pos =>
      subst hr
      refine (done_any (w.heap.size + 1 + 1) w8 (ST8.out.tape.at_ ST8.out.see)).mono ?_
      rintro e w8' ⟨rfl, rfl⟩
      obtain ⟨p0, p1, p2, p3, p4⟩ := box5 GP8.out
      go_wp2_with fail
      have hsz5 : (⟨T5.toArray⟩ : ByteArray).size ≤ 48 := by rw [size_of]; exact (text_enc G5.out).2
      refine (fold_may ⟨T5.toArray⟩ w8 (by omega)).mono ?_
      rintro e w9 ⟨rfl, hb9⟩
      have RT := Lib.hid (ST8.out.ret.below hb9)
      have GP9 := (hb9.block p (Array.getElem?_eq_some_iff.1 GP8.out).1).trans GP8.out
      have OWN9 := Lib.hid (Own.below OWN8.out hb9 (Nat.le_refl _))
      have hp9 : p < w9.heap.size := (Array.getElem?_eq_some_iff.1 GP9).1
      have HG2 : Hid (G = endG (nd : Int) sr v tm T5) := Lib.hid (by rw [HG.out]; unfold decM; (try simp only [G1.out]); (try simp only [G2.out]); (try simp only [G3.out]); rw [if_neg HZ.out]; (try simp only [G4.out]); (try simp only [G5.out]); rw [if_neg (by simp)])
      clear p0 p1 p2 p3 p4 hb9 GP8 OWN8 ST8 HG
      cases hfo : foldB ⟨T5.toArray⟩ with
      | false =>
        have GD := Lib.hid (show G = .inl 4 by rw [HG2.out]; unfold endG; rw [if_pos hfo])
        clear hfo HG2 GP9 OWN9
        have y0 := RT.out.z
        unfold zRow at y0
        go_wp2_with (first
          | (refine wpList_putRow rfl 86 (.tmp 2) (.tmp 33) rfl w.heap.size 86 #[.int .i64 0, .int .u64 0, .slice none 0 0, .int .u64 0, .string ⟨#[]⟩] #[.int .i64 0, .int .u64 0, .slice none 0 0, .int .u64 0, .string ⟨#[]⟩] rfl rfl y0 (by kernel_rfl) rfl (by simp [Value.oneCell']) ?_))
        intro W' hW' hbe
        have j1 := (hbe.block (w.heap.size + 1) RT.out.lt (by simp)).trans RT.out.e
        have BEL := Lib.hid ((Below.beside RT.out.b hbe RT.out.b.size (by simp)).setCell (p := ⟨w.heap.size + 1, 0, none⟩) (by simp))
        have e0 : W'.cell? ⟨w.heap.size + 1, 0, none⟩ = some (.int .i64 0) := by rw [cell_of_row W' (w.heap.size + 1) _ _ _ _ j1]; rfl
        have y1 := frozen_row0 (i := 0) j1
        obtain ⟨c0, c1, c2, c3, c4⟩ := box5 hW'
        go_wp2
        refine leaves_cons (f := 92) (args := #[.pointer (some ⟨w.heap.size + 1, 0, none⟩)]) (by simp) (by simp [go_sem]) ?_
        refine (caught_idle _ _).mono ?_
        rintro e u' w'' ⟨rfl, rfl, rfl⟩
        simp [Leaves, settle, results, Tryz.results176, go_sem, c0, c1, c2, c3, c4, e0]
        exact dec_bad GD.out rfl (BEL.out _)
      | true =>
        have GD := Lib.hid (show G = .inr ⟨(nd : Int), sr, v, tm, ⟨T5.toArray⟩⟩ by rw [HG2.out]; unfold endG; rw [if_neg (by simp [hfo])])
        clear hfo HG2
        have y0 := RT.out.z
        unfold zRow at y0
        go_wp2_with (first
          | (refine wpList_getRow rfl 86 (.tmp 5) rfl p 86 #[.int .i64 (nd : Int), .int .u64 (sr : Int), .slice R k rc, .int .u64 (tm : Int), .string ⟨T5.toArray⟩] (0, 0) _ rfl GP9 Tryz.underlying86 rfl (by kernel_rfl) ?_)
          | (refine wpList_putRow rfl 86 (.tmp 2) (.tmp 34) rfl w.heap.size 86 #[.int .i64 0, .int .u64 0, .slice none 0 0, .int .u64 0, .string ⟨#[]⟩] #[.int .i64 (nd : Int), .int .u64 (sr : Int), .slice R k rc, .int .u64 (tm : Int), .string ⟨T5.toArray⟩] rfl rfl y0 (by kernel_rfl) rfl (by simp [Value.oneCell']) ?_))
        intro W' hW' hbe
        have j1 := (hbe.block (w.heap.size + 1) RT.out.lt (by simp)).trans RT.out.e
        have BEL := Lib.hid ((Below.beside RT.out.b hbe RT.out.b.size (by simp)).setCell (p := ⟨w.heap.size + 1, 0, none⟩) (by simp))
        have e0 : W'.cell? ⟨w.heap.size + 1, 0, none⟩ = some (.int .i64 0) := by rw [cell_of_row W' (w.heap.size + 1) _ _ _ _ j1]; rfl
        have y1 := frozen_row0 (i := 0) j1
        obtain ⟨c0, c1, c2, c3, c4⟩ := box5 hW'
        have OWNF : Hid (∀ x, (W'.setCell ⟨w.heap.size + 1, 0, none⟩ x).ownsRow w.heap.size 22 1 (.slice R k rc) k (us v)) := Lib.hid fun x => Own.lower (Own.beside (Own.beside OWN9.out hbe (fun z hz => by simp at hz; omega)) ((Beside.refl [w.heap.size + 1] W').setCell (p := ⟨w.heap.size + 1, 0, none⟩) (by simp) x) (fun z hz => by simp at hz; omega)) (by omega)
        go_wp2
        refine leaves_cons (f := 92) (args := #[.pointer (some ⟨w.heap.size + 1, 0, none⟩)]) (by simp) (by simp [go_sem]) ?_
        refine (caught_idle _ _).mono ?_
        rintro e u' w'' ⟨rfl, rfl, rfl⟩
        simp [Leaves, settle, results, Tryz.results176, go_sem, c0, c1, c2, c3, c4, e0]
        exact dec_ok GD.out rfl (OWNF.out _) (BEL.out _)
end Go.Proofs.YtinjbdgjcadodaaGreatDoor.Man
