/- The law VectorReads, walked out of what is asked of package vector. -/
import Derived.Test.YtpfmgjfkjjnadaaVecSmall
namespace Go.Proofs.Ytpfmgjfkjjnadaa.Vec
open Go Go.RowKit Go.Proofs.Ytpfmgjfkjjnadaa.Words Go.Proofs.Ytpfmgjfkjjnadaa.Enc Go.Proofs.Ytpfmgjfkjjnadaa.Made Go.Proofs.Ytpfmgjfkjjnadaa.Tape
set_option linter.unusedVariables false
set_option linter.unusedSimpArgs false

theorem SeesU.beside {S : List Nat} {w w' : World} {A : Option Addr} {n : Nat} {l : List Nat} (h : SeesU w A n l) (hb : Beside S w w') (hS : Out S A n) : SeesU w' A n l := by
  refine ⟨h.1, fun hn => ?_⟩
  obtain ⟨b, o, hA, hc⟩ := h.2 hn
  exact ⟨b, o, hA, fun j u hu => hb.cell (hc j u hu) (show b ∉ S from hS hn _ hA)⟩
theorem seesU_off {w : World} {t : Nat} {B : Option Addr} {m k : Nat} {T : TypeId} {f : Nat × Nat} (hb : w.heap[t]? = some (.cells #[.slice B m k] T f)) {A : Option Addr} {n : Nat} {l : List Nat} (h : SeesU w A n l) : Out [t] A n := by
  intro hn a ha hm
  obtain ⟨b, o, e, hc⟩ := h.2 hn
  rw [e] at ha
  injection ha with ha
  subst ha
  have hl : 0 < l.length := by rw [h.1]; exact hn
  have h1 := hc 0 l[0] (List.getElem?_eq_getElem hl)
  simp at hm
  subst hm
  rw [cell_of_row w b (o + 0) _ _ _ hb] at h1
  cases o with
  | zero => simp at h1
  | succ o => simp at h1
theorem seesU_cell {w : World} {t : Nat} {x : Int} {T : TypeId} {f : Nat × Nat} (hb : w.heap[t]? = some (.cells #[.int .i64 x] T f)) {A : Option Addr} {n : Nat} {l : List Nat} (h : SeesU w A n l) : Out [t] A n := by
  intro hn a ha hm
  obtain ⟨b, o, e, hc⟩ := h.2 hn
  rw [e] at ha
  injection ha with ha
  subst ha
  have hl : 0 < l.length := by rw [h.1]; exact hn
  have h1 := hc 0 l[0] (List.getElem?_eq_getElem hl)
  simp at hm
  subst hm
  rw [cell_of_row w b (o + 0) _ _ _ hb] at h1
  cases o with
  | zero => simp at h1
  | succ o => simp at h1
theorem Took2.beside {S : List Nat} {w w' : World} {A : Option Addr} {n c : Nat} {a : List Nat} (h : Took2 w A n c a) (hb : Beside S w w') (hS : Out S A n) : Took2 w' A n c a := ⟨h.1.beside hb hS, h.2⟩
theorem Out.two {p1 p2 : Nat} {A : Option Addr} {n : Nat} (h1 : Out [p1] A n) (h2 : Out [p2] A n) : Out [p1, p2] A n := fun hn a ha hm => by
  simp only [List.mem_cons, List.not_mem_nil, or_false] at hm
  rcases hm with hm | hm
  · exact h1 hn a ha (by simp [hm])
  · exact h2 hn a ha (by simp [hm])

/-- What is read of a tape. -/
def ReadGives (PA : Option Addr) (PN : Nat) (L : List UInt8) (t : Nat) (g : Got (List Nat)) (w : World) (e : Ending) (w' : World) : Prop :=
  match g with
  | .bad E => e = fault E ∧ Beside [t] w w'
  | .ok v r => ∃ R k rc, e = .returned (.slice R k rc) ∧ SeesU w' R k v ∧ k ≤ rc ∧ rc ≤ 9223372036854775807 ∧ TapeOn PA PN L w' t r ∧ Beside [t] w w'
def ReadSaid : Prop := ∀ (PA : Option Addr) (PN : Nat) (L : List UInt8) (t : Nat) (l : List UInt8) (w : World), TapeOn PA PN L w t l → Sees w PA PN L → l.length ≤ 100000 →
  Calls Try.prog 30 #[.pointer (some ⟨t, 0, none⟩)] w (ReadGives PA PN L t (readG l) w)

set_option maxRecDepth 100000 in
set_option maxHeartbeats 2000000 in
theorem two_any (hr : ReadSaid) (Q : Option Addr) (pn pc : Nat) (a b : List Nat) (p1 p2 : Nat) (w : World) (hs : Sees w Q pn (layL a ++ layL b)) (sa : Small a) (sb : Small b) (hc : pn ≤ pc)
    (g1 : w.heap[p1]? = some (.cells #[.slice none 0 0] 24 (0, 0))) (g2 : w.heap[p2]? = some (.cells #[.slice none 0 0] 24 (0, 0))) (h12 : p1 ≠ p2) :
    Calls Try.prog 23 #[.slice Q pn pc, .pointer (some ⟨p1, 0, none⟩), .pointer (some ⟨p2, 0, none⟩)] w fun e w' => ∃ R1 k1 c1 R2 k2 c2, e = .returned (.int .i64 0) ∧
      w'.heap[p1]? = some (.cells #[.slice R1 k1 c1] 24 (0, 0)) ∧ Took2 w' R1 k1 c1 (trimL a) ∧ w'.heap[p2]? = some (.cells #[.slice R2 k2 c2] 24 (0, 0)) ∧ Took2 w' R2 k2 c2 (trimL b) ∧ Beside [p1, p2] w w' := by
  have hl1 := layL_len sa
  have hl2 := layL_len sb
  have hpn := hs.1
  rw [List.length_append] at hpn
  have lt1 := (Array.getElem?_eq_some_iff.1 g1).1
  have lt2 := (Array.getElem?_eq_some_iff.1 g2).1
  have hb0 : Below w.heap.size w (w.alloc (.cells #[.int .i64 0] 37)) := (Below.refl _ _).alloc (Nat.le_refl _) _
  have hm0 := heap_alloc_new w (.cells #[.int .i64 0] 37)
  have hz0 : (w.alloc (.cells #[.int .i64 0] 37)).heap.size = w.heap.size + 1 := by simp
  have hs0 := hs.below hb0
  have g10 := (hb0.block p1 lt1).trans g1
  have g20 := (hb0.block p2 lt2).trans g2
  go_enter_defers Try.func23, Try.ntmps23
  go_wp2_with fail
  generalize w.alloc (.cells #[.int .i64 0] 37) = W0 at hb0 hm0 hz0 hs0 g10 g20 ⊢
  refine (newTape_on Q pn pc _ W0 hs0 hc (by omega)).mono ?_
  rintro e w1 ⟨rfl, ht1, hb1⟩
  rw [hz0] at ht1 ⊢
  have bel1 := hb0.trans (hb1.mono (by omega))
  have m1 := (hb1.block w.heap.size (by omega)).trans hm0
  have g11 := (hb1.block p1 (by omega)).trans g10
  have g21 := (hb1.block p2 (by omega)).trans g20
  have hs1 := hs0.below hb1
  have hlt1 := ht1.lt
  have be1 : Beside [p1, p2] w w1 := .of_below bel1 _
  clear hb0 hm0 hz0 hs0 g10 g20 hb1 g1 g2 hs bel1
  have rd1 := hr Q pn _ (w.heap.size + 1) _ w1 ht1 hs1 (by rw [List.length_append]; omega)
  rw [readG_of sa] at rd1
  have RD1 := Lib.hid rd1
  clear rd1
  go_wp2_with fail
  refine RD1.out.mono ?_
  rintro e w2 ⟨R1, k1, c1, rfl, sv1, hk1, hc1, ht2, be12⟩
  have hz1 : w.heap.size + 1 < w1.heap.size := hlt1
  have o1 : Out [w.heap.size + 1] Q pn := by obtain ⟨A', n', c', hb', -⟩ := ht1; exact sees_off hb' hs1
  have m2 := (be12.block w.heap.size (by omega) (by simp)).trans m1
  have g12' := (be12.block p1 (by omega) (by simp; omega)).trans g11
  have g22 := (be12.block p2 (by omega) (by simp; omega)).trans g21
  have sQ2 := hs1.beside be12 o1
  have be2 := be1.trans be12 fun x hx => .inr (by simp at hx; omega)
  have u1 := seesU_off g12' sv1
  have hlt2 := ht2.lt
  clear m1 g11 g21 hs1 be1 be12 ht1 RD1 o1
  have y1 : w2.cell? ⟨p1, 0, none⟩ = some (.slice none 0 0) := by rw [cell_of_row w2 p1 _ _ _ _ g12']; rfl
  have y2 := frozen_row0 (i := 0) g12'
  go_wp2_with fail
  have hb3 : Beside [p1] w2 (w2.setCell ⟨p1, 0, none⟩ (.slice R1 k1 c1)) := (Beside.refl _ _).setCell (by simp) _
  have g13 : (w2.setCell ⟨p1, 0, none⟩ (.slice R1 k1 c1)).heap[p1]? = some (.cells #[.slice R1 k1 c1] 24 (0, 0)) := (heapSame g12').trans rfl
  have m3 := (heapOther (v := .slice R1 k1 c1) (i := 0) (show w.heap.size ≠ p1 by omega)).trans m2
  have g23 := (heapOther (v := .slice R1 k1 c1) (i := 0) (show p2 ≠ p1 by omega)).trans g22
  have ht3 := ht2.keep (heapOther (v := .slice R1 k1 c1) (i := 0) (show w.heap.size + 1 ≠ p1 by omega))
  have sv3 := sv1.beside hb3 u1
  have sQ3 := sQ2.beside hb3 (sees_off g12' sQ2)
  have be3 := be2.trans hb3 fun x hx => .inl (by simp at hx; simp [hx])
  have hz3 : (w2.setCell ⟨p1, 0, none⟩ (.slice R1 k1 c1)).heap.size = w2.heap.size := by simp
  generalize w2.setCell ⟨p1, 0, none⟩ (.slice R1 k1 c1) = w3 at g13 m3 g23 ht3 sv3 sQ3 be3 hz3 ⊢
  clear hb3 m2 g12' g22 sQ2 be2 u1 sv1 y1 y2 ht2
  have rd2 := hr Q pn _ (w.heap.size + 1) (layL b) w3 ht3 sQ3 (by omega)
  have hrb := readG_of sb []
  rw [List.append_nil] at hrb
  rw [hrb] at rd2
  have RD2 := Lib.hid rd2
  clear rd2 hrb
  refine RD2.out.mono ?_
  rintro e w4 ⟨R2, k2, c2, rfl, sv2, hk2, hc2, ht4, be34⟩
  have o1 : Out [w.heap.size + 1] Q pn := by obtain ⟨A', n', c', hb', -⟩ := ht3; exact sees_off hb' sQ3
  have o2 : Out [w.heap.size + 1] R1 k1 := by obtain ⟨A', n', c', hb', -⟩ := ht3; exact seesU_off hb' sv3
  have m4 := (be34.block w.heap.size (by omega) (by simp)).trans m3
  have g14 := (be34.block p1 (by omega) (by simp; omega)).trans g13
  have g24 := (be34.block p2 (by omega) (by simp; omega)).trans g23
  have sQ4 := sQ3.beside be34 o1
  have sv4 := sv3.beside be34 o2
  have be4 := be3.trans be34 fun x hx => .inr (by simp at hx; omega)
  have hz4 : w3.heap.size ≤ w4.heap.size := be34.size
  clear m3 g13 g23 sQ3 sv3 be3 be34 ht3 o1 o2 RD2
  have y1 : w4.cell? ⟨p2, 0, none⟩ = some (.slice none 0 0) := by rw [cell_of_row w4 p2 _ _ _ _ g24]; rfl
  have y2 := frozen_row0 (i := 0) g24
  go_wp2_with fail
  have hb5 : Beside [p2] w4 (w4.setCell ⟨p2, 0, none⟩ (.slice R2 k2 c2)) := (Beside.refl _ _).setCell (by simp) _
  have g25 : (w4.setCell ⟨p2, 0, none⟩ (.slice R2 k2 c2)).heap[p2]? = some (.cells #[.slice R2 k2 c2] 24 (0, 0)) := (heapSame g24).trans rfl
  have m5 := (heapOther (v := .slice R2 k2 c2) (i := 0) (show w.heap.size ≠ p2 by omega)).trans m4
  have g15 := (heapOther (v := .slice R2 k2 c2) (i := 0) (show p1 ≠ p2 by omega)).trans g14
  have ht5 := ht4.keep (heapOther (v := .slice R2 k2 c2) (i := 0) (show w.heap.size + 1 ≠ p2 by omega))
  have sv5 := sv4.beside hb5 (seesU_off g24 sv4)
  have sw5 := sv2.beside hb5 (seesU_off g24 sv2)
  have sQ5 := sQ4.beside hb5 (sees_off g24 sQ4)
  have be5 := be4.trans hb5 fun x hx => .inl (by simp at hx; simp [hx])
  generalize w4.setCell ⟨p2, 0, none⟩ (.slice R2 k2 c2) = w5 at g25 m5 g15 ht5 sv5 sw5 sQ5 be5 ⊢
  clear hb5 m4 g14 g24 sQ4 sv4 be4 sv2 ht4 y1 y2
  refine (done_any (w.heap.size + 1) w5 (ht5.at_ sQ5)).mono ?_
  rintro e w5 ⟨rfl, rfl⟩
  have y1 : w5.cell? ⟨w.heap.size, 0, none⟩ = some (.int .i64 0) := by rw [cell_of_row w5 w.heap.size _ _ _ _ m5]; rfl
  have y2 := frozen_row0 (i := 0) m5
  have FIN : Hid (∃ R1' k1' c1' R2' k2' c2', (Ending.returned (.int .i64 0)) = .returned (.int .i64 0) ∧ (w5.setCell ⟨w.heap.size, 0, none⟩ (.int .i64 0)).heap[p1]? = some (.cells #[.slice R1' k1' c1'] 24 (0, 0)) ∧ Took2 (w5.setCell ⟨w.heap.size, 0, none⟩ (.int .i64 0)) R1' k1' c1' (trimL a) ∧ (w5.setCell ⟨w.heap.size, 0, none⟩ (.int .i64 0)).heap[p2]? = some (.cells #[.slice R2' k2' c2'] 24 (0, 0)) ∧ Took2 (w5.setCell ⟨w.heap.size, 0, none⟩ (.int .i64 0)) R2' k2' c2' (trimL b) ∧ Beside [p1, p2] w (w5.setCell ⟨w.heap.size, 0, none⟩ (.int .i64 0))) := Lib.hid (by
    have hb6 : Beside [w.heap.size] w5 (w5.setCell ⟨w.heap.size, 0, none⟩ (.int .i64 0)) := (Beside.refl _ _).setCell (by simp) _
    have q1 : Out [w.heap.size] R1 k1 := seesU_cell m5 sv5
    have q2 : Out [w.heap.size] R2 k2 := seesU_cell m5 sw5
    exact ⟨R1, k1, c1, R2, k2, c2, rfl, (heapOther (show p1 ≠ w.heap.size by omega)).trans g15, ⟨sv5.beside hb6 q1, small_fits (small_trim sa), hk1, hc1, by have := sv5.1; have := (small_trim sa).1; omega⟩,
      (heapOther (show p2 ≠ w.heap.size by omega)).trans g25, ⟨sw5.beside hb6 q2, small_fits (small_trim sb), hk2, hc2, by have := sw5.1; have := (small_trim sb).1; omega⟩, be5.trans hb6 fun x hx => .inr (by simp at hx; omega)⟩)
  have e0 : (w5.setCell ⟨w.heap.size, 0, none⟩ (.int .i64 0)).cell? ⟨w.heap.size, 0, none⟩ = some (.int .i64 0) := by rw [cell_of_row _ w.heap.size _ _ _ _ ((heapSame (i := 0) (v := .int .i64 0) m5).trans rfl)]; rfl
  clear g25 g15 ht5 sv5 sw5 sQ5 be5 m5
  go_wp2
  refine leaves_cons (f := 28) (args := #[.pointer (some ⟨w.heap.size, 0, none⟩)]) (by simp) (by simp [go_sem]) ?_
  refine (caught_idle _ _).mono ?_
  rintro e u' w'' ⟨rfl, rfl, rfl⟩
  simp [Leaves, settle, results, Try.results23, go_sem, e0]
  obtain ⟨R1', k1', c1', R2', k2', c2', -, f1, f2, f3, f4, f5⟩ := FIN.out
  exact ⟨R1', k1', c1', f1, f2, R2', k2', c2', f3, f4, f5⟩

set_option maxRecDepth 100000 in
set_option maxHeartbeats 4000000 in
theorem reads_law (hj : JoinSaid) (hs : SameSaid) (hl : LackSaid) (hby : BytesSaid) (hlay : LaySaid) (hr : ReadSaid) (A B : Option Addr) (n c m d : Nat) (a b : List Nat) (w : World)
    (ha : SeesU w A n a) (hb : SeesU w B m b) (fa : Fits a) (fb : Fits b) (hc : n ≤ c) (hd : m ≤ d) (hc2 : c ≤ 9223372036854775807) (hd2 : d ≤ 9223372036854775807) :
    Calls Try.prog 7 #[.slice A n c, .slice B m d] w fun e w' => e = .returned (.bool true) ∧ Below w.heap.size w w' := by
  go_enter Try.func7, Try.ntmps7
  go_wp2_with fail
  refine (awake_any hj hs hl _).mono ?_
  rintro e w1 ⟨rfl, b1⟩
  have ha1 := ha.below b1
  have hb1 := hb.below b1
  clear ha hb
  go_wp2_with fail
  refine (small_any A n c a w1 ha1 (by omega)).mono ?_
  rintro e w2 ⟨bs, rfl, hyes, hno, hw2⟩
  subst hw2
  cases bs with
  | false =>
    clear hyes hno
    go_wp2_with fail
    refine (awake_any hj hs hl _).mono ?_
    rintro e w3 ⟨rfl, b3⟩
    go_wp2
    go_ret
    exact ⟨rfl, b1.trans (b3.mono b1.size)⟩
  | true =>
    have sa := hyes rfl
    clear hyes hno
    go_wp2_with fail
    refine (small_any B m d b w2 hb1 (by omega)).mono ?_
    rintro e w3 ⟨bs, rfl, hyes, hno, hw3⟩
    subst hw3
    cases bs with
    | false =>
      clear hyes hno
      go_wp2_with fail
      refine (awake_any hj hs hl _).mono ?_
      rintro e w3 ⟨rfl, b3⟩
      go_wp2
      go_ret
      exact ⟨rfl, b1.trans (b3.mono b1.size)⟩
    | true =>
      have sb := hyes rfl
      clear hyes hno
      have ta : Took2 w3 A n c a := ⟨ha1, fa, hc, hc2, by have := ha1.1; have := sa.1; omega⟩
      have tb : Took2 w3 B m d b := ⟨hb1, fb, hd, hd2, by have := hb1.1; have := sb.1; omega⟩
      clear ha1 hb1 fa fb
      go_wp2_with fail
      have bal : Below w3.heap.size w3 ((w3.alloc (.cells #[.slice none 0 0] 24)).alloc (.cells #[.slice none 0 0] 24)) := ((Below.refl _ _).alloc (Nat.le_refl _) _).alloc (by simp) _
      have g1 : ((w3.alloc (.cells #[.slice none 0 0] 24)).alloc (.cells #[.slice none 0 0] 24)).heap[w3.heap.size]? = some (.cells #[.slice none 0 0] 24 (0, 0)) := by
        rw [Below.heap_alloc _ _ _ (by simp)]
        exact heap_alloc_new w3 _
      have g2 : ((w3.alloc (.cells #[.slice none 0 0] 24)).alloc (.cells #[.slice none 0 0] 24)).heap[w3.heap.size + 1]? = some (.cells #[.slice none 0 0] 24 (0, 0)) := by
        have := heap_alloc_new (w3.alloc (.cells #[.slice none 0 0] 24)) (.cells #[.slice none 0 0] 24)
        simpa using this
      generalize hW4 : (w3.alloc (.cells #[.slice none 0 0] 24)).alloc (.cells #[.slice none 0 0] 24) = w4 at bal g1 g2 ⊢
      clear hW4
      have bel4 := b1.trans (bal.mono b1.size)
      have ta4 := ta.below bal
      have tb4 := tb.below bal
      have hz3 := b1.size
      clear ta tb bal b1
      generalize w3.heap.size = p1 at g1 g2 hz3 ⊢
      have lt2 := (Array.getElem?_eq_some_iff.1 g2).1
      refine (hby A n c a w4 ta4 sa).mono ?_
      rintro e w5 ⟨B5, c5, rfl, hs5, hcB, hcB2, hb5⟩
      have bel5 := bel4.trans (hb5.mono bel4.size)
      have ta5 := ta4.below hb5
      have tb5 := tb4.below hb5
      have g1 := (hb5.block p1 (by omega)).trans g1
      have g2 := (hb5.block (p1 + 1) lt2).trans g2
      clear ta4 tb4 hb5 bel4
      have lt2 := (Array.getElem?_eq_some_iff.1 g2).1
      have hla := layL_len sa
      have LAY := Lib.hid (hlay B B5 m d _ c5 b (layL a) w5 tb5 sb hs5 hcB hcB2 (by omega))
      clear hla
      go_wp2_with fail
      refine LAY.out.mono ?_
      rintro e w6 ⟨R6, c6, rfl, hs6, hc6, hm6, hb6⟩
      obtain ⟨PN, hPN⟩ : ∃ PN, PN = (layL a ++ layL b).length := ⟨_, rfl⟩
      rw [← hPN] at hs6 hc6 ⊢
      clear hPN
      have bel6 := bel5.trans (hb6.mono bel5.size)
      have ta6 := ta5.below hb6
      have tb6 := tb5.below hb6
      have g1 := (hb6.block p1 (by omega)).trans g1
      have g2 := (hb6.block (p1 + 1) lt2).trans g2
      have TWO := Lib.hid (two_any hr R6 _ c6 a b p1 (p1 + 1) w6 hs6 sa sb hc6 g1 g2 (by omega))
      clear ta5 tb5 hb6 bel5 LAY hs5
      go_wp2_with fail
      refine TWO.out.mono ?_
      rintro e w7 ⟨R1, k1, c1, R2, k2, c2, rfl, f1, t1, f2, t2, be7⟩
      have bel7 := Below.beside bel6 be7 bel6.size (by simp; omega)
      have ta7 := ta6.beside be7 (Out.two (seesU_off g1 ta6.1) (seesU_off g2 ta6.1))
      have tb7 := tb6.beside be7 (Out.two (seesU_off g1 tb6.1) (seesU_off g2 tb6.1))
      clear ta6 tb6 be7 bel6 g1 g2 TWO hs6
      have y1 : w7.cell? ⟨p1, 0, none⟩ = some (.slice R1 k1 c1) := by rw [cell_of_row w7 p1 _ _ _ _ f1]; rfl
      have lt7 := (Array.getElem?_eq_some_iff.1 f2).1
      go_wp2_with fail
      refine (hs _ _ _ _ _ _ _ _ _ t1 ta7).mono ?_
      rw [same_yes fun i => trimL_at a i]
      rintro e w8 ⟨rfl, hb8⟩
      have bel8 := bel7.trans (hb8.mono bel7.size)
      have f28 := (hb8.block (p1 + 1) lt7).trans f2
      have t28 := t2.below hb8
      have tb8 := tb7.below hb8
      clear t1 ta7 y1 f1 f2 t2 tb7 hb8 bel7
      have y2 : w8.cell? ⟨p1 + 1, 0, none⟩ = some (.slice R2 k2 c2) := by rw [cell_of_row w8 (p1 + 1) _ _ _ _ f28]; rfl
      go_wp2_with fail
      refine (hs _ _ _ _ _ _ _ _ _ t28 tb8).mono ?_
      rw [same_yes fun i => trimL_at b i]
      rintro e w9 ⟨rfl, hb9⟩
      have bel9 := bel8.trans (hb9.mono bel8.size)
      clear t28 tb8 y2 f28 hb9 bel8
      go_wp2
      go_ret
      exact ⟨rfl, bel9⟩
end Go.Proofs.Ytpfmgjfkjjnadaa.Vec
