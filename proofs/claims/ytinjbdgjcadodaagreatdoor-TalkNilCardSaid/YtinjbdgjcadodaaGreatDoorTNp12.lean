/- event.take: what it reads of any bytes; its contract, both ways. -/
import Derived.Deep.Cut
import Derived.Test.YtinjbdgjcadodaaGreatDoorTNp05
import Derived.Test.YtinjbdgjcadodaaGreatDoorTNp06
import Derived.Test.YtinjbdgjcadodaaGreatDoorTNp08
namespace Go.Proofs.YtinjbdgjcadodaaGreatDoor.Evt
open Go Go.RowKit Go.Proofs.YtinjbdgjcadodaaGreatDoor.Words Go.Proofs.YtinjbdgjcadodaaGreatDoor.Enc Go.Proofs.YtinjbdgjcadodaaGreatDoor.Q Go.Proofs.YtinjbdgjcadodaaGreatDoor.Tape
set_option linter.unusedVariables false

/-- The fields of a kind. -/
def dataG (wr sq tm : Nat) (kd : UInt8) (l : List UInt8) : Got (Ev × Bool) :=
  if kd.toNat = 1 then (textG 64 l).bind fun k l5 => (textG 1048576 l5).bind fun x l6 => .ok (⟨wr, sq, tm, kd.toNat, ⟨k.toArray⟩, x, 0, 0⟩, true) l6
  else if kd.toNat = 2 ∨ kd.toNat = 3 then (textG 64 l).bind fun k l5 => (fixedG l5).bind fun n l6 => .ok (⟨wr, sq, tm, kd.toNat, ⟨k.toArray⟩, [], if qb n = n then n else 0, 0⟩, decide (qb n = n)) l6
  else if kd.toNat = 4 then (textG 64 l).bind fun k l5 => .ok (⟨wr, sq, tm, kd.toNat, ⟨k.toArray⟩, [], 0, 0⟩, true) l5
  else if kd.toNat = 5 then (numG 63 l).bind fun n l5 => .ok (⟨wr, sq, tm, kd.toNat, ⟨#[]⟩, [], 0, n⟩, true) l5
  else .ok (⟨wr, sq, tm, kd.toNat, ⟨#[]⟩, [], 0, 0⟩, true) l
/-- An event, and whether its quantity is one. -/
def takeG (l : List UInt8) : Got (Ev × Bool) :=
  (numG 63 l).bind fun wr l1 => (numG 18446744073709551615 l1).bind fun sq l2 => (numG 18446744073709551615 l2).bind fun tm l3 => (byteG l3).bind fun kd l4 => dataG wr sq tm kd l4

theorem numG_len {most N : Nat} {l rest : List UInt8} (h : numG most l = .ok N rest) : rest.length ≤ l.length := by
  obtain ⟨-, -, -, rfl⟩ := numG_ok h
  rw [List.length_drop]; omega
theorem textG_len {most : Nat} {T l rest : List UInt8} (h : textG most l = .ok T rest) : rest.length ≤ l.length := by
  obtain ⟨-, -, rfl⟩ := textG_ok h
  rw [List.length_drop]; omega

section
variable {PA : Option Addr} {PN : Nat} {L : List UInt8}
set_option maxRecDepth 100000 in
theorem takeNode_ok (t N : Nat) (l rest : List UInt8) (w : World) (h : TapeOn PA PN L w t l) (hP : Sees w PA PN L) (hl : l.length ≤ 1000000000) (hg : numG 63 l = .ok N rest) :
    Calls Tryz.prog 346 #[.pointer (some ⟨t, 0, none⟩)] w fun e w' => e = .returned (.int .i64 (N : Int)) ∧ TapeOn PA PN L w' t rest ∧ Beside [t] w w' := by
  have hN : N ≤ 63 := by obtain ⟨-, h1, h2, -⟩ := numG_ok hg; omega
  have hw : IntKind.i64.wrap (N : Int) = (N : Int) := IntWalk.i64_in _ (by omega)
  go_enter Tryz.func346, Tryz.ntmps346
  go_wp2_with fail
  refine (num_ok t 63 N l rest w h hP hl hg).mono ?_
  rintro e w1 ⟨rfl, h1, h2⟩
  go_wp2
  go_ret
  exact ⟨rfl, h1, h2⟩
set_option maxRecDepth 100000 in
theorem takeNode_bad (t E : Nat) (l : List UInt8) (w : World) (h : TapeAt w t l) (hl : l.length ≤ 1000000000) (hg : numG 63 l = .bad E) :
    Calls Tryz.prog 346 #[.pointer (some ⟨t, 0, none⟩)] w fun e w' => e = fault E ∧ Beside [t] w w' := by
  go_enter Tryz.func346, Tryz.ntmps346
  go_wp2_with fail
  refine (num_bad t 63 E l w h hl hg).mono ?_
  rintro e w1 ⟨rfl, h2⟩
  unfold fault
  go_wp2
  exact ⟨rfl, rfl, h2⟩

/-- The slice lies in blocks from B on. -/
def Fresh (B : Nat) (A : Option Addr) (n : Nat) : Prop := 0 < n → ∀ a, A = some a → B ≤ a.block
theorem Fresh.none (B : Nat) : Fresh B none 0 := fun h => absurd h (by omega)
theorem Fresh.out {B : Nat} {A : Option Addr} {n : Nat} (h : Fresh B A n) {S : List Nat} (hS : ∀ x ∈ S, x < B) : Out S A n := fun hn a ha hm => by have := h hn a ha; have := hS _ hm; omega
theorem Fresh.of_own {B base : Nat} {w : World} {e : TypeId} {A : Option Addr} {n c : Nat} {xs : List Value} (h : w.ownsRow base e 1 (.slice A n c) n xs) (hB : B ≤ base) : Fresh B A n := fun hn a ha => by
  obtain ⟨g, hg, hb⟩ := Own.at_ h hn
  rw [hg] at ha
  injection ha with ha
  subst ha
  exact Nat.le_trans hB hb
theorem Fresh.of_ownC {B base : Nat} {w : World} {e : TypeId} {A : Option Addr} {n c : Nat} {xs : List Value} (h : OwnC w base e A n c xs) (hB : B ≤ base) : Fresh B A n := by
  obtain ⟨_, C, _, h⟩ := h
  exact Fresh.of_own h hB
/-- What take comes to. -/
def TakeGives (PA : Option Addr) (PN : Nat) (L : List UInt8) (t : Nat) (g : Got (Ev × Bool)) (w : World) (e : Ending) (w' : World) : Prop :=
  match g with
  | .bad E => e = fault E ∧ Beside [t] w w'
  | .ok (ev, b) rest => ∃ A n c, e = .returned (.tuple #[ev.val A n c, .bool b]) ∧ Sees w' A n ev.text ∧ n ≤ c ∧ c ≤ 9223372036854775807 ∧ Fresh w.heap.size A n ∧ TapeOn PA PN L w' t rest ∧ Beside [t] w w'
theorem give_bad {t E : Nat} {g : Got (Ev × Bool)} {w w' : World} {X : Int} (h : g = .bad E) (hX : X = (E : Int)) (hb : Beside [t] w w') : TakeGives PA PN L t g w (.panicked [{ v := .iface 222 (.agg #[.int .i64 X]), recovered := false }]) w' := by
  subst h
  subst hX
  exact ⟨rfl, hb⟩
theorem give_ok {t : Nat} {g : Got (Ev × Bool)} {ev : Ev} {b : Bool} {rest : List UInt8} {w w' : World} {A : Option Addr} {n c : Nat} {v : Value} (h : g = .ok (ev, b) rest) (hv : v = .tuple #[ev.val A n c, .bool b]) (hs : Sees w' A n ev.text) (h1 : n ≤ c) (h2 : c ≤ 9223372036854775807) (hfr : Fresh w.heap.size A n)
    (ht : TapeOn PA PN L w' t rest) (hb : Beside [t] w w') : TakeGives PA PN L t g w (.returned v) w' := by
  subst h
  subst hv
  exact ⟨A, n, c, rfl, hs, h1, h2, hfr, ht, hb⟩

/-- How the memory stands while an event is read: the result's box, the event's, the fields'; the tape. -/
structure St (PA : Option Addr) (PN : Nat) (L : List UInt8) (w : World) (t m p f : Nat) (row F : Array Value) (l : List UInt8) (W : World) : Prop where
  gm : W.heap[m]? = some (.cells #[.int .i64 0, .int .u64 0, .int .u64 0, .int .u8 0, .string ⟨#[]⟩, .slice none 0 0, .float .f64 0, .int .i64 0] 38 (0, 0))
  gp : W.heap[p]? = some (.cells row 38 (0, 0))
  gf : W.heap[f]? = some (.cells F 137 (0, 0))
  gb : Beside [t] w W
  gtape : TapeOn PA PN L W t l
  gsrc : Sees w PA PN L
  goff : Out [t] PA PN
  glt : t < w.heap.size
  ghm : w.heap.size ≤ m
  gmp : m < p
  gpf : p < f
theorem St.sees {w : World} {t m p f : Nat} {row F : Array Value} {l : List UInt8} {W : World} (h : St PA PN L w t m p f row F l W) : Sees W PA PN L := h.gsrc.beside h.gb h.goff
theorem St.read {w : World} {t m p f : Nat} {row F : Array Value} {l l' : List UInt8} {W W' : World} (h : St PA PN L w t m p f row F l W) (hb : Beside [t] W W') (ht : TapeOn PA PN L W' t l') : St PA PN L w t m p f row F l' W' := by
  have h1 := h.glt; have h2 := h.ghm; have h3 := h.gmp; have h4 := h.gpf
  exact { gm := (hb.block m (Array.getElem?_eq_some_iff.1 h.gm).1 (by simp; omega)).trans h.gm, gp := (hb.block p (Array.getElem?_eq_some_iff.1 h.gp).1 (by simp; omega)).trans h.gp,
          gf := (hb.block f (Array.getElem?_eq_some_iff.1 h.gf).1 (by simp; omega)).trans h.gf, gb := h.gb.trans hb fun x hx => .inl hx, gtape := ht, gsrc := h.gsrc, goff := h.goff, glt := h1, ghm := h2, gmp := h3, gpf := h4 }
theorem St.put {w : World} {t m p f : Nat} {row F : Array Value} {l : List UInt8} {W : World} (h : St PA PN L w t m p f row F l W) (i : Nat) (v : Value) : St PA PN L w t m p f (row.setIfInBounds i v) F l (W.setCell ⟨p, i, none⟩ v) := by
  have h1 := h.glt; have h2 := h.ghm; have h3 := h.gmp; have h4 := h.gpf
  exact { gm := (heapOther (by omega)).trans h.gm, gp := heapSame h.gp, gf := (heapOther (by omega)).trans h.gf, gb := h.gb.setNew (p := ⟨p, i, none⟩) (by show w.heap.size ≤ p; omega) v,
          gtape := h.gtape.keep (heapOther (by omega)), gsrc := h.gsrc, goff := h.goff, glt := h1, ghm := h2, gmp := h3, gpf := h4 }
/-- The result's box is written: that is the end. -/
theorem St.done {w : World} {t m p f : Nat} {row F : Array Value} {l : List UInt8} {W W' : World} (h : St PA PN L w t m p f row F l W) (hb : Beside [m] W W') : TapeOn PA PN L W' t l ∧ Beside [t] w W' := by
  have h1 := h.glt; have h2 := h.ghm
  exact ⟨h.gtape.keep (hb.block t h.gtape.lt (by simp; omega)), h.gb.trans hb fun x hx => .inr (by simp at hx; omega)⟩

set_option maxRecDepth 100000 in
set_option maxHeartbeats 2000000 in
theorem take_any (t : Nat) (l : List UInt8) (w : World) (h : TapeOn PA PN L w t l) (hP : Sees w PA PN L) (hl : l.length ≤ 900000000) :
    Calls Tryz.prog 319 #[.pointer (some ⟨t, 0, none⟩)] w (TakeGives PA PN L t (takeG l) w) := by
  have hsf := store_float Tryz.prog
  obtain ⟨G, hG⟩ : ∃ G, G = takeG l := ⟨_, rfl⟩
  rw [← hG]
  have HG := Lib.hid hG
  clear hG
  have htl := h.lt
  have hout : Out [t] PA PN := by
    obtain ⟨A, n, c, hb, -⟩ := h
    exact sees_off hb hP
  have OUT := Lib.hid hout
  have HP := Lib.hid hP
  go_enter Tryz.func319, Tryz.ntmps319
  go_wp2_with fail
  have hal := (Below.refl w.heap.size w).alloc (Nat.le_refl _) (.cells #[.int .i64 0, .int .u64 0, .int .u64 0, .int .u8 0, .string ⟨#[]⟩, .slice none 0 0, .float .f64 0, .int .i64 0] 38)
  have hm0 := heap_alloc_new w (.cells #[.int .i64 0, .int .u64 0, .int .u64 0, .int .u8 0, .string ⟨#[]⟩, .slice none 0 0, .float .f64 0, .int .i64 0] 38)
  have h0 := h.keep (hal.block t htl)
  generalize hW0 : w.alloc (.cells #[.int .i64 0, .int .u64 0, .int .u64 0, .int .u8 0, .string ⟨#[]⟩, .slice none 0 0, .float .f64 0, .int .i64 0] 38) = W0 at hal hm0 h0 ⊢
  clear hW0 h
  have be0 : Beside [t] w W0 := Beside.of_below hal _
  have hz0 : w.heap.size < W0.heap.size := (Array.getElem?_eq_some_iff.1 hm0).1
  have hmt : w.heap.size ≠ t := by omega
  have SEE : Hid (∀ W, Beside [t] w W → Sees W PA PN L) := Lib.hid fun W hb => hP.beside hb hout
  clear hal hP hout
  cases g1 : numG 63 l with
  | bad E =>
    refine (takeNode_bad t E l W0 (h0.at_ (SEE.out _ be0)) (by omega) g1).mono ?_
    rintro e wb ⟨rfl, hbb⟩
    have HB := Lib.hid (be0.trans hbb fun x hx => .inl hx)
    unfold fault
    go_wp2
    have hbad : G = .bad E := by rw [HG.out]; simp only [takeG, g1, Got.bind]
    exact ⟨rfl, give_bad hbad rfl HB.out⟩
  | ok wr l1 =>
  have hl1 := Nat.le_trans (numG_len g1) hl
  refine (takeNode_ok t wr l l1 W0 h0 (SEE.out _ be0) (by omega) g1).mono ?_
  rintro e w1 ⟨rfl, h1, hb1⟩
  have be1 := be0.trans hb1 fun x hx => .inl hx
  have hm1 := (hb1.block w.heap.size hz0 (by simpa using hmt)).trans hm0
  clear h0 hb1 be0 hm0
  have G1 := Lib.hid g1
  clear g1
  go_wp2_with fail
  cases g2 : numG 18446744073709551615 l1 with
  | bad E =>
    refine (num_bad t 18446744073709551615 E l1 w1 (h1.at_ (SEE.out _ be1)) (by omega) g2).mono ?_
    rintro e wb ⟨rfl, hbb⟩
    have HB := Lib.hid (be1.trans hbb fun x hx => .inl hx)
    unfold fault
    go_wp2
    have hbad : G = .bad E := by rw [HG.out]; simp only [takeG, G1.out, g2, Got.bind]
    exact ⟨rfl, give_bad hbad rfl HB.out⟩
  | ok sq l2 =>
  have hl2 := Nat.le_trans (numG_len g2) hl1
  have hz1 : w.heap.size < w1.heap.size := (Array.getElem?_eq_some_iff.1 hm1).1
  refine (num_ok t 18446744073709551615 sq l1 l2 w1 h1 (SEE.out _ be1) (by omega) g2).mono ?_
  rintro e w2 ⟨rfl, h2, hb2⟩
  have be2 := be1.trans hb2 fun x hx => .inl hx
  have hm2 := (hb2.block w.heap.size hz1 (by simpa using hmt)).trans hm1
  clear h1 hb2 be1 hm1
  have G2 := Lib.hid g2
  clear g2
  go_wp2_with fail
  cases g3 : numG 18446744073709551615 l2 with
  | bad E =>
    refine (num_bad t 18446744073709551615 E l2 w2 (h2.at_ (SEE.out _ be2)) (by omega) g3).mono ?_
    rintro e wb ⟨rfl, hbb⟩
    have HB := Lib.hid (be2.trans hbb fun x hx => .inl hx)
    unfold fault
    go_wp2
    have hbad : G = .bad E := by rw [HG.out]; simp only [takeG, G1.out, G2.out, g3, Got.bind]
    exact ⟨rfl, give_bad hbad rfl HB.out⟩
  | ok tm l3 =>
  have hl3 := Nat.le_trans (numG_len g3) hl2
  have hz2 : w.heap.size < w2.heap.size := (Array.getElem?_eq_some_iff.1 hm2).1
  refine (num_ok t 18446744073709551615 tm l2 l3 w2 h2 (SEE.out _ be2) (by omega) g3).mono ?_
  rintro e w3 ⟨rfl, h3, hb3⟩
  have be3 := be2.trans hb3 fun x hx => .inl hx
  have hm3 := (hb3.block w.heap.size hz2 (by simpa using hmt)).trans hm2
  clear h2 hb3 be2 hm2
  have G3 := Lib.hid g3
  clear g3
  go_wp2_with fail
  cases g4 : byteG l3 with
  | bad E =>
    have hl30 : l3 = [] ∧ E = 5 := by
      cases l3 with
      | nil => injection g4 with g4; exact ⟨rfl, g4.symm⟩
      | cons b r => cases g4
    obtain ⟨rfl, rfl⟩ := hl30
    refine (byte_bad t w3 (h3.at_ (SEE.out _ be3))).mono ?_
    rintro e wb ⟨rfl, rfl⟩
    have HB := Lib.hid be3
    unfold fault
    go_wp2
    have hbad : G = .bad 5 := by rw [HG.out]; simp only [takeG, G1.out, G2.out, G3.out, g4, Got.bind]
    exact ⟨rfl, give_bad hbad rfl HB.out⟩
  | ok kd l4 =>
  have hl34 : l3 = kd :: l4 := by
    cases l3 with
    | nil => cases g4
    | cons b r => injection g4 with g5 g6; subst g5; subst g6; rfl
  have hz3 : w.heap.size < w3.heap.size := (Array.getElem?_eq_some_iff.1 hm3).1
  have hl4 : l4.length ≤ 900000000 := by rw [hl34] at hl3; simp at hl3; omega
  rw [hl34] at h3
  refine (byte_ok t kd l4 w3 h3 (SEE.out _ be3) (by omega)).mono ?_
  rintro e w4 ⟨rfl, h4, hb4⟩
  have be4 := be3.trans hb4 fun x hx => .inl hx
  have hm4 := (hb4.block w.heap.size hz3 (by simpa using hmt)).trans hm3
  have G4 := Lib.hid g4
  clear h3 hb4 be3 hm3 g4 hl34 hz0
  have hG4 : G = dataG wr sq tm kd l4 := by rw [HG.out]; simp only [takeG, G1.out, G2.out, G3.out, G4.out, Got.bind]
  have GD := Lib.hid hG4
  have hz4 : w.heap.size < w4.heap.size := (Array.getElem?_eq_some_iff.1 hm4).1
  clear hG4 HG G1 G2 G3 G4 hz1 hz2 hz3 hl hl1 hl2 hl3
  obtain ⟨kn, hkn⟩ : ∃ kn, kd.toNat = kn := ⟨_, rfl⟩
  rw [hkn]
  go_wp2_with fail
  refine (fieldsOf_any _ _).mono ?_
  rintro e w5 ⟨rfl, hb5⟩
  have st : ∀ F, St PA PN L w t w.heap.size w4.heap.size w5.heap.size #[.int .i64 (wr : Int), .int .u64 (sq : Int), .int .u64 (tm : Int), .int .u8 (kn : Int), .string ⟨#[]⟩, .slice none 0 0, .float .f64 0, .int .i64 0] F l4 (w5.alloc (.cells F 137)) := fun F => by
    have b4 := (Below.refl w4.heap.size w4).alloc (Nat.le_refl _) (.cells #[.int .i64 (wr : Int), .int .u64 (sq : Int), .int .u64 (tm : Int), .int .u8 (kn : Int), .string ⟨#[]⟩, .slice none 0 0, .float .f64 0, .int .i64 0] 38)
    have hz5 : w4.heap.size < w5.heap.size := by have := hb5.size; simp at this; omega
    have b5 := b4.trans (hb5.mono (by simp))
    have b6 := b5.trans (((Below.refl w5.heap.size w5).alloc (Nat.le_refl _) (.cells F 137)).mono (by omega))
    exact { gm := (b6.block w.heap.size (by omega)).trans hm4, gp := by
              rw [Below.heap_alloc _ _ _ hz5, hb5.block w4.heap.size (by simp)]
              exact heap_alloc_new w4 _
            gf := heap_alloc_new w5 _, gb := be4.below b6, gtape := h4.keep (b6.block t (by omega)), gsrc := HP.out, goff := OUT.out, glt := htl, ghm := Nat.le_refl _, gmp := hz4, gpf := hz5 }
  have hz45 : w4.heap.size < w5.heap.size := (st #[]).gpf
  have p3 : w5.cell? ⟨w4.heap.size, 3, none⟩ = some (.int .u8 (kn : Int)) := by
    rw [hb5.cell (by simp)]; simp
  have ST := Lib.hid st
  clear st hb5 h4 be4 hm4 SEE HP OUT p3
  have hne : ¬ w4.heap.size = w5.heap.size := by omega
  have hne2 : ¬ w5.heap.size = w4.heap.size := by omega
  rcases (show kn = 1 ∨ (kn = 2 ∨ kn = 3) ∨ kn = 4 ∨ kn = 5 ∨ (kn < 1 ∨ 5 < kn) by omega) with hk | hk | hk | hk | hk
  · have hu : usesV kn = _ := hk ▸ uses1
    rw [hu]
    have KN := Lib.hid hk
    clear hk hu
    have st6 := ST.out #[.bool true, .bool true, .bool false, .bool false]
    have hw6 : w5.heap.size + 1 = (w5.alloc (.cells #[.bool true, .bool true, .bool false, .bool false] 137)).heap.size := by simp
    go_wp2_with fail
    generalize w5.alloc (.cells #[.bool true, .bool true, .bool false, .bool false] 137) = w6 at st6 hw6 ⊢
    clear ST
    cases g5 : textG 64 l4 with
    | bad E =>
      refine (text_bad t 64 E l4 w6 (st6.gtape.at_ st6.sees) (by omega) (by omega) g5).mono ?_
      rintro e wb ⟨rfl, hbb⟩
      have HB := Lib.hid (st6.gb.trans hbb fun x hx => .inl hx)
      unfold fault
      go_wp2
      have hbad : G = .bad E := by rw [GD.out]; unfold dataG; have HK0 := KN.out; rw [hkn]; rw [if_pos KN.out]; simp only [g5, Got.bind]
      exact ⟨rfl, give_bad hbad rfl HB.out⟩
    | ok k l5 =>
    have hl5 := Nat.le_trans (textG_len g5) hl4
    refine (text_ok t 64 k l4 l5 w6 st6.gtape st6.sees (by omega) (by omega) g5).mono ?_
    rintro e w7 ⟨B7, m7, k7, rfl, own7, ht7, hb7⟩
    have st7 := st6.read hb7 ht7
    have r7 := own7.sees.string (P := Tryz.prog) k7 (t := 28) (s := 9) (e := 5) Tryz.underlying28 Tryz.underlying5 Tryz.underlying9
    obtain ⟨f0, f1, f2, f3⟩ := b4cells st7.gf
    have c4 : w7.cell? ⟨w4.heap.size, 4, none⟩ = some (.string ⟨#[]⟩) := (box8 st7.gp).2.2.2.2.1
    have y4 := frozen_row0 (i := 4) st7.gp
    have G5 := Lib.hid g5
    have st7k := st7.put 4 (.string ⟨k.toArray⟩)
    clear g5 own7 ht7 hb7 st6
    go_wp2_with fail
    generalize hU7 : w7.setCell ⟨w4.heap.size, 4, none⟩ (.string ⟨k.toArray⟩) = u7 at st7k ⊢
    clear hU7 r7 f0 f1 f2 f3 c4 y4 st7
    cases g6 : textG 1048576 l5 with
    | bad E =>
      refine (text_bad t 1048576 E l5 u7 (st7k.gtape.at_ st7k.sees) (by omega) (by omega) g6).mono ?_
      rintro e wb ⟨rfl, hbb⟩
      have HB := Lib.hid (st7k.gb.trans hbb fun x hx => .inl hx)
      unfold fault
      go_wp2
      have hbad : G = .bad E := by rw [GD.out]; unfold dataG; have HK0 := KN.out; rw [hkn]; rw [if_pos KN.out]; simp only [G5.out, g6, Got.bind]
      exact ⟨rfl, give_bad hbad rfl HB.out⟩
    | ok x l6 =>
    refine (text_ok t 1048576 x l5 l6 u7 st7k.gtape st7k.sees (by omega) (by omega) g6).mono ?_
    rintro e w8 ⟨B8, m8, k8, rfl, own8, ht8, hb8⟩
    have st8 := st7k.read hb8 ht8
    obtain ⟨f0, f1, f2, f3⟩ := b4cells st8.gf
    have c5 : w8.cell? ⟨w4.heap.size, 5, none⟩ = some (.slice none 0 0) := (box8 st8.gp).2.2.2.2.2.1
    have y5 := frozen_row0 (i := 5) st8.gp
    have G6 := Lib.hid g6
    have st8k := st8.put 5 (.slice B8 m8 k8)
    have hz8 : w4.heap.size < u7.heap.size := (Array.getElem?_eq_some_iff.1 st7k.gp).1
    have own8k : OwnC (w8.setCell ⟨w4.heap.size, 5, none⟩ (.slice B8 m8 k8)) u7.heap.size 5 B8 m8 k8 (cs x) := OwnC.beside own8 ((Beside.refl [w4.heap.size] _).setCell (by simp) _) (fun z hz => by simp at hz; omega)
    have OWN := Lib.hid own8k
    have WU := Lib.hid st7k.gb.size
    have HZ8 := Lib.hid hz8
    clear g6 own8 own8k ht8 hb8 st7k hz8
    go_wp2_with (first
      | (refine wpList_getRow rfl 38 (.tmp 4) rfl w4.heap.size 38 #[.int .i64 (wr : Int), .int .u64 (sq : Int), .int .u64 (tm : Int), .int .u8 (kn : Int), .string ⟨k.toArray⟩, .slice B8 m8 k8, .float .f64 0, .int .i64 0] (0, 0) _ rfl st8k.gp Tryz.underlying38 rfl (by kernel_rfl) ?_)
      | (refine wpList_putRow rfl 38 (.tmp 2) (.tmp 48) rfl w.heap.size 38 #[.int .i64 0, .int .u64 0, .int .u64 0, .int .u8 0, .string ⟨#[]⟩, .slice none 0 0, .float .f64 0, .int .i64 0] #[.int .i64 (wr : Int), .int .u64 (sq : Int), .int .u64 (tm : Int), .int .u8 (kn : Int), .string ⟨k.toArray⟩, .slice B8 m8 k8, .float .f64 0, .int .i64 0] rfl rfl st8k.gm (by kernel_rfl) rfl (by simp [Value.oneCell']) ?_))
    intro W' hW' hbe
    have FIN := Lib.hid (st8k.done hbe)
    have SX : Hid (Sees W' B8 m8 x) := Lib.hid (OWN.out.sees.beside hbe (OwnC.out OWN.out (fun z hz => by simp at hz; have := HZ8.out; omega)))
    obtain ⟨k0, k1, k2, k3, k4, k5, k6, k7⟩ := box8 hW'
    clear hbe hW'
    go_wp2
    have hgo : G = .ok (⟨wr, sq, tm, kd.toNat, ⟨k.toArray⟩, x, 0, 0⟩, true) l6 := by rw [GD.out]; unfold dataG; have HK0 := KN.out; rw [hkn]; rw [if_pos KN.out]; simp only [G5.out, G6.out, Got.bind]
    refine bodyPost_ret (v := .tuple #[.agg #[.int .i64 (wr : Int), .int .u64 (sq : Int), .int .u64 (tm : Int), .int .u8 (kn : Int), .string ⟨k.toArray⟩, .slice B8 m8 k8, .float .f64 0, .int .i64 0], .bool (true)]) ?_ rfl (give_ok (A := B8) (n := m8) (c := k8) hgo ?_ SX.out OWN.out.cap.1 OWN.out.cap.2 (Fresh.of_ownC OWN.out WU.out) FIN.out.1 FIN.out.2)
    · simp [results, Tryz.results319, go_sem, k0, k1, k2, k3, k4, k5, k6, k7]
    · simp [Ev.val, hkn]
  · obtain ⟨b, hu⟩ : ∃ b, usesV kn = .tuple #[.agg #[.bool true, .bool false, .bool true, .bool false], .bool b] := by
      rcases hk with rfl | rfl
      · exact ⟨_, uses2⟩
      · exact ⟨_, uses3⟩
    have KN1 := Lib.hid (show ¬ kn = 1 by omega)
    rw [hu]
    have KN := Lib.hid hk
    clear hk hu
    have st6 := ST.out #[.bool true, .bool false, .bool true, .bool false]
    have hw6 : w5.heap.size + 1 = (w5.alloc (.cells #[.bool true, .bool false, .bool true, .bool false] 137)).heap.size := by simp
    go_wp2_with fail
    generalize w5.alloc (.cells #[.bool true, .bool false, .bool true, .bool false] 137) = w6 at st6 hw6 ⊢
    clear ST
    cases g5 : textG 64 l4 with
    | bad E =>
      refine (text_bad t 64 E l4 w6 (st6.gtape.at_ st6.sees) (by omega) (by omega) g5).mono ?_
      rintro e wb ⟨rfl, hbb⟩
      have HB := Lib.hid (st6.gb.trans hbb fun x hx => .inl hx)
      unfold fault
      go_wp2
      have hbad : G = .bad E := by rw [GD.out]; unfold dataG; have HK0 := KN.out; rw [hkn]; rw [if_neg KN1.out, if_pos KN.out]; simp only [g5, Got.bind]
      exact ⟨rfl, give_bad hbad rfl HB.out⟩
    | ok k l5 =>
    have hl5 := Nat.le_trans (textG_len g5) hl4
    refine (text_ok t 64 k l4 l5 w6 st6.gtape st6.sees (by omega) (by omega) g5).mono ?_
    rintro e w7 ⟨B7, m7, k7, rfl, own7, ht7, hb7⟩
    have st7 := st6.read hb7 ht7
    have r7 := own7.sees.string (P := Tryz.prog) k7 (t := 28) (s := 9) (e := 5) Tryz.underlying28 Tryz.underlying5 Tryz.underlying9
    obtain ⟨f0, f1, f2, f3⟩ := b4cells st7.gf
    have c4 : w7.cell? ⟨w4.heap.size, 4, none⟩ = some (.string ⟨#[]⟩) := (box8 st7.gp).2.2.2.2.1
    have y4 := frozen_row0 (i := 4) st7.gp
    have G5 := Lib.hid g5
    have st7k := st7.put 4 (.string ⟨k.toArray⟩)
    clear g5 own7 ht7 hb7 st6
    go_wp2_with fail
    generalize hU7 : w7.setCell ⟨w4.heap.size, 4, none⟩ (.string ⟨k.toArray⟩) = u7 at st7k ⊢
    clear hU7 r7 f0 f1 f2 f3 c4 y4 st7
    by_cases hl8 : l5.length < 8
    case pos =>
      refine (fixed_bad t l5 u7 (st7k.gtape.at_ st7k.sees) hl8).mono ?_
      rintro e wb ⟨rfl, rfl⟩
      have HB := Lib.hid st7k.gb
      have HL8 := Lib.hid hl8
      clear st7k hl8
      unfold fault
      go_wp2
      have hfx : fixedG l5 = .bad 5 := if_pos HL8.out
      have hbad : G = .bad 5 := by rw [GD.out]; unfold dataG; have HK0 := KN.out; rw [hkn]; rw [if_neg KN1.out, if_pos KN.out]; simp only [G5.out, hfx, Got.bind]
      exact ⟨rfl, give_bad hbad rfl HB.out⟩
    have hfx : fixedG l5 = .ok (unfix (l5.take 8)) (l5.drop 8) := if_neg hl8
    have FX := Lib.hid hfx
    refine (fixed_ok t l5 u7 st7k.gtape st7k.sees (by omega) (by omega)).mono ?_
    rintro e w8 ⟨rfl, ht8, hb8⟩
    have st8 := st7k.read hb8 ht8
    clear hfx st7k ht8 hb8 hl8
    obtain ⟨N, hN⟩ : ∃ N, N = unfix (l5.take 8) := ⟨_, rfl⟩
    rw [← hN]
    have NN := Lib.hid hN
    clear hN
    go_wp2_with fail
    refine (of_any N w8).mono ?_
    rintro e w8' ⟨rfl, rfl⟩
    obtain ⟨Q, hQ⟩ : ∃ Q, Q = (if qb N = N then N else 0) := ⟨_, rfl⟩
    obtain ⟨D, hD⟩ : ∃ D, D = decide (qb N = N) := ⟨_, rfl⟩
    rw [← hQ, ← hD]
    have QQ := Lib.hid (And.intro hQ hD)
    clear hQ hD
    obtain ⟨f0, f1, f2, f3⟩ := b4cells st8.gf
    have c6 : w8'.cell? ⟨w4.heap.size, 6, none⟩ = some (.float .f64 0) := (box8 st8.gp).2.2.2.2.2.2.1
    have y6 := frozen_row0 (i := 6) st8.gp
    have st8k := st8.put 6 (.float .f64 Q)
    go_wp2_with (first
      | (refine wpList_getRow rfl 38 (.tmp 4) rfl w4.heap.size 38 #[.int .i64 (wr : Int), .int .u64 (sq : Int), .int .u64 (tm : Int), .int .u8 (kn : Int), .string ⟨k.toArray⟩, .slice none 0 0, .float .f64 Q, .int .i64 0] (0, 0) _ rfl st8k.gp Tryz.underlying38 rfl (by kernel_rfl) ?_)
      | (refine wpList_putRow rfl 38 (.tmp 2) (.tmp 48) rfl w.heap.size 38 #[.int .i64 0, .int .u64 0, .int .u64 0, .int .u8 0, .string ⟨#[]⟩, .slice none 0 0, .float .f64 0, .int .i64 0] #[.int .i64 (wr : Int), .int .u64 (sq : Int), .int .u64 (tm : Int), .int .u8 (kn : Int), .string ⟨k.toArray⟩, .slice none 0 0, .float .f64 Q, .int .i64 0] rfl rfl st8k.gm (by kernel_rfl) rfl (by simp [Value.oneCell']) ?_))
    intro W' hW' hbe
    have FIN := Lib.hid (st8k.done hbe)
    obtain ⟨k0, k1, k2, k3, k4, k5, k6, k7⟩ := box8 hW'
    clear hbe hW'
    go_wp2
    have hgo : G = .ok (⟨wr, sq, tm, kd.toNat, ⟨k.toArray⟩, [], Q, 0⟩, D) (l5.drop 8) := by rw [GD.out]; unfold dataG; have HK0 := KN.out; rw [hkn]; rw [if_neg KN1.out, if_pos KN.out]; simp only [G5.out, FX.out, ← NN.out, ← QQ.out.1, ← QQ.out.2, Got.bind]
    refine bodyPost_ret (v := .tuple #[.agg #[.int .i64 (wr : Int), .int .u64 (sq : Int), .int .u64 (tm : Int), .int .u8 (kn : Int), .string ⟨k.toArray⟩, .slice none 0 0, .float .f64 Q, .int .i64 0], .bool (D)]) ?_ rfl (give_ok (A := none) (n := 0) (c := 0) hgo ?_ (Sees.nil _ _) (Nat.le_refl _) (by omega) (Fresh.none _) FIN.out.1 FIN.out.2)
    · simp [results, Tryz.results319, go_sem, k0, k1, k2, k3, k4, k5, k6, k7]
    · simp [Ev.val, hkn]
  · have hu : usesV kn = _ := hk ▸ uses4
    have KN1 := Lib.hid (show ¬ kn = 1 by omega)
    have KN2 := Lib.hid (show ¬ (kn = 2 ∨ kn = 3) by omega)
    rw [hu]
    have KN := Lib.hid hk
    clear hk hu
    have st6 := ST.out #[.bool true, .bool false, .bool false, .bool false]
    have hw6 : w5.heap.size + 1 = (w5.alloc (.cells #[.bool true, .bool false, .bool false, .bool false] 137)).heap.size := by simp
    go_wp2_with fail
    generalize w5.alloc (.cells #[.bool true, .bool false, .bool false, .bool false] 137) = w6 at st6 hw6 ⊢
    clear ST
    cases g5 : textG 64 l4 with
    | bad E =>
      refine (text_bad t 64 E l4 w6 (st6.gtape.at_ st6.sees) (by omega) (by omega) g5).mono ?_
      rintro e wb ⟨rfl, hbb⟩
      have HB := Lib.hid (st6.gb.trans hbb fun x hx => .inl hx)
      unfold fault
      go_wp2
      have hbad : G = .bad E := by rw [GD.out]; unfold dataG; have HK0 := KN.out; rw [hkn]; rw [if_neg KN1.out, if_neg KN2.out, if_pos KN.out]; simp only [g5, Got.bind]
      exact ⟨rfl, give_bad hbad rfl HB.out⟩
    | ok k l5 =>
    have hl5 := Nat.le_trans (textG_len g5) hl4
    refine (text_ok t 64 k l4 l5 w6 st6.gtape st6.sees (by omega) (by omega) g5).mono ?_
    rintro e w7 ⟨B7, m7, k7, rfl, own7, ht7, hb7⟩
    have st7 := st6.read hb7 ht7
    have r7 := own7.sees.string (P := Tryz.prog) k7 (t := 28) (s := 9) (e := 5) Tryz.underlying28 Tryz.underlying5 Tryz.underlying9
    obtain ⟨f0, f1, f2, f3⟩ := b4cells st7.gf
    have c4 : w7.cell? ⟨w4.heap.size, 4, none⟩ = some (.string ⟨#[]⟩) := (box8 st7.gp).2.2.2.2.1
    have y4 := frozen_row0 (i := 4) st7.gp
    have G5 := Lib.hid g5
    have st7k := st7.put 4 (.string ⟨k.toArray⟩)
    clear g5 own7 ht7 hb7 st6
    go_wp2_with (first
      | (refine wpList_getRow rfl 38 (.tmp 4) rfl w4.heap.size 38 #[.int .i64 (wr : Int), .int .u64 (sq : Int), .int .u64 (tm : Int), .int .u8 (kn : Int), .string ⟨k.toArray⟩, .slice none 0 0, .float .f64 0, .int .i64 0] (0, 0) _ rfl st7k.gp Tryz.underlying38 rfl (by kernel_rfl) ?_)
      | (refine wpList_putRow rfl 38 (.tmp 2) (.tmp 48) rfl w.heap.size 38 #[.int .i64 0, .int .u64 0, .int .u64 0, .int .u8 0, .string ⟨#[]⟩, .slice none 0 0, .float .f64 0, .int .i64 0] #[.int .i64 (wr : Int), .int .u64 (sq : Int), .int .u64 (tm : Int), .int .u8 (kn : Int), .string ⟨k.toArray⟩, .slice none 0 0, .float .f64 0, .int .i64 0] rfl rfl st7k.gm (by kernel_rfl) rfl (by simp [Value.oneCell']) ?_))
    intro W' hW' hbe
    have FIN := Lib.hid (st7k.done hbe)
    obtain ⟨k0, k1, k2, k3, k4, k5, k6, k7⟩ := box8 hW'
    clear hbe hW'
    go_wp2
    have hgo : G = .ok (⟨wr, sq, tm, kd.toNat, ⟨k.toArray⟩, [], 0, 0⟩, true) l5 := by rw [GD.out]; unfold dataG; have HK0 := KN.out; rw [hkn]; rw [if_neg KN1.out, if_neg KN2.out, if_pos KN.out]; simp only [G5.out, Got.bind]
    refine bodyPost_ret (v := .tuple #[.agg #[.int .i64 (wr : Int), .int .u64 (sq : Int), .int .u64 (tm : Int), .int .u8 (kn : Int), .string ⟨k.toArray⟩, .slice none 0 0, .float .f64 0, .int .i64 0], .bool (true)]) ?_ rfl (give_ok (A := none) (n := 0) (c := 0) hgo ?_ (Sees.nil _ _) (Nat.le_refl _) (by omega) (Fresh.none _) FIN.out.1 FIN.out.2)
    · simp [results, Tryz.results319, go_sem, k0, k1, k2, k3, k4, k5, k6, k7]
    · simp [Ev.val, hkn]
  · have hu : usesV kn = _ := hk ▸ uses5
    have KN1 := Lib.hid (show ¬ kn = 1 by omega)
    have KN2 := Lib.hid (show ¬ (kn = 2 ∨ kn = 3) by omega)
    have KN4 := Lib.hid (show ¬ kn = 4 by omega)
    rw [hu]
    have KN := Lib.hid hk
    clear hk hu
    have st6 := ST.out #[.bool false, .bool false, .bool false, .bool true]
    have hw6 : w5.heap.size + 1 = (w5.alloc (.cells #[.bool false, .bool false, .bool false, .bool true] 137)).heap.size := by simp
    go_wp2_with fail
    generalize w5.alloc (.cells #[.bool false, .bool false, .bool false, .bool true] 137) = w6 at st6 hw6 ⊢
    clear ST
    cases g5 : numG 63 l4 with
    | bad E =>
      refine (takeNode_bad t E l4 w6 (st6.gtape.at_ st6.sees) (by omega) g5).mono ?_
      rintro e wb ⟨rfl, hbb⟩
      have HB := Lib.hid (st6.gb.trans hbb fun x hx => .inl hx)
      unfold fault
      go_wp2
      have hbad : G = .bad E := by rw [GD.out]; unfold dataG; have HK0 := KN.out; rw [hkn]; rw [if_neg KN1.out, if_neg KN2.out, if_neg KN4.out, if_pos KN.out]; simp only [g5, Got.bind]
      exact ⟨rfl, give_bad hbad rfl HB.out⟩
    | ok nd l5 =>
    refine (takeNode_ok t nd l4 l5 w6 st6.gtape st6.sees (by omega) g5).mono ?_
    rintro e w7 ⟨rfl, ht7, hb7⟩
    have st7 := st6.read hb7 ht7
    obtain ⟨f0, f1, f2, f3⟩ := b4cells st7.gf
    have c7 : w7.cell? ⟨w4.heap.size, 7, none⟩ = some (.int .i64 0) := (box8 st7.gp).2.2.2.2.2.2.2
    have y7 := frozen_row0 (i := 7) st7.gp
    have G5 := Lib.hid g5
    have st7k := st7.put 7 (.int .i64 (nd : Int))
    clear g5 ht7 hb7 st6
    go_wp2_with (first
      | (refine wpList_getRow rfl 38 (.tmp 4) rfl w4.heap.size 38 #[.int .i64 (wr : Int), .int .u64 (sq : Int), .int .u64 (tm : Int), .int .u8 (kn : Int), .string ⟨#[]⟩, .slice none 0 0, .float .f64 0, .int .i64 (nd : Int)] (0, 0) _ rfl st7k.gp Tryz.underlying38 rfl (by kernel_rfl) ?_)
      | (refine wpList_putRow rfl 38 (.tmp 2) (.tmp 48) rfl w.heap.size 38 #[.int .i64 0, .int .u64 0, .int .u64 0, .int .u8 0, .string ⟨#[]⟩, .slice none 0 0, .float .f64 0, .int .i64 0] #[.int .i64 (wr : Int), .int .u64 (sq : Int), .int .u64 (tm : Int), .int .u8 (kn : Int), .string ⟨#[]⟩, .slice none 0 0, .float .f64 0, .int .i64 (nd : Int)] rfl rfl st7k.gm (by kernel_rfl) rfl (by simp [Value.oneCell']) ?_))
    intro W' hW' hbe
    have FIN := Lib.hid (st7k.done hbe)
    obtain ⟨k0, k1, k2, k3, k4, k5, k6, k7⟩ := box8 hW'
    clear hbe hW'
    go_wp2
    have hgo : G = .ok (⟨wr, sq, tm, kd.toNat, ⟨#[]⟩, [], 0, nd⟩, true) l5 := by rw [GD.out]; unfold dataG; have HK0 := KN.out; rw [hkn]; rw [if_neg KN1.out, if_neg KN2.out, if_neg KN4.out, if_pos KN.out]; simp only [G5.out, Got.bind]
    refine bodyPost_ret (v := .tuple #[.agg #[.int .i64 (wr : Int), .int .u64 (sq : Int), .int .u64 (tm : Int), .int .u8 (kn : Int), .string ⟨#[]⟩, .slice none 0 0, .float .f64 0, .int .i64 (nd : Int)], .bool (true)]) ?_ rfl (give_ok (A := none) (n := 0) (c := 0) hgo ?_ (Sees.nil _ _) (Nat.le_refl _) (by omega) (Fresh.none _) FIN.out.1 FIN.out.2)
    · simp [results, Tryz.results319, go_sem, k0, k1, k2, k3, k4, k5, k6, k7]
    · simp [Ev.val, hkn]
  · obtain ⟨b, hu⟩ : ∃ b, usesV kn = .tuple #[.agg #[.bool false, .bool false, .bool false, .bool false], .bool b] := by
      by_cases h6 : kn = 6
      · subst h6; exact ⟨_, uses6⟩
      · exact ⟨_, uses_no (by omega)⟩
    have KN1 := Lib.hid (show ¬ kn = 1 by omega)
    have KN2 := Lib.hid (show ¬ (kn = 2 ∨ kn = 3) by omega)
    have KN4 := Lib.hid (show ¬ kn = 4 by omega)
    have KN5 := Lib.hid (show ¬ kn = 5 by omega)
    rw [hu]
    have KN := Lib.hid hk
    clear hk hu
    have st6 := ST.out #[.bool false, .bool false, .bool false, .bool false]
    have hw6 : w5.heap.size + 1 = (w5.alloc (.cells #[.bool false, .bool false, .bool false, .bool false] 137)).heap.size := by simp
    clear ST
    go_wp2_with (first
      | (refine wpList_getRow rfl 38 (.tmp 4) rfl w4.heap.size 38 #[.int .i64 (wr : Int), .int .u64 (sq : Int), .int .u64 (tm : Int), .int .u8 (kn : Int), .string ⟨#[]⟩, .slice none 0 0, .float .f64 0, .int .i64 0] (0, 0) _ rfl st6.gp Tryz.underlying38 rfl (by kernel_rfl) ?_)
      | (refine wpList_putRow rfl 38 (.tmp 2) (.tmp 48) rfl w.heap.size 38 #[.int .i64 0, .int .u64 0, .int .u64 0, .int .u8 0, .string ⟨#[]⟩, .slice none 0 0, .float .f64 0, .int .i64 0] #[.int .i64 (wr : Int), .int .u64 (sq : Int), .int .u64 (tm : Int), .int .u8 (kn : Int), .string ⟨#[]⟩, .slice none 0 0, .float .f64 0, .int .i64 0] rfl rfl st6.gm (by kernel_rfl) rfl (by simp [Value.oneCell']) ?_))
    intro W' hW' hbe
    have FIN := Lib.hid (st6.done hbe)
    obtain ⟨k0, k1, k2, k3, k4, k5, k6, k7⟩ := box8 hW'
    clear hbe hW'
    go_wp2
    have hgo : G = .ok (⟨wr, sq, tm, kd.toNat, ⟨#[]⟩, [], 0, 0⟩, true) l4 := by rw [GD.out]; unfold dataG; have HK0 := KN.out; rw [hkn]; rw [if_neg KN1.out, if_neg KN2.out, if_neg KN4.out, if_neg KN5.out]
    refine bodyPost_ret (v := .tuple #[.agg #[.int .i64 (wr : Int), .int .u64 (sq : Int), .int .u64 (tm : Int), .int .u8 (kn : Int), .string ⟨#[]⟩, .slice none 0 0, .float .f64 0, .int .i64 0], .bool (true)]) ?_ rfl (give_ok (A := none) (n := 0) (c := 0) hgo ?_ (Sees.nil _ _) (Nat.le_refl _) (by omega) (Fresh.none _) FIN.out.1 FIN.out.2)
    · simp [results, Tryz.results319, go_sem, k0, k1, k2, k3, k4, k5, k6, k7]
    · simp [Ev.val, hkn]
end
end Go.Proofs.YtinjbdgjcadodaaGreatDoor.Evt

/- What is read of bytes, as plain data: what is read has just these bytes; an event's bytes are read as it is kept. -/
namespace Go.Proofs.YtinjbdgjcadodaaGreatDoor.Evt
open Go Go.RowKit Go.Proofs.YtinjbdgjcadodaaGreatDoor.Words Go.Proofs.YtinjbdgjcadodaaGreatDoor.Enc Go.Proofs.YtinjbdgjcadodaaGreatDoor.Q Go.Proofs.YtinjbdgjcadodaaGreatDoor.Tape
set_option linter.unusedVariables false

theorem numG_enc {most N : Nat} {l rest : List UInt8} (h : numG most l = .ok N rest) : l = enc N ++ rest ∧ N ≤ most := by
  obtain ⟨h1, h2, h3, rfl⟩ := numG_ok h
  have h4 := @Take.tk_one l (tk 0 0 l).1 (tk 0 0 l).2.1 (Prod.ext rfl (Prod.ext rfl h1))
  refine ⟨?_, by omega⟩
  rw [← h2, ← h4.1, List.take_append_drop]
theorem textG_enc {most : Nat} {T l rest : List UInt8} (h : textG most l = .ok T rest) : l = enc T.length ++ (T ++ rest) ∧ T.length ≤ most := by
  obtain ⟨h1, h2, rfl⟩ := textG_ok h
  unfold Take.texted at h1 h2 ⊢
  split at h1
  · rename_i h0; exact absurd h1 h0
  · rename_i h0
    rw [if_neg h0] at h2 ⊢
    split at h1
    · cases h1
    · rename_i h5
      rw [if_neg h5] at h2 ⊢
      split at h1
      · cases h1
      · rename_i h6
        rw [if_neg h6] at h2 ⊢
        simp only at h2 ⊢
        have h4 := @Take.tk_one l (tk 0 0 l).1 (tk 0 0 l).2.1 (Prod.ext rfl (Prod.ext rfl (show (tk 0 0 l).2.2 = 0 by omega)))
        have hT : T.length = (tk 0 0 l).1 := by
          rw [← h2, List.length_take, List.length_drop]; omega
        refine ⟨?_, by omega⟩
        rw [hT, ← h4.1, ← h2, ← List.drop_drop, List.take_append_drop, List.take_append_drop]
theorem byteG_enc {b : UInt8} {l rest : List UInt8} (h : byteG l = .ok b rest) : l = b :: rest := by
  cases l with
  | nil => cases h
  | cons x r => injection h with h1 h2; rw [h1, h2]

theorem b8_of (b : UInt8) (n : Nat) (h : n % 256 = b.toNat) : b8 (n % 256) = b := by
  apply UInt8.toNat_inj.1
  rw [b8_toNat, h]
  exact Nat.mod_eq_of_lt b.toNat_lt
theorem fix_unfix (q : List UInt8) (h : q.length = 8) : fix (unfix q) = q := by
  match q, h with
  | [b0, b1, b2, b3, b4, b5, b6, b7], _ =>
    have h0 := b0.toNat_lt; have h1 := b1.toNat_lt; have h2 := b2.toNat_lt; have h3 := b3.toNat_lt
    have h4 := b4.toNat_lt; have h5 := b5.toNat_lt; have h6 := b6.toNat_lt; have h7 := b7.toNat_lt
    have hu : unfix [b0, b1, b2, b3, b4, b5, b6, b7] = ((((((((0 * 256 + b0.toNat) * 256 + b1.toNat) * 256 + b2.toNat) * 256 + b3.toNat) * 256 + b4.toNat) * 256 + b5.toNat) * 256 + b6.toNat) * 256 + b7.toNat) := rfl
    generalize unfix [b0, b1, b2, b3, b4, b5, b6, b7] = n at hu
    unfold fix
    have hr : List.range 8 = [0, 1, 2, 3, 4, 5, 6, 7] := rfl
    rw [hr]
    simp only [List.map_cons, List.map_nil]
    rw [b8_of b0 _ (by simp; omega), b8_of b1 _ (by simp; omega), b8_of b2 _ (by simp; omega), b8_of b3 _ (by simp; omega), b8_of b4 _ (by simp; omega), b8_of b5 _ (by simp; omega), b8_of b6 _ (by simp; omega), b8_of b7 _ (by simp; omega)]
theorem fixedG_enc {n : Nat} {l rest : List UInt8} (h : fixedG l = .ok n rest) : l = fix n ++ rest ∧ n < 18446744073709551616 := by
  unfold fixedG at h
  split at h
  · cases h
  · rename_i h0
    injection h with h1 h2
    have hq : (l.take 8).length = 8 := by rw [List.length_take]; omega
    rw [← h1, fix_unfix _ hq, ← h2, List.take_append_drop]
    exact ⟨rfl, Nat.lt_of_lt_of_le (unfix_lt _ 8 hq) (by decide)⟩

/-- What is known of what has been read. -/
structure Took (ev : Ev) (b : Bool) (l rest : List UInt8) : Prop where
  bytes : b = true → 1 ≤ ev.kind → l = evL ev ++ rest
  plain : plainE ev = ev
  fit : ev.Fit
  text : ev.text.length ≤ 1048576
  key : ev.key.size ≤ 64

theorem key_of (k : List UInt8) : (⟨k.toArray⟩ : ByteArray).size = k.length ∧ (⟨k.toArray⟩ : ByteArray).data.toList = k := ⟨by simp [ByteArray.size], by simp⟩
theorem fit_of {wr sq tm : Nat} {kd : UInt8} {key : ByteArray} {text : List UInt8} {num : Nat} {node : Nat} (h1 : wr ≤ 63) (h2 : sq ≤ 18446744073709551615) (h3 : tm ≤ 18446744073709551615) (h4 : num < 18446744073709551616) (h5 : node ≤ 63) :
    (⟨wr, sq, tm, kd.toNat, key, text, num, node⟩ : Ev).Fit := by
  have := kd.toNat_lt
  exact ⟨by simp only; omega, by simp only; omega, by simp only; omega, by simp only; omega, by simp only; omega, h4, by simp only; omega, by simp only; omega⟩

theorem dataG_took {wr sq tm : Nat} {kd : UInt8} {l rest : List UInt8} {ev : Ev} {b : Bool} (h1 : wr ≤ 63) (h2 : sq ≤ 18446744073709551615) (h3 : tm ≤ 18446744073709551615) (h : dataG wr sq tm kd l = .ok (ev, b) rest) :
    Took ev b (enc wr ++ (enc sq ++ (enc tm ++ (kd :: l)))) rest := by
  have hb8 : b8 kd.toNat = kd := by simp [b8]
  unfold dataG at h
  split at h
  · rename_i hk
    cases g1 : textG 64 l with
    | bad E => rw [g1] at h; cases h
    | ok k l5 =>
    rw [g1] at h
    cases g2 : textG 1048576 l5 with
    | bad E => simp only [Got.bind, g2] at h; cases h
    | ok x l6 =>
    simp only [Got.bind, g2] at h
    injection h with h4 h5
    injection h4 with h4 h6
    subst h4; subst h5
    obtain ⟨e1, e2⟩ := textG_enc g1
    obtain ⟨e3, e4⟩ := textG_enc g2
    refine ⟨fun _ _ => ?_, ?_, fit_of (node := 0) h1 h2 h3 (by omega) (by omega), e4, ?_⟩
    · rw [evL_set hk, Int.toNat_natCast, (key_of k).1, (key_of k).2, hb8, e1, e3]
      simp only [List.append_assoc, List.cons_append, List.nil_append]
    · simp [plainE, hk]
    · show (⟨k.toArray⟩ : ByteArray).size ≤ 64
      rw [(key_of k).1]; exact e2
  · rename_i hk1
    split at h
    · rename_i hk
      cases g1 : textG 64 l with
      | bad E => rw [g1] at h; cases h
      | ok k l5 =>
      rw [g1] at h
      cases g2 : fixedG l5 with
      | bad E => simp only [Got.bind, g2] at h; cases h
      | ok n l6 =>
      simp only [Got.bind, g2] at h
      injection h with h4 h5
      injection h4 with h4 h6
      subst h4; subst h5
      obtain ⟨e1, e2⟩ := textG_enc g1
      obtain ⟨e3, e4⟩ := fixedG_enc g2
      have hq : qb (if qb n = n then n else 0) = (if qb n = n then n else 0) := by
        split
        · assumption
        · exact qb_zero
      refine ⟨fun hb _ => ?_, ?_, fit_of (node := 0) h1 h2 h3 (by split <;> omega) (by omega), by simp, ?_⟩
      · have hqn : qb n = n := by rw [← h6] at hb; simpa using hb
        rw [evL_num hk, Int.toNat_natCast, (key_of k).1, (key_of k).2, hb8, e1, if_pos hqn, hqn, e3]
        simp only [List.append_assoc, List.cons_append, List.nil_append]
      · have ha : 1 ≤ kd.toNat ∧ kd.toNat ≤ 4 := by omega
        have hc : ¬ kd.toNat = 5 := by omega
        simp [plainE, hk, ha, hk1, hc, hq]
      · show (⟨k.toArray⟩ : ByteArray).size ≤ 64
        rw [(key_of k).1]; exact e2
    · rename_i hk2
      split at h
      · rename_i hk
        cases g1 : textG 64 l with
        | bad E => rw [g1] at h; cases h
        | ok k l5 =>
        rw [g1] at h
        simp only [Got.bind] at h
        injection h with h4 h5
        injection h4 with h4 h6
        subst h4; subst h5
        obtain ⟨e1, e2⟩ := textG_enc g1
        refine ⟨fun hb _ => ?_, ?_, fit_of (node := 0) h1 h2 h3 (by omega) (by omega), by simp, ?_⟩
        · rw [evL_drop hk, Int.toNat_natCast, (key_of k).1, (key_of k).2, hb8, e1]
          simp only [List.append_assoc, List.cons_append, List.nil_append]
        · simp [plainE, hk]
        · show (⟨k.toArray⟩ : ByteArray).size ≤ 64
          rw [(key_of k).1]; exact e2
      · rename_i hk4
        split at h
        · rename_i hk
          cases g1 : numG 63 l with
          | bad E => rw [g1] at h; cases h
          | ok n l5 =>
          rw [g1] at h
          simp only [Got.bind] at h
          injection h with h4 h5
          injection h4 with h4 h6
          subst h4; subst h5
          obtain ⟨e1, e2⟩ := numG_enc g1
          refine ⟨fun hb _ => ?_, ?_, fit_of h1 h2 h3 (by omega) e2, by simp, by simp [ByteArray.size]⟩
          · rw [evL_join hk, Int.toNat_natCast, Int.toNat_natCast, hb8, e1]
            simp only [List.append_assoc, List.cons_append, List.nil_append]
          · simp [plainE, hk]
        · rename_i hk5
          injection h with h4 h5
          injection h4 with h4 h6
          subst h4; subst h5
          refine ⟨fun hb hk0 => ?_, ?_, fit_of (node := 0) h1 h2 h3 (by omega) (by omega), by simp, by simp [ByteArray.size]⟩
          · have hk0' : 1 ≤ kd.toNat := hk0
            simp only [evL, dataL]
            rw [if_neg (show ¬ kd.toNat ≤ 4 by omega), if_neg hk1, if_neg hk2, if_neg hk5, Int.toNat_natCast, hb8]
            simp only [List.append_assoc, List.cons_append, List.nil_append]
          · have ha : ¬ (1 ≤ kd.toNat ∧ kd.toNat ≤ 4) := by omega
            simp [plainE, hk1, hk2, hk5, ha]

theorem takeG_took {l rest : List UInt8} {ev : Ev} {b : Bool} (h : takeG l = .ok (ev, b) rest) : Took ev b l rest := by
  unfold takeG at h
  cases g1 : numG 63 l with
  | bad E => rw [g1] at h; cases h
  | ok wr l1 =>
  rw [g1] at h
  cases g2 : numG 18446744073709551615 l1 with
  | bad E => simp only [Got.bind, g2] at h; cases h
  | ok sq l2 =>
  cases g3 : numG 18446744073709551615 l2 with
  | bad E => simp only [Got.bind, g2, g3] at h; cases h
  | ok tm l3 =>
  cases g4 : byteG l3 with
  | bad E => simp only [Got.bind, g2, g3, g4] at h; cases h
  | ok kd l4 =>
  simp only [Got.bind, g2, g3, g4] at h
  have := dataG_took (numG_enc g1).2 (numG_enc g2).2 (numG_enc g3).2 h
  rw [(numG_enc g1).1, (numG_enc g2).1, (numG_enc g3).1, byteG_enc g4]
  exact this

/-! And back. -/
theorem numG_of {most N : Nat} (hN : N ≤ most) (h64 : N < 18446744073709551616) (r : List UInt8) : numG most (enc N ++ r) = .ok N r := by
  unfold numG
  rw [tk_lay N h64 r]
  simp only
  rw [if_neg (by simp), if_neg (by omega), List.drop_left]
end Go.Proofs.YtinjbdgjcadodaaGreatDoor.Evt

/- event.Decode: its contract, of any bytes. -/
namespace Go.Proofs.YtinjbdgjcadodaaGreatDoor.Evt
open Go Go.RowKit Go.Proofs.YtinjbdgjcadodaaGreatDoor.Words Go.Proofs.YtinjbdgjcadodaaGreatDoor.Enc Go.Proofs.YtinjbdgjcadodaaGreatDoor.Q Go.Proofs.YtinjbdgjcadodaaGreatDoor.Tape
set_option linter.unusedVariables false

/-- What Decode reads: an error's number, or an event. -/
def decG (l : List UInt8) : Nat ⊕ Ev :=
  match takeG l with
  | .bad E => .inl E
  | .ok (ev, b) rest => if b = false then .inl 4 else if rest ≠ [] then .inl 4 else if rightE ev ≠ 0 then .inl (rightE ev) else .inr ev

def zeroRow : Array Value := #[.int .i64 0, .int .u64 0, .int .u64 0, .int .u8 0, .string ⟨#[]⟩, .slice none 0 0, .float .f64 0, .int .i64 0]
/-- What Decode answers. -/
def DecGives (g : Nat ⊕ Ev) (w : World) (e : Ending) (w' : World) : Prop :=
  match g with
  | .inl E => e = .returned (.tuple #[.agg zeroRow, .int .i64 (E : Int)]) ∧ Below w.heap.size w w'
  | .inr ev => ∃ A n c, e = .returned (.tuple #[ev.val A n c, .int .i64 0]) ∧ Sees w' A n ev.text ∧ n ≤ c ∧ c ≤ 9223372036854775807 ∧ Fresh w.heap.size A n ∧ Below w.heap.size w w'

theorem dec_bad {g : Nat ⊕ Ev} {E : Nat} {w w' : World} {v : Value} (h : g = .inl E) (hv : v = .tuple #[.agg zeroRow, .int .i64 (E : Int)]) (hb : Below w.heap.size w w') : DecGives g w (.returned v) w' := by
  subst h
  subst hv
  exact ⟨rfl, hb⟩
theorem dec_ok {g : Nat ⊕ Ev} {ev : Ev} {A : Option Addr} {n c : Nat} {w w' : World} {v : Value} (h : g = .inr ev) (hv : v = .tuple #[ev.val A n c, .int .i64 0]) (hs : Sees w' A n ev.text) (h1 : n ≤ c) (h2 : c ≤ 9223372036854775807) (hfr : Fresh w.heap.size A n) (hb : Below w.heap.size w w') : DecGives g w (.returned v) w' := by
  subst h
  subst hv
  exact ⟨A, n, c, rfl, hs, h1, h2, hfr, hb⟩

set_option maxRecDepth 100000 in
set_option maxHeartbeats 2000000 in
theorem decode_any (A : Option Addr) (n c : Nat) (l : List UInt8) (w : World) (hs : Sees w A n l) (hc : n ≤ c) (hn : n ≤ 900000000) :
    Calls Tryz.prog 272 #[.slice A n c] w (DecGives (decG l) w) := by
  have hln := hs.1
  have hsf := store_float Tryz.prog
  obtain ⟨G, hG⟩ : ∃ G, G = decG l := ⟨_, rfl⟩
  rw [← hG]
  have HG := Lib.hid hG
  clear hG
  have hb0 : Below w.heap.size w ((w.alloc (.cells zeroRow 38)).alloc (.cells #[.int .i64 0] 29)) := ((Below.refl _ _).alloc (Nat.le_refl _) _).alloc (by simp) _
  have hm0 : ((w.alloc (.cells zeroRow 38)).alloc (.cells #[.int .i64 0] 29)).heap[w.heap.size]? = some (.cells zeroRow 38 (0, 0)) := by
    rw [Below.heap_alloc _ _ _ (by simp)]
    exact heap_alloc_new w _
  have hm1 : ((w.alloc (.cells zeroRow 38)).alloc (.cells #[.int .i64 0] 29)).heap[w.heap.size + 1]? = some (.cells #[.int .i64 0] 29 (0, 0)) := by
    have := heap_alloc_new (w.alloc (.cells zeroRow 38)) (.cells #[.int .i64 0] 29)
    simpa using this
  have hs0 := hs.below hb0
  have hz0 : ((w.alloc (.cells zeroRow 38)).alloc (.cells #[.int .i64 0] 29)).heap.size = w.heap.size + 1 + 1 := by simp
  unfold zeroRow at hb0 hm0 hm1 hs0 hz0
  go_enter_defers Tryz.func272, Tryz.ntmps272
  go_wp2_with fail
  generalize hW0 : (w.alloc (.cells #[.int .i64 0, .int .u64 0, .int .u64 0, .int .u8 0, .string ⟨#[]⟩, .slice none 0 0, .float .f64 0, .int .i64 0] 38)).alloc (.cells #[.int .i64 0] 29) = W0 at hb0 hm0 hm1 hs0 hz0 ⊢
  clear hW0 hs
  refine (newTape_on A n c l W0 hs0 hc (by omega)).mono ?_
  rintro e w1 ⟨rfl, ht1, hb1⟩
  rw [hz0] at ht1 ⊢
  have bel1 := hb0.trans (hb1.mono (by omega))
  have g0 := (hb1.block w.heap.size (by omega)).trans hm0
  have g1 := (hb1.block (w.heap.size + 1) (by omega)).trans hm1
  have s1 := hs0.below hb1
  clear hb0 hm0 hm1 hs0 hb1
  go_wp2_with fail
  refine (take_any (w.heap.size + 1 + 1) l w1 ht1 s1 (by omega)).mono ?_
  intro e w2 htk
  cases hg : takeG l with
  | bad E =>
    rw [hg] at htk
    obtain ⟨rfl, hbe⟩ := htk
    have k1 := (hbe.block (w.heap.size + 1) (Array.getElem?_eq_some_iff.1 g1).1 (by simp)).trans g1
    have k0 := (hbe.block w.heap.size (Array.getElem?_eq_some_iff.1 g0).1 (by simp; omega)).trans g0
    have bel2 := Below.beside bel1 hbe bel1.size (by simp; omega)
    have hgd : G = .inl E := by rw [HG.out]; unfold decG; rw [hg]
    clear g0 g1 bel1 s1 ht1 hbe hg
    have GD := Lib.hid hgd
    clear hgd
    unfold fault
    go_wp2
    refine leaves_cons (f := 92) (args := #[.pointer (some ⟨w.heap.size + 1, 0, none⟩)]) (by simp) (by simp [go_sem]) ?_
    refine (caught_bad (w.heap.size + 1) E [] w2 0 29 k1).mono ?_
    rintro e u' w9 ⟨rfl, rfl, hst, hbe9⟩
    have j0 := (hbe9.block w.heap.size (Array.getElem?_eq_some_iff.1 k0).1 (by simp)).trans k0
    have bel9 := Below.beside bel2 hbe9 bel2.size (by simp)
    obtain ⟨c0, c1, c2, c3, c4, c5, c6, c7⟩ := box8 j0
    have e0 : w9.cell? ⟨w.heap.size + 1, 0, none⟩ = some (.int .i64 ((E : Nat) : Int)) := by rw [cell_of_row w9 (w.heap.size + 1) _ _ _ _ hst]; rfl
    have BEL := Lib.hid bel9
    clear hst hbe9 j0 bel9 bel2 k0 k1
    simp [Leaves, settle, results, Tryz.results272, go_sem, c0, c1, c2, c3, c4, c5, c6, c7, e0]
    exact dec_bad GD.out rfl BEL.out
  | ok evb rest =>
    obtain ⟨ev, b⟩ := evb
    rw [hg] at htk
    obtain ⟨A2, n2, c2, rfl, hs2, hc2, hcm2, hfr, ht2, hbe⟩ := htk
    have hw1 : w.heap.size + 1 < w1.heap.size := (Array.getElem?_eq_some_iff.1 g1).1
    have FR := Lib.hid (And.intro hfr hw1)
    clear hfr hw1
    have k1 := (hbe.block (w.heap.size + 1) (Array.getElem?_eq_some_iff.1 g1).1 (by simp)).trans g1
    have k0 := (hbe.block w.heap.size (Array.getElem?_eq_some_iff.1 g0).1 (by simp; omega)).trans g0
    have bel2 := Below.beside bel1 hbe bel1.size (by simp; omega)
    have s2 : Sees w2 A n l := s1.beside hbe (by obtain ⟨A', n', c', hb', -⟩ := ht1; exact sees_off hb' s1)
    have hG2 : G = if b = false then .inl 4 else if rest ≠ [] then .inl 4 else if rightE ev ≠ 0 then .inl (rightE ev) else .inr ev := by rw [HG.out]; unfold decG; rw [hg]
    have htook := takeG_took hg
    have hlt2 := ht2.lt
    have HG2 := Lib.hid hG2
    have TK := Lib.hid (And.intro htook.fit (And.intro htook.text htook.key))
    clear g0 g1 bel1 s1 ht1 hbe hg hG2 HG htook
    unfold Ev.val
    have hal := (Below.refl w2.heap.size w2).alloc (Nat.le_refl _) (.cells #[.int .i64 ev.writer, .int .u64 (ev.seq : Int), .int .u64 (ev.time : Int), .int .u8 (ev.kind : Int), .string ev.key, .slice A2 n2 c2, .float .f64 ev.num, .int .i64 ev.node] 38)
    have k0 := (hal.block w.heap.size (by omega)).trans k0
    have k1 := (hal.block (w.heap.size + 1) (by omega)).trans k1
    have bel2 := bel2.trans (hal.mono bel2.size)
    have s2 := s2.below hal
    have hs2 := hs2.below hal
    have ht2 := ht2.keep (hal.block _ hlt2)
    have ke := heap_alloc_new w2 (.cells #[.int .i64 ev.writer, .int .u64 (ev.seq : Int), .int .u64 (ev.time : Int), .int .u8 (ev.kind : Int), .string ev.key, .slice A2 n2 c2, .float .f64 ev.num, .int .i64 ev.node] 38)
    have hsz : (w2.alloc (.cells #[.int .i64 ev.writer, .int .u64 (ev.seq : Int), .int .u64 (ev.time : Int), .int .u8 (ev.kind : Int), .string ev.key, .slice A2 n2 c2, .float .f64 ev.num, .int .i64 ev.node] 38)).heap.size = w2.heap.size + 1 := by simp
    clear hal
    cases b with
    | false =>
      have hgd : G = .inl 4 := by rw [HG2.out, if_pos rfl]
      have GD := Lib.hid hgd
      clear hgd HG2 s2 hs2 ht2 ke
      go_wp2_with (first
        | (refine wpList_putRow rfl 38 (.tmp 2) (.tmp 17) rfl w.heap.size 38 #[.int .i64 0, .int .u64 0, .int .u64 0, .int .u8 0, .string ⟨#[]⟩, .slice none 0 0, .float .f64 0, .int .i64 0] #[.int .i64 0, .int .u64 0, .int .u64 0, .int .u8 0, .string ⟨#[]⟩, .slice none 0 0, .float .f64 0, .int .i64 0] rfl rfl k0 (by kernel_rfl) rfl (by simp [Value.oneCell']) ?_))
      intro W' hW' hbe
      have j1 := (hbe.block (w.heap.size + 1) (Array.getElem?_eq_some_iff.1 k1).1 (by simp)).trans k1
      have BEL := Lib.hid ((Below.beside bel2 hbe bel2.size (by simp)).setCell (p := ⟨w.heap.size + 1, 0, none⟩) (by simp))
      have e0 : W'.cell? ⟨w.heap.size + 1, 0, none⟩ = some (.int .i64 0) := by rw [cell_of_row W' (w.heap.size + 1) _ _ _ _ j1]; rfl
      have y0 := frozen_row0 (i := 0) j1
      obtain ⟨c0, c1, c2, c3, c4, c5, c6, c7⟩ := box8 hW'
      go_wp2
      refine leaves_cons (f := 92) (args := #[.pointer (some ⟨w.heap.size + 1, 0, none⟩)]) (by simp) (by simp [go_sem]) ?_
      refine (caught_idle _ _).mono ?_
      rintro e u' w'' ⟨rfl, rfl, rfl⟩
      simp [Leaves, settle, results, Tryz.results272, go_sem, c0, c1, c2, c3, c4, c5, c6, c7, e0]
      exact dec_bad GD.out rfl (BEL.out _)
    | true =>
      go_wp2_with fail
      generalize w2.alloc (.cells #[.int .i64 ev.writer, .int .u64 (ev.seq : Int), .int .u64 (ev.time : Int), .int .u8 (ev.kind : Int), .string ev.key, .slice A2 n2 c2, .float .f64 ev.num, .int .i64 ev.node] 38) = w3 at k0 k1 bel2 s2 hs2 ht2 ke hsz ⊢
      by_cases hrest : rest = []
      case neg =>
        have hgd : G = .inl 4 := by rw [HG2.out, if_neg (by simp), if_pos hrest]
        have hr0 : 0 < rest.length := by cases rest with | nil => exact absurd rfl hrest | cons a b => simp
        refine (done_bad (w.heap.size + 1 + 1) rest w3 (ht2.at_ s2) hr0).mono ?_
        rintro e w3 ⟨rfl, rfl⟩
        clear HG2 s2 hs2 ht2 ke hrest hr0
        have GD := Lib.hid hgd
        clear hgd
        unfold fault
        go_wp2
        refine leaves_cons (f := 92) (args := #[.pointer (some ⟨w.heap.size + 1, 0, none⟩)]) (by simp) (by simp [go_sem]) ?_
        refine (caught_bad (w.heap.size + 1) 4 [] w3 0 29 k1).mono ?_
        rintro e u' w9 ⟨rfl, rfl, hst, hbe9⟩
        have j0 := (hbe9.block w.heap.size (Array.getElem?_eq_some_iff.1 k0).1 (by simp)).trans k0
        have bel9 := Below.beside bel2 hbe9 bel2.size (by simp)
        obtain ⟨c0, c1, c2, c3, c4, c5, c6, c7⟩ := box8 j0
        have e0 : w9.cell? ⟨w.heap.size + 1, 0, none⟩ = some (.int .i64 ((4 : Nat) : Int)) := by rw [cell_of_row w9 (w.heap.size + 1) _ _ _ _ hst]; rfl
        have BEL := Lib.hid bel9
        clear hst hbe9 j0 bel9 bel2 k0 k1
        simp [Leaves, settle, results, Tryz.results272, go_sem, c0, c1, c2, c3, c4, c5, c6, c7, e0]
        exact dec_bad GD.out rfl BEL.out
      case pos =>
        subst hrest
        refine (done_any (w.heap.size + 1 + 1) w3 (ht2.at_ s2)).mono ?_
        rintro e w3 ⟨rfl, rfl⟩
        obtain ⟨p0, p1, p2, p3, p4, p5, p6, p7⟩ := box8 ke
        have hte := hs2.1
        go_wp2_with fail
        refine (right_any ev A2 n2 c2 w3 TK.out.1 hte.symm (by have := TK.out.2.1; omega) (by have := TK.out.2.2; omega)).mono ?_
        rintro e w4 ⟨rfl, hb4⟩
        have k0 := (hb4.block w.heap.size (by omega)).trans k0
        have k1 := (hb4.block (w.heap.size + 1) (by omega)).trans k1
        have ke := (hb4.block w2.heap.size (by omega)).trans ke
        have bel2 := bel2.trans (hb4.mono bel2.size)
        have hs2 := hs2.below hb4
        clear p0 p1 p2 p3 p4 p5 p6 p7 hb4 s2 ht2
        by_cases hr : rightE ev = 0
        · have d1 : ((rightE ev : Int) != 0) = false := by rw [hr]; rfl
          have d2 : ((rightE ev : Int) == 0) = true := by rw [hr]; rfl
          have hgd : G = .inr ev := by rw [HG2.out, if_neg (by simp), if_neg (by simp), if_neg (by simp [hr])]
          have GD := Lib.hid hgd
          clear hgd hr HG2
          go_wp2_with (first
            | (refine wpList_getRow rfl 38 (.tmp 5) rfl w2.heap.size 38 #[.int .i64 ev.writer, .int .u64 (ev.seq : Int), .int .u64 (ev.time : Int), .int .u8 (ev.kind : Int), .string ev.key, .slice A2 n2 c2, .float .f64 ev.num, .int .i64 ev.node] (0, 0) _ rfl ke Tryz.underlying38 rfl (by kernel_rfl) ?_)
            | (refine wpList_putRow rfl 38 (.tmp 2) (.tmp 26) rfl w.heap.size 38 #[.int .i64 0, .int .u64 0, .int .u64 0, .int .u8 0, .string ⟨#[]⟩, .slice none 0 0, .float .f64 0, .int .i64 0] #[.int .i64 ev.writer, .int .u64 (ev.seq : Int), .int .u64 (ev.time : Int), .int .u8 (ev.kind : Int), .string ev.key, .slice A2 n2 c2, .float .f64 ev.num, .int .i64 ev.node] rfl rfl k0 (by kernel_rfl) rfl (by simp [Value.oneCell']) ?_))
          intro W' hW' hbe
          have j1 := (hbe.block (w.heap.size + 1) (Array.getElem?_eq_some_iff.1 k1).1 (by simp)).trans k1
          have BEL := Lib.hid ((Below.beside bel2 hbe bel2.size (by simp)).setCell (p := ⟨w.heap.size + 1, 0, none⟩) (by simp))
          have e0 : W'.cell? ⟨w.heap.size + 1, 0, none⟩ = some (.int .i64 0) := by rw [cell_of_row W' (w.heap.size + 1) _ _ _ _ j1]; rfl
          have y0 := frozen_row0 (i := 0) j1
          obtain ⟨c0, c1, c2, c3, c4, c5, c6, c7⟩ := box8 hW'
          have SX : Hid (∀ v, Sees (W'.setCell ⟨w.heap.size + 1, 0, none⟩ v) A2 n2 ev.text) := Lib.hid fun v => (hs2.beside hbe (FR.out.1.out fun x hx => by simp at hx; have := FR.out.2; omega)).beside ((Beside.refl [w.heap.size + 1] _).setCell (by simp) v) (FR.out.1.out fun x hx => by simp at hx; have := FR.out.2; omega)
          go_wp2
          refine leaves_cons (f := 92) (args := #[.pointer (some ⟨w.heap.size + 1, 0, none⟩)]) (by simp) (by simp [go_sem]) ?_
          refine (caught_idle _ _).mono ?_
          rintro e u' w'' ⟨rfl, rfl, rfl⟩
          simp [Leaves, settle, results, Tryz.results272, go_sem, c0, c1, c2, c3, c4, c5, c6, c7, e0]
          exact dec_ok GD.out rfl (SX.out _) hc2 hcm2 (fun hn a ha => Nat.le_trans (by have := FR.out.2; omega) (FR.out.1 hn a ha)) (BEL.out _)
        · have d1 : ((rightE ev : Int) != 0) = true := by rw [bne_iff_ne]; omega
          have d2 : ((rightE ev : Int) == 0) = false := by rw [beq_eq_false_iff_ne]; omega
          have hgd : G = .inl (rightE ev) := by rw [HG2.out, if_neg (by simp), if_neg (by simp), if_pos hr]
          have GD := Lib.hid hgd
          clear hgd hr HG2 hs2 ke
          generalize rightE ev = R at d1 d2 GD ⊢
          go_wp2_with (first
            | (refine wpList_putRow rfl 38 (.tmp 2) (.tmp 24) rfl w.heap.size 38 #[.int .i64 0, .int .u64 0, .int .u64 0, .int .u8 0, .string ⟨#[]⟩, .slice none 0 0, .float .f64 0, .int .i64 0] #[.int .i64 0, .int .u64 0, .int .u64 0, .int .u8 0, .string ⟨#[]⟩, .slice none 0 0, .float .f64 0, .int .i64 0] rfl rfl k0 (by kernel_rfl) rfl (by simp [Value.oneCell']) ?_))
          intro W' hW' hbe
          have j1 := (hbe.block (w.heap.size + 1) (Array.getElem?_eq_some_iff.1 k1).1 (by simp)).trans k1
          have BEL := Lib.hid ((Below.beside bel2 hbe bel2.size (by simp)).setCell (p := ⟨w.heap.size + 1, 0, none⟩) (by simp))
          have e0 : W'.cell? ⟨w.heap.size + 1, 0, none⟩ = some (.int .i64 0) := by rw [cell_of_row W' (w.heap.size + 1) _ _ _ _ j1]; rfl
          have y0 := frozen_row0 (i := 0) j1
          obtain ⟨c0, c1, c2, c3, c4, c5, c6, c7⟩ := box8 hW'
          go_wp2
          refine leaves_cons (f := 92) (args := #[.pointer (some ⟨w.heap.size + 1, 0, none⟩)]) (by simp) (by simp [go_sem]) ?_
          refine (caught_idle _ _).mono ?_
          rintro e u' w'' ⟨rfl, rfl, rfl⟩
          simp [Leaves, settle, results, Tryz.results272, go_sem, c0, c1, c2, c3, c4, c5, c6, c7, e0]
          exact dec_bad GD.out rfl (BEL.out _)
end Go.Proofs.YtinjbdgjcadodaaGreatDoor.Evt

/- What Decode makes of an event's bytes. -/
namespace Go.Proofs.YtinjbdgjcadodaaGreatDoor.Evt
open Go Go.RowKit Go.Proofs.YtinjbdgjcadodaaGreatDoor.Words Go.Proofs.YtinjbdgjcadodaaGreatDoor.Enc Go.Proofs.YtinjbdgjcadodaaGreatDoor.Q Go.Proofs.YtinjbdgjcadodaaGreatDoor.Tape
set_option linter.unusedVariables false
set_option linter.unusedSimpArgs false

/-! An error's number is not 0. -/
theorem bind_bad {α β : Type} {g : Got α} {f : α → List UInt8 → Got β} {E : Nat} (h : g.bind f = .bad E) : g = .bad E ∨ ∃ a r, g = .ok a r ∧ f a r = .bad E := by
  cases g with
  | bad E' => left; simpa [Got.bind] using h
  | ok a r => exact .inr ⟨a, r, rfl, h⟩
end Go.Proofs.YtinjbdgjcadodaaGreatDoor.Evt
