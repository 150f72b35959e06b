/- Layer 16: a draft, as it lies. Layer 16: what is read of bytes as a letter: lists and numbers alone. Layer 16: package letter's readers of a node and of a vector. Layer 16: package letter's reader of rows. -/
import Derived.Deep.MidRow
import Derived.Laws.MakeOwn
import Derived.Test.YthdflbpmabcjlaaDoorLTp06
import Derived.Test.YthdflbpmabcjlaaDoorLTp07
import Derived.Test.YthdflbpmabcjlaaDoorLTp10
import Derived.Test.YthdflbpmabcjlaaDoorLTp12
import Derived.Test.YthdflbpmabcjlaaDoorLTp13
import Derived.Test.YthdflbpmabcjlaaDoorLTp14
namespace Go.Proofs.YthdflbpmabcjlaaDoor.Lt
open Go Go.RowKit Go.Proofs.YthdflbpmabcjlaaDoor.Words Go.Proofs.YthdflbpmabcjlaaDoor.Enc Go.Proofs.YthdflbpmabcjlaaDoor.Evt Go.Proofs.YthdflbpmabcjlaaDoor.Made Go.Proofs.YthdflbpmabcjlaaDoor.Seg
set_option linter.unusedVariables false
set_option linter.unusedSimpArgs false

/-- A draft's numbers, and where its rows lie. -/
structure Dr where
  kd : Nat
  fr : Nat
  tt : Nat
  wy : Nat
  mine : Bool
  ser : Nat
  tm : Nat
  sz : Nat
  pt : Nat
  Ha : Option Addr
  hn : Nat
  hc : Nat
  Ra : Option Addr
  rn : Nat
  rc : Nat
  Ea : Option Addr
  en : Nat
  ec : Nat
  Ba : Option Addr
  bn : Nat
  bc : Nat
def drV (d : Dr) : Array Value := #[.int .u8 (d.kd : Int), .int .u8 (d.fr : Int), .int .u8 (d.tt : Int), .int .u8 (d.wy : Int), .bool d.mine, .int .u64 (d.ser : Int), .int .u64 (d.tm : Int), .int .u32 (d.sz : Int), .int .u32 (d.pt : Int), .slice d.Ha d.hn d.hc, .slice d.Ra d.rn d.rc, .slice d.Ea d.en d.ec, .slice d.Ba d.bn d.bc]
theorem RowsIn.below {w w' : World} {a : Option Addr} {S : List Mtx.RowS} (h : Mtx.RowsIn w a S) (hb : Below w.heap.size w w') : Mtx.RowsIn w' a S := fun i hi => by
  obtain ⟨b, o, h1, h2, h3⟩ := h i hi
  exact ⟨b, o, h1, ⟨h2.sees.below hb, h2.fits, h2.cap, h2.none_, h2.time⟩, fun k v hv => by rw [hb.cell (World.block_lt_of_cell? _ _ (h3 k v hv))]; exact h3 k v hv⟩
structure DrAt (w : World) (d : Dr) (lh : List Nat) (S : List Mtx.RowS) (le : List Nat) (lb : List UInt8) : Prop where
  H : Vec.SeesU w d.Ha d.hn lh
  R : Mtx.RowsIn w d.Ra S
  rn : S.length = d.rn
  E : Ord.SeesH w d.Ea d.en le
  B : Sees w d.Ba d.bn lb
  u8s : d.kd < 256 ∧ d.fr < 256 ∧ d.tt < 256 ∧ d.wy < 256
  u64s : d.ser < 18446744073709551616 ∧ d.tm < 18446744073709551616 ∧ d.sz < 4294967296 ∧ d.pt < 4294967296
  rf : ∀ i, i < S.length → (S.getD i default).n ≤ 10000000
  few : d.hn ≤ 1000000 ∧ d.rn ≤ 1000000 ∧ d.en ≤ 1000000 ∧ d.bn ≤ 100000
theorem DrAt.below {w w' : World} {d : Dr} {lh : List Nat} {S : List Mtx.RowS} {le : List Nat} {lb : List UInt8} (h : DrAt w d lh S le lb) (hb : Below w.heap.size w w') : DrAt w' d lh S le lb :=
  ⟨h.H.below hb, RowsIn.below h.R hb, h.rn, h.E.below hb, h.B.below hb, h.u8s, h.u64s, h.rf, h.few⟩
theorem dr_cells {W : World} {b : Nat} {d : Dr} {T : TypeId} (h : W.heap[b]? = some (.cells (drV d) T (0, 0))) :
    W.cell? ⟨b, 0, none⟩ = some (.int .u8 (d.kd : Int)) ∧ W.cell? ⟨b, 1, none⟩ = some (.int .u8 (d.fr : Int)) ∧ W.cell? ⟨b, 2, none⟩ = some (.int .u8 (d.tt : Int)) ∧ W.cell? ⟨b, 3, none⟩ = some (.int .u8 (d.wy : Int)) ∧ W.cell? ⟨b, 4, none⟩ = some (.bool d.mine) ∧ W.cell? ⟨b, 5, none⟩ = some (.int .u64 (d.ser : Int)) ∧ W.cell? ⟨b, 6, none⟩ = some (.int .u64 (d.tm : Int)) ∧ W.cell? ⟨b, 7, none⟩ = some (.int .u32 (d.sz : Int)) ∧ W.cell? ⟨b, 8, none⟩ = some (.int .u32 (d.pt : Int)) ∧ W.cell? ⟨b, 9, none⟩ = some (.slice d.Ha d.hn d.hc) ∧ W.cell? ⟨b, 10, none⟩ = some (.slice d.Ra d.rn d.rc) ∧ W.cell? ⟨b, 11, none⟩ = some (.slice d.Ea d.en d.ec) ∧ W.cell? ⟨b, 12, none⟩ = some (.slice d.Ba d.bn d.bc) := by
  refine ⟨?_, ?_, ?_, ?_, ?_, ?_, ?_, ?_, ?_, ?_, ?_, ?_, ?_⟩ <;> (rw [cell_of_row W b _ _ _ _ h]; rfl)
/-- The letter as it begins. -/
def bgn (d : Dr) (k : Nat) : Lt := ⟨k, d.fr % 64, d.tt % 64, d.mine, d.ser % 9223372036854775808, [], [], [], 0, 0, 0, 0, [], 0⟩
theorem bgn_ok (d : Dr) {k : Nat} (hk : 1 ≤ k ∧ k ≤ 7) : Ok (bgn d k) :=
  ⟨hk, ⟨Nat.mod_lt _ (by omega), Nat.mod_lt _ (by omega)⟩, Nat.mod_lt _ (by omega), ⟨by simp [bgn], fun i => by simp [bgn, Vec.at_]⟩, ⟨by simp [bgn], fun r hr => by cases hr⟩, ⟨by simp [bgn], fun e he => by cases he⟩, by show 0 < _; omega, ⟨by show 0 < _; omega, by show 0 < _; omega, by show 0 < _; omega, by show 0 ≤ _; omega⟩, by simp [bgn]⟩
theorem bgn_at (w : World) (d : Dr) (k : Nat) : LtAt w (bgn d k) Adr.zero [] :=
  ⟨⟨rfl, fun h => absurd h (by simp [Adr.zero])⟩, rfl, fun j r hj => by simp [bgn] at hj, rfl, rfl, ⟨fun h => absurd h (by simp), fun r hr => by cases hr⟩, Sees.nil _ _⟩
/-- Between the acts: the draft's box, the result's, the letter's. -/
structure DSt (w W : World) (d : Dr) (C : Array Value) : Prop where
  dr : W.heap[w.heap.size]? = some (.cells (drV d) 29 (0, 0))
  rs : W.heap[w.heap.size + 1]? = some (.cells #[.int .u8 0, .int .i64 0, .int .i64 0, .bool false, .int .u64 0, .slice none 0 0, .slice none 0 0, .slice none 0 0, .int .u64 0, .int .u64 0, .int .u32 0, .int .u64 0, .slice none 0 0, .int .i64 0] 37 (0, 0))
  lt : W.heap[w.heap.size + 2]? = some (.cells C 37 (0, 0))
  b : Below w.heap.size w W
theorem DSt.size {w W : World} {d : Dr} {C : Array Value} (h : DSt w W d C) : w.heap.size + 2 < W.heap.size := (Array.getElem?_eq_some_iff.1 h.lt).1
theorem DSt.below {w W W' : World} {d : Dr} {C : Array Value} (h : DSt w W d C) (hb : Below W.heap.size W W') : DSt w W' d C :=
  have := h.size
  ⟨(hb.block _ (by omega)).trans h.dr, (hb.block _ (by omega)).trans h.rs, (hb.block _ (by omega)).trans h.lt, h.b.trans (hb.mono h.b.size)⟩
theorem DSt.set {w W : World} {d : Dr} {C : Array Value} (h : DSt w W d C) (i : Nat) (v : Value) : DSt w (W.setCell ⟨w.heap.size + 2, i, none⟩ v) d (C.setIfInBounds i v) :=
  ⟨(heapOther (by omega)).trans h.dr, (heapOther (by omega)).trans h.rs, heapSame h.lt, h.b.setCell (by simp) v⟩
theorem DSt.cell {w W : World} {d : Dr} {C : Array Value} (h : DSt w W d C) (i : Nat) : W.cell? ⟨w.heap.size + 2, i, none⟩ = C[i]? := by rw [cell_of_row W _ _ _ _ _ h.lt]
theorem DSt.froz {w W : World} {d : Dr} {C : Array Value} (h : DSt w W d C) (i : Nat) : W.frozen? ⟨w.heap.size + 2, i, none⟩ = false := frozen_row0 h.lt
/-- The letter lies so whatever becomes of the result's box. -/
def Lies (w W : World) (x : Lt) (v : Adr) (S : List EvS) : Prop := ∀ W', Beside [w.heap.size + 1] W W' → LtAt W' x v S
def LetGives (w : World) (e : Ending) (w' : World) : Prop := ∃ x v S, e = .returned (.agg (ltV x v)) ∧ LtAt w' x v S ∧ Ok x ∧ Below w.heap.size w w'
end Go.Proofs.YthdflbpmabcjlaaDoor.Lt
namespace Go.Proofs.YthdflbpmabcjlaaDoor.Lt
open Go Go.RowKit Go.Proofs.YthdflbpmabcjlaaDoor.Words Go.Proofs.YthdflbpmabcjlaaDoor.Enc Go.Proofs.YthdflbpmabcjlaaDoor.Evt Go.Proofs.YthdflbpmabcjlaaDoor.Made Go.Proofs.YthdflbpmabcjlaaDoor.Tape Go.Proofs.YthdflbpmabcjlaaDoor.Vec
set_option linter.unusedVariables false
set_option linter.unusedSimpArgs false

/-- What a reader of a part answers: an error at which the tape gives up; 'no'; or a part, and what is left. -/
inductive Tk (α : Type) where
  | bad (E : Nat)
  | no
  | ok (a : α) (r : List UInt8)
def Tk.bind {α β : Type} : Tk α → (α → List UInt8 → Tk β) → Tk β
  | .bad E, _ => .bad E
  | .no, _ => .no
  | .ok a r, f => f a r
def gT {α : Type} : Got α → Tk α
  | .bad E => .bad E
  | .ok a r => .ok a r
theorem Tk.bind_ok {α β : Type} {g : Tk α} {f : α → List UInt8 → Tk β} {b : β} {r : List UInt8} (h : g.bind f = .ok b r) : ∃ a r1, g = .ok a r1 ∧ f a r1 = .ok b r := by
  cases g with
  | bad E => cases h
  | no => cases h
  | ok a r1 => exact ⟨a, r1, rfl, h⟩
theorem gT_ok {α : Type} {g : Got α} {a : α} {r : List UInt8} (h : gT g = .ok a r) : g = .ok a r := by
  cases g with
  | bad E => cases h
  | ok b r1 => cases h; rfl
def vecT (l : List UInt8) : Tk (List Nat) := (gT (readG l)).bind fun v r => if 0 < v.length ∧ at_ v (v.length - 1) = 0 then .no else .ok v r
def rowsN : Nat → List UInt8 → Tk (List Rw)
  | 0, l => .ok [] l
  | k + 1, l => (gT (numG 63 l)).bind fun nd l1 => (vecT l1).bind fun v l2 => (gT (numG 9223372036854775807 l2)).bind fun t l3 => (rowsN k l3).bind fun rs l4 => .ok (⟨nd, v, t⟩ :: rs) l4
def rowsT (l : List UInt8) : Tk (List Rw) := (gT (numG 64 l)).bind rowsN
def evsN : Nat → List UInt8 → Tk (List Ev)
  | 0, l => .ok [] l
  | k + 1, l => (gT (textG 4194304 l)).bind fun T l1 =>
    match decG T with
    | .inl _ => .no
    | .inr e => (evsN k l1).bind fun es l2 => .ok (e :: es) l2
def evsT (l : List UInt8) : Tk (List Ev) := (gT (numG 9223372036854775807 l)).bind evsN
def zeroL : Lt := ⟨0, 0, 0, false, 0, [], [], [], 0, 0, 0, 0, [], 0⟩
def fieldsT (x : Lt) (l : List UInt8) : Tk Lt :=
  if x.kind = 1 ∨ x.kind = 2 ∨ x.kind = 4 then (vecT l).bind fun v l1 => (rowsT l1).bind fun rs l2 => .ok { x with H := v, rows := rs } l2
  else if x.kind = 3 then (vecT l).bind fun v l1 => (evsT l1).bind fun es l2 => .ok { x with H := v, E := es } l2
  else if x.kind = 5 then (vecT l).bind fun v l1 => (gT (numG 9223372036854775807 l1)).bind fun t l2 => (gT (numG 1099511627776 l2)).bind fun s l3 => (gT (numG 4294967295 l3)).bind fun c l4 => .ok { x with H := v, time := t, size := s, sum := c } l4
  else if x.kind = 6 then (gT (numG 1099511627776 l)).bind fun s l1 => (gT (numG 1099511627776 l1)).bind fun p l2 => (gT (textG 4194304 l2)).bind fun T l3 => .ok { x with size := s, pos := p, bytes := T } l3
  else (gT (numG 65536 l)).bind fun y l1 => .ok { x with why := y } l1
def headT (k : Nat) (l : List UInt8) : Tk Lt :=
  (gT (numG 63 l)).bind fun a l1 => (gT (numG 63 l1)).bind fun b l2 => (gT (numG 1 l2)).bind fun m l3 => (gT (numG 9223372036854775807 l3)).bind fun s l4 => .ok { zeroL with kind := k, src := a, dst := b, mine := decide (m = 1), serial := s } l4
def takeT (l : List UInt8) : Tk Lt :=
  match l with
  | [] => .bad 5
  | b :: l1 => if b.toNat ≠ 1 then .no else
    match l1 with
    | [] => .bad 5
    | k :: l2 => if k.toNat < 1 ∨ 7 < k.toNat then .no else (headT k.toNat l2).bind fieldsT

theorem textG_enc {most : Nat} {T l rest : List UInt8} (h : textG most l = .ok T rest) : l = enc T.length ++ (T ++ rest) ∧ T.length ≤ most := by
  obtain ⟨h1, h2, rfl⟩ := textG_ok h
  unfold Take.texted at h1 h2 ⊢
  split at h1
  · rename_i h0; exact absurd h1 h0
  · rename_i h0
    rw [if_neg h0] at h2 ⊢
    split at h1
    · cases h1
    · rename_i h5
      rw [if_neg h5] at h2 ⊢
      split at h1
      · cases h1
      · rename_i h6
        rw [if_neg h6] at h2 ⊢
        simp only at h2 ⊢
        have h4 := @Take.tk_one l (tk 0 0 l).1 (tk 0 0 l).2.1 (Prod.ext rfl (Prod.ext rfl (show (tk 0 0 l).2.2 = 0 by omega)))
        have hT : T.length = (tk 0 0 l).1 := by
          rw [← h2, List.length_take, List.length_drop]; omega
        refine ⟨?_, by omega⟩
        rw [hT, ← h4.1, ← h2, ← List.drop_drop, List.take_append_drop, List.take_append_drop]
theorem vecT_ok {l r : List UInt8} {v : List Nat} (h : vecT l = .ok v r) : readG l = .ok v r ∧ ¬ (0 < v.length ∧ at_ v (v.length - 1) = 0) := by
  obtain ⟨a, r1, h1, h2⟩ := Tk.bind_ok h
  have h3 := gT_ok h1
  by_cases hz : 0 < a.length ∧ at_ a (a.length - 1) = 0
  · rw [if_pos hz] at h2; cases h2
  · rw [if_neg hz] at h2; cases h2; exact ⟨h3, hz⟩
theorem vecT_enc {l r : List UInt8} {v : List Nat} (h : vecT l = .ok v r) : l = layL v ++ r ∧ Small v := by
  obtain ⟨h1, h2⟩ := vecT_ok h
  obtain ⟨h3, h4⟩ := readG_ok h1
  have ht : Trimmed v := by
    rcases Nat.eq_zero_or_pos v.length with h0 | h0
    · exact .inl (List.eq_nil_of_length_eq_zero h0)
    · exact .inr fun e => h2 ⟨h0, e⟩
  exact ⟨by rw [layL_trimmed ht, h4, List.append_assoc], h3⟩
theorem enc_one : enc 1 = [UInt8.ofNat 1] := by unfold enc; rfl
/-- The law's own letter is read back. -/
def wakeL : Lt := { zeroL with kind := 7, src := 1, dst := 2, serial := 3, why := 3 }
theorem wake_take : takeT (ltL wakeL) = .ok wakeL [] := by
  have h : ltL wakeL = UInt8.ofNat 1 :: UInt8.ofNat 7 :: (enc 1 ++ (enc 2 ++ (enc 0 ++ (enc 3 ++ (enc 3 ++ []))))) := by
    show enc 1 ++ [UInt8.ofNat 7] ++ enc 1 ++ enc 2 ++ enc 0 ++ enc 3 ++ enc 3 = _
    rw [List.append_nil]
    simp only [List.append_assoc]
    rw [enc_one]
    rfl
  rw [h]
  unfold takeT headT
  simp only []
  rw [if_neg (by decide), if_neg (by decide), Vec.numG_of (by omega) (by omega)]
  simp only [gT, Tk.bind]
  rw [Vec.numG_of (by omega) (by omega)]
  simp only [gT, Tk.bind]
  rw [Vec.numG_of (by omega) (by omega)]
  simp only [gT, Tk.bind]
  rw [Vec.numG_of (by omega) (by omega)]
  simp only [gT, Tk.bind]
  unfold fieldsT
  rw [if_neg (by decide), if_neg (by decide), if_neg (by decide), if_neg (by decide), Vec.numG_of (by omega) (by omega)]
  rfl
end Go.Proofs.YthdflbpmabcjlaaDoor.Lt
namespace Go.Proofs.YthdflbpmabcjlaaDoor.Lt
open Go Go.RowKit Go.Proofs.YthdflbpmabcjlaaDoor.Words Go.Proofs.YthdflbpmabcjlaaDoor.Enc Go.Proofs.YthdflbpmabcjlaaDoor.Evt Go.Proofs.YthdflbpmabcjlaaDoor.Made Go.Proofs.YthdflbpmabcjlaaDoor.Tape
set_option linter.unusedVariables false
set_option linter.unusedSimpArgs false

set_option maxRecDepth 100000 in
set_option maxHeartbeats 1000000 in
theorem node_ok {PA : Option Addr} {PN : Nat} {L : List UInt8} (t N : Nat) (l rest : List UInt8) (w : World) (h : TapeOn PA PN L w t l) (hP : Sees w PA PN L) (hl : l.length ≤ 100000) (hg : numG 63 l = .ok N rest) :
    Calls Tryd.prog 37 #[.pointer (some ⟨t, 0, none⟩)] w fun e w' => e = .returned (.int .i64 (N : Int)) ∧ TapeOn PA PN L w' t rest ∧ Beside [t] w w' := by
  have hN : N ≤ 63 := (Vec.numG_enc hg).2
  have hw : IntKind.i64.wrap (N : Int) = (N : Int) := IntWalk.i64_in _ (by omega)
  have NB := Lib.hid (num_ok t 63 N l rest w h hP (by omega) hg)
  clear h hP hg hN
  go_enter Tryd.func37, Tryd.ntmps37
  go_wp2_with fail
  refine NB.out.mono ?_
  rintro e w1 ⟨rfl, h1, h2⟩
  have FIN := Lib.hid (And.intro h1 h2)
  clear h1 h2 NB
  go_wp2
  go_ret
  exact ⟨rfl, FIN.out⟩
set_option maxRecDepth 100000 in
set_option maxHeartbeats 1000000 in
theorem node_bad (t E : Nat) (l : List UInt8) (w : World) (h : TapeAt w t l) (hl : l.length ≤ 100000) (hg : numG 63 l = .bad E) :
    Calls Tryd.prog 37 #[.pointer (some ⟨t, 0, none⟩)] w fun e w' => e = fault E ∧ Beside [t] w w' := by
  have NB := Lib.hid (num_bad t 63 E l w h (by omega) hg)
  clear h hg
  go_enter Tryd.func37, Tryd.ntmps37
  go_wp2_with fail
  refine NB.out.mono ?_
  rintro e w1 ⟨rfl, h2⟩
  have FIN := Lib.hid h2
  clear h2 NB
  unfold fault
  go_wp2
  exact ⟨rfl, rfl, FIN.out⟩
/-- What takeVector answers. -/
def VecGives (PA : Option Addr) (PN : Nat) (L : List UInt8) (t : Nat) (g : Tk (List Nat)) (w : World) (e : Ending) (w' : World) : Prop :=
  match g with
  | .bad E => e = fault E ∧ Beside [t] w w'
  | .no => ∃ R k rc, e = .returned (.tuple #[.slice R k rc, .bool false]) ∧ Beside [t] w w'
  | .ok v r => ∃ R k rc, e = .returned (.tuple #[.slice R k rc, .bool true]) ∧ w'.ownsRow w.heap.size 22 1 (.slice R k rc) k (Vec.us v) ∧ TapeOn PA PN L w' t r ∧ Beside [t] w w'
theorem seesU_last {w : World} {A : Option Addr} {n : Nat} {v : List Nat} (h : Vec.SeesU w A n v) (hn : 0 < n) : ∃ b o, A = some ⟨b, o, none⟩ ∧ w.cell? ⟨b, o + (n - 1), none⟩ = some (.int .u64 (Vec.at_ v (n - 1) : Int)) := by
  obtain ⟨b, o, hA, hc⟩ := h.2 hn
  refine ⟨b, o, hA, hc (n - 1) _ ?_⟩
  have hl : n - 1 < v.length := by rw [h.1]; omega
  unfold Vec.at_
  rw [List.getD_eq_getElem?_getD, List.getElem?_eq_getElem hl]
  rfl
set_option maxRecDepth 100000 in
set_option maxHeartbeats 2000000 in
theorem takeVector_any (PA : Option Addr) (PN : Nat) (L : List UInt8) (t : Nat) (l : List UInt8) (w : World) (ht : TapeOn PA PN L w t l) (hP : Sees w PA PN L) (hll : l.length ≤ 100000) :
    Calls Tryd.prog 56 #[.pointer (some ⟨t, 0, none⟩)] w (VecGives PA PN L t (vecT l) w) := by
  have RD := Vec.read_own PA PN L t l w ht hP hll
  obtain ⟨G, hG⟩ : ∃ G, G = vecT l := ⟨_, rfl⟩
  rw [← hG]
  unfold vecT at hG
  cases g1 : Vec.readG l with
  | bad E =>
    rw [g1] at RD hG
    have NB := Lib.hid RD
    obtain rfl : G = .bad E := hG
    clear RD g1 ht hP
    go_enter Tryd.func56, Tryd.ntmps56
    go_wp2_with fail
    refine NB.out.mono ?_
    rintro e w1 ⟨rfl, hbb⟩
    have HB := Lib.hid hbb
    clear hbb NB
    unfold fault
    go_wp2
    exact ⟨rfl, rfl, HB.out⟩
  | ok v r =>
    rw [g1] at RD hG
    have NB := Lib.hid RD
    have HG := Lib.hid hG
    have hsm := (Vec.readG_ok g1).1
    clear RD g1 ht hP hG
    go_enter Tryd.func56, Tryd.ntmps56
    go_wp2_with fail
    refine NB.out.mono ?_
    rintro e w1 ⟨R, k, rc, rfl, own, hk, hrc, ht, hb⟩
    have hse := Vec.SeesU.of_own own
    have hvk : v.length = k := hse.1
    have hk64 : k ≤ 64 := by rw [← hvk]; exact hsm.1
    have FIN := Lib.hid (And.intro own (And.intro ht hb))
    have HVK := Lib.hid hvk
    clear own ht hb NB hvk hsm
    by_cases h0 : k = 0
    · subst h0
      have hd0 : ((0 : Int) == 0) = true := rfl
      have hz : ¬ (0 < v.length ∧ Vec.at_ v (v.length - 1) = 0) := by rw [HVK.out]; omega
      obtain rfl : G = .ok v r := by rw [HG.out]; simp only [gT, Tk.bind]; rw [if_neg hz]
      clear hse hz HG
      go_wp2_with fail
      go_quiet (fail)
      go_wp2
      go_returns
      exact ⟨R, 0, rc, rfl, FIN.out.1, FIN.out.2.1, FIN.out.2.2.drewN _⟩
    · have hkd : ((k : Int) == 0) = false := by rw [beq_eq_false_iff_ne]; omega
      obtain ⟨b, o, rfl, hc⟩ := seesU_last hse (by omega)
      obtain ⟨z, hz⟩ : ∃ z, z = Vec.at_ v (k - 1) := ⟨_, rfl⟩
      rw [← hz] at hc
      obtain ⟨j, hj⟩ : ∃ j, k = j + 1 := ⟨k - 1, by omega⟩
      subst hj
      simp only [Nat.add_sub_cancel] at hc hz
      have hw : ((j + 1 : Nat) : Int) - 1 = (j : Int) := by omega
      have hww : IntKind.i64.wrap (j : Int) = (j : Int) := IntWalk.i64_in _ (by omega)
      have hjb : (j : Int) < ((j + 1 : Nat) : Int) := by omega
      have hkp : ¬ ((j + 1 : Nat) : Int) = 0 := by omega
      have hk2 : ((j : Int) + 1 == 0) = false := by rw [beq_eq_false_iff_ne]; omega
      have hj0 : (0 : Int) ≤ (j : Int) := by omega
      have hj1 : (j : Int) < (j : Int) + 1 := by omega
      have hiff : (0 < v.length ∧ Vec.at_ v (v.length - 1) = 0) ↔ z = 0 := by rw [HVK.out, Nat.add_sub_cancel, ← hz]; exact ⟨fun h => h.2, fun h => ⟨by omega, h⟩⟩
      have hce : ∀ n, (w1.drewN n).cell? ⟨b, o + j, none⟩ = some (.int .u64 (z : Int)) := fun n => hc
      by_cases hzz : z = 0
      · subst hzz
        have hzb : ((0 : Int) != 0) = false := rfl
        obtain rfl : G = .no := by rw [HG.out]; simp only [gT, Tk.bind]; rw [if_pos (hiff.2 rfl)]
        clear hse hiff hz HG HVK
        go_wp2_with fail
        go_quiet (fail)
        go_wp2
        go_returns
        exact ⟨_, _, _, rfl, FIN.out.2.2.drewN _⟩
      · have hzb : ((z : Int) != 0) = true := by rw [bne_iff_ne]; omega
        obtain rfl : G = .ok v r := by rw [HG.out]; simp only [gT, Tk.bind]; rw [if_neg fun h => hzz (hiff.1 h)]
        clear hse hiff hz HG HVK hzz
        go_wp2_with fail
        go_quiet (fail)
        go_wp2
        go_returns
        exact ⟨_, _, rc, rfl, FIN.out.1, FIN.out.2.1, FIN.out.2.2.drewN _⟩
end Go.Proofs.YthdflbpmabcjlaaDoor.Lt
namespace Go.Proofs.YthdflbpmabcjlaaDoor.Lt
open Go Go.RowKit Go.Proofs.YthdflbpmabcjlaaDoor.Words Go.Proofs.YthdflbpmabcjlaaDoor.Enc Go.Proofs.YthdflbpmabcjlaaDoor.Evt Go.Proofs.YthdflbpmabcjlaaDoor.Made Go.Proofs.YthdflbpmabcjlaaDoor.Tape
set_option linter.unusedVariables false
set_option linter.unusedSimpArgs false

def zeroR : Array Value := #[.int .i64 0, .slice none 0 0, .int .u64 0]
def zeroRV : Value := .agg zeroR
theorem infoRow : (Tryd.prog.info? 45).map (fun i => (i.zero, i.size, i.bytes)) = some (some zeroRV, 3, 40) := by kernel_rfl
theorem make_rows (W : World) (kk : Nat) (hk : kk ≤ 1000000) : (Instr.makeSlice 25 (.int .u64 (kk : Int)) (.int .u64 (kk : Int))).run Tryd.prog W = .ok (.slice (some ⟨W.heap.size, 0, none⟩) kk kk) (W.alloc (.cells (madeCells zeroR (kk * 3)) 45)) := by
  obtain ⟨i, hi, hz, hsz, hby⟩ := info_parts infoRow
  have := run_make (P := Tryd.prog) W 25 45 i zeroRV Tryd.underlying25 hi hz .u64 .u64 (kk : Int) (kk : Int) (by omega) (Int.le_refl _) (by rw [hby]; omega) (by omega)
  rw [this, hsz]
  simp only [Int.toNat_natCast]
  rfl
/-- A row as it lies: its numbers above block g. -/
def RwIn (g : Nat) (w : World) (cur : Array Value) (j : Nat) (r : Rw) : Prop := ∃ A n c, cur[j * 3]? = some (.int .i64 (r.node : Int)) ∧ cur[j * 3 + 1]? = some (.slice A n c) ∧ cur[j * 3 + 2]? = some (.int .u64 (r.time : Int)) ∧ w.ownsRow (g + 1) 22 1 (.slice A n c) n (Vec.us r.H)
theorem RwIn.beside {g : Nat} {w w' : World} {cur : Array Value} {j : Nat} {r : Rw} (h : RwIn g w cur j r) {S : List Nat} (hb : Beside S w w') (hS : ∀ x ∈ S, x ≤ g) : RwIn g w' cur j r := by
  obtain ⟨A, n, c, h1, h2, h3, h4⟩ := h
  exact ⟨A, n, c, h1, h2, h3, Own.beside h4 hb fun x hx => by have := hS x hx; omega⟩
/-- The rows' block g, of m rows: rs are there. -/
structure RwsAt (g m : Nat) (rs : List Rw) (w : World) : Prop where
  row : ∃ cur : Array Value, w.heap[g]? = some (.cells cur 45 (0, 0)) ∧ cur.size = m * 3 ∧ ∀ (j : Nat) (r : Rw), rs[j]? = some r → RwIn g w cur j r
theorem RwsAt.beside {g m : Nat} {rs : List Rw} {w w' : World} (h : RwsAt g m rs w) {L : List Nat} (hb : Beside L w w') (hL : ∀ x ∈ L, x < g) : RwsAt g m rs w' := by
  obtain ⟨⟨cur, h1, h2, h3⟩⟩ := h
  exact ⟨⟨cur, (hb.block g (Array.getElem?_eq_some_iff.1 h1).1 (fun hm => by have := hL g hm; omega)).trans h1, h2, fun j r hj => (h3 j r hj).beside hb fun x hx => by have := hL x hx; omega⟩⟩
theorem RwsAt.lt {g m : Nat} {rs : List Rw} {w : World} (h : RwsAt g m rs w) : g < w.heap.size := by
  obtain ⟨⟨cur, h1, h2, h3⟩⟩ := h
  exact (Array.getElem?_eq_some_iff.1 h1).1
theorem RwsAt.made (w : World) (m : Nat) : RwsAt w.heap.size m [] (w.alloc (.cells (madeCells zeroR (m * 3)) 45)) :=
  ⟨⟨_, heap_alloc_new w _, size_madeCells _ _, fun j r hj => by simp at hj⟩⟩
theorem RwsAt.there {g m : Nat} {rs : List Rw} {w : World} (h : RwsAt g m rs w) (hS : rs.length < m) : w.there g (rs.length * 3) 3 := by
  obtain ⟨⟨cur, h1, h2, h3⟩⟩ := h
  intro j hj
  refine ⟨?_, frozen_row0 h1⟩
  rw [cell_of_row w g _ _ _ _ h1, Array.getElem?_eq_getElem (by omega)]
  rfl
theorem rset_beside (b : Nat) : ∀ (vs : List Value) (o : Nat) (w : World), Beside [b] w (w.setCells b o vs)
  | [], o, w => Beside.refl _ _
  | v :: r, o, w => ((Beside.refl [b] w).setCell (p := ⟨b, o, none⟩) (by simp) v).trans (rset_beside b r (o + 1) _) fun x hx => .inl hx
theorem rset_heap (b : Nat) (T : TypeId) (f : Nat × Nat) : ∀ (vs : List Value) (o : Nat) (w : World) (cur : Array Value), w.heap[b]? = some (.cells cur T f) →
    ∃ cur', (w.setCells b o vs).heap[b]? = some (.cells cur' T f) ∧ cur'.size = cur.size ∧ (∀ i, i < o ∨ o + vs.length ≤ i → cur'[i]? = cur[i]?) ∧ (∀ j, j < vs.length → o + j < cur.size → cur'[o + j]? = vs[j]?)
  | [], o, w, cur, h => ⟨cur, h, rfl, fun i _ => rfl, fun j hj => by simp at hj⟩
  | v :: r, o, w, cur, h => by
    obtain ⟨cur', h1, h2, h3, h4⟩ := rset_heap b T f r (o + 1) (w.setCell ⟨b, o, none⟩ v) (cur.setIfInBounds o v) (heapSame h)
    refine ⟨cur', h1, by rw [h2]; simp, fun i hi => ?_, fun j hj hs => ?_⟩
    · rw [h3 i (by simp at hi; omega), Array.getElem?_setIfInBounds_ne (by simp at hi; omega)]
    · rcases j with _ | j
      · rw [Nat.add_zero, h3 o (by omega)]
        simp at hs
        simp [Array.getElem?_setIfInBounds, hs]
      · have := h4 j (by simpa using hj) (by simp; omega)
        rw [show o + (j + 1) = o + 1 + j by omega, this]
        simp
theorem RwsAt.put {g m : Nat} {rs : List Rw} {w : World} (h : RwsAt g m rs w) (hS : rs.length < m) (r : Rw) (A : Option Addr) (n c : Nat) (hr : w.ownsRow (g + 1) 22 1 (.slice A n c) n (Vec.us r.H)) :
    RwsAt g m (rs ++ [r]) (w.setCells g (rs.length * 3) [.int .i64 (r.node : Int), .slice A n c, .int .u64 (r.time : Int)]) := by
  obtain ⟨⟨cur, h1, h2, h3⟩⟩ := h
  obtain ⟨cur', k1, k2, k3, k4⟩ := rset_heap g 45 (0, 0) [.int .i64 (r.node : Int), .slice A n c, .int .u64 (r.time : Int)] (rs.length * 3) w cur h1
  have hb := rset_beside g [.int .i64 (r.node : Int), .slice A n c, .int .u64 (r.time : Int)] (rs.length * 3) w
  refine ⟨⟨cur', k1, by rw [k2, h2], fun j x hx => ?_⟩⟩
  have hbs : ∀ x ∈ [g], x ≤ g := by simp
  by_cases hj : j < rs.length
  · rw [List.getElem?_append_left hj] at hx
    obtain ⟨A', n', c', q1, q2, q3, q4⟩ := (h3 j x hx).beside hb hbs
    exact ⟨A', n', c', (k3 _ (.inl (by omega))).trans q1, (k3 _ (.inl (by omega))).trans q2, (k3 _ (.inl (by omega))).trans q3, q4⟩
  · have hj2 : j = rs.length := by have := (List.getElem?_eq_some_iff.1 hx).1; simp at this; omega
    subst hj2
    simp at hx
    subst hx
    have e0 := k4 0 (by simp) (by omega)
    have e1 := k4 1 (by simp) (by omega)
    have e2 := k4 2 (by simp) (by omega)
    exact ⟨A, n, c, e0, e1, e2, Own.beside hr hb fun x hx => by have := hbs x hx; omega⟩
theorem rowsN_step (k : Nat) {l l1 l2 l3 : List UInt8} {nd t : Nat} {v : List Nat} (h1 : numG 63 l = .ok nd l1) (h2 : vecT l1 = .ok v l2) (h3 : numG 9223372036854775807 l2 = .ok t l3) : rowsN (k + 1) l = (rowsN k l3).bind fun rs l4 => .ok (⟨nd, v, t⟩ :: rs) l4 := by
  rw [rowsN, h1]; simp only [gT, Tk.bind]
  rw [h2]; simp only []
  rw [h3]
/-- What takeRows answers. -/
def RowsGives (PA : Option Addr) (PN : Nat) (L : List UInt8) (t : Nat) (g : Tk (List Rw)) (w : World) (e : Ending) (w' : World) : Prop :=
  match g with
  | .bad E => e = fault E ∧ Beside [t] w w'
  | .no => e = .returned (.tuple #[.slice none 0 0, .bool false]) ∧ Beside [t] w w'
  | .ok rs r => ∃ b, e = .returned (.tuple #[.slice (some ⟨b, 0, none⟩) rs.length rs.length, .bool true]) ∧ w.heap.size ≤ b ∧ RwsAt b rs.length rs w' ∧ TapeOn PA PN L w' t r ∧ Beside [t] w w'
set_option maxRecDepth 100000 in
set_option maxHeartbeats 4000000 in
theorem takeRows_any (PA : Option Addr) (PN : Nat) (L : List UInt8) (t : Nat) (l : List UInt8) (w : World) (ht : TapeOn PA PN L w t l) (hP : Sees w PA PN L) (hll : l.length ≤ 100000) :
    Calls Tryd.prog 57 #[.pointer (some ⟨t, 0, none⟩)] w (RowsGives PA PN L t (rowsT l) w) := by
  have htl := ht.lt
  have hout : Out [t] PA PN := by
    obtain ⟨A', n', c', hb', -⟩ := ht
    exact sees_off hb' hP
  have SEE : Hid (∀ W, Beside [t] w W → Sees W PA PN L) := Lib.hid fun W hb => hP.beside hb hout
  obtain ⟨G, hG⟩ : ∃ G, G = rowsT l := ⟨_, rfl⟩
  rw [← hG]
  unfold rowsT at hG
  cases g1 : numG 64 l with
  | bad E =>
    rw [g1] at hG
    have NB := Lib.hid (num_bad t 64 E l w (ht.at_ hP) (by omega) g1)
    obtain rfl : G = .bad E := hG
    clear g1 ht hP
    go_enter Tryd.func57, Tryd.ntmps57
    go_wp2_with fail
    refine NB.out.mono ?_
    rintro e w1 ⟨rfl, hbb⟩
    have HB := Lib.hid hbb
    clear hbb NB
    unfold fault
    go_wp2
    exact ⟨rfl, rfl, HB.out⟩
  | ok N l1 =>
    have hN64 : N ≤ 64 := (Vec.numG_enc g1).2
    have hl1 : l1.length ≤ l.length := by rw [(Vec.numG_enc g1).1]; simp
    rw [g1] at hG
    have HG := Lib.hid (show G = rowsN N l1 from hG)
    have NB := Lib.hid (num_ok t 64 N l l1 w ht hP (by omega) g1)
    have hmk := fun W => make_rows W N (by omega)
    clear g1 ht hP hG
    go_enter Tryd.func57, Tryd.ntmps57
    go_wp2_with fail
    refine NB.out.mono ?_
    rintro e w1 ⟨rfl, ht1, be1⟩
    have hw : IntKind.i64.wrap (N : Int) = (N : Int) := IntWalk.i64_in _ (by omega)
    have hz1 := be1.size
    clear NB
    go_wp2_with fail
    have hbe : Beside [t] w (w1.alloc (.cells (madeCells zeroR (N * 3)) 45)) := be1.alloc _
    have RW0 := RwsAt.made w1 N
    have ht2 := ht1.keep (w' := w1.alloc (.cells (madeCells zeroR (N * 3)) 45)) (Below.heap_alloc _ _ _ (by omega))
    generalize w1.alloc (.cells (madeCells zeroR (N * 3)) 45) = w2 at hbe RW0 ht2 ⊢
    clear ht1 be1 hmk
    generalize w1.heap.size = g at RW0 hz1 ⊢
    have INV := Lib.hid (And.intro RW0 (And.intro ht2 hbe))
    clear RW0 ht2 hbe
    go_loopw [14] (fun v wr => ∃ (j : Nat) (rs : List Rw) (r : List UInt8), v = .int .i64 (j : Int) ∧ j ≤ N ∧ r.length ≤ l.length ∧ Hid (rs.length = j ∧ G = (rowsN (N - j) r).bind fun u q => .ok (rs ++ u) q) ∧ Hid (RwsAt g N rs wr ∧ TapeOn PA PN L wr t r ∧ Beside [t] w wr)) (fun v _ => N - (intOf v).toNat)
    case atStart => exact ⟨0, [], l1, rfl, by omega, hl1, Lib.hid ⟨rfl, by rw [HG.out]; cases rowsN N l1 <;> rfl⟩, INV⟩
    case round =>
      obtain ⟨j, rs, r, rfl, hj, hr, HX, HI⟩ := hrel
      have hPr := SEE.out wr HI.out.2.2
      by_cases hlt : j < N
      · have h1 : (j : Int) < (N : Int) := by omega
        obtain ⟨k, hk⟩ : ∃ k, N - j = k + 1 := ⟨N - j - 1, by omega⟩
        have HX1 := Lib.hid (show G = (rowsN (k + 1) r).bind fun u q => .ok (rs ++ u) q by rw [← hk]; exact HX.out.2)
        cases gn : numG 63 r with
        | bad E =>
          obtain rfl : G = .bad E := by rw [HX1.out]; unfold rowsN; rw [gn]; rfl
          have NB := Lib.hid (node_bad t E r wr (HI.out.2.1.at_ hPr) (by omega) gn)
          clear hPr gn HX1 HX hk HG INV
          go_wp2_with fail
          refine NB.out.mono ?_
          rintro e w3 ⟨rfl, hbb⟩
          have HB := Lib.hid (HI.out.2.2.trans hbb fun x hx => .inl hx)
          clear hbb NB
          unfold fault
          go_wp2
          exact ⟨rfl, rfl, HB.out⟩
        | ok nd r1 =>
        have hr1 : r1.length ≤ l.length := by have := (Vec.numG_enc gn).1; rw [this, List.length_append] at hr; omega
        have NB := Lib.hid (node_ok t nd r r1 wr HI.out.2.1 hPr (by omega) gn)
        have GN := Lib.hid gn
        clear gn
        go_wp2_with fail
        refine NB.out.mono ?_
        rintro e w3 ⟨rfl, ht3, hb3⟩
        have HI3 := Lib.hid (And.intro (HI.out.1.beside hb3 (by simp; omega)) (And.intro ht3 (HI.out.2.2.trans hb3 fun x hx => .inl hx)))
        have RD := takeVector_any PA PN L t r1 w3 ht3 (SEE.out w3 HI3.out.2.2) (by omega)
        clear ht3 hb3 NB hPr
        cases gv : vecT r1 with
        | bad E =>
          rw [gv] at RD
          obtain rfl : G = .bad E := by rw [HX1.out]; unfold rowsN; rw [GN.out]; simp only [gT, Tk.bind]; rw [gv]
          have NB := Lib.hid RD
          clear RD gv HX1 HX hk HG INV GN HI
          go_wp2_with fail
          refine NB.out.mono ?_
          rintro e w4 ⟨rfl, hbb⟩
          have HB := Lib.hid (HI3.out.2.2.trans hbb fun x hx => .inl hx)
          clear hbb NB
          unfold fault
          go_wp2
          exact ⟨rfl, rfl, HB.out⟩
        | no =>
          rw [gv] at RD
          obtain rfl : G = .no := by rw [HX1.out]; unfold rowsN; rw [GN.out]; simp only [gT, Tk.bind]; rw [gv]
          have NB := Lib.hid RD
          clear RD gv HX1 HX hk HG INV GN HI
          go_wp2_with fail
          refine NB.out.mono ?_
          rintro e w4 ⟨R, k4, rc, rfl, hbb⟩
          have HB := Lib.hid (HI3.out.2.2.trans hbb fun x hx => .inl hx)
          clear hbb NB
          go_wp2
          go_returns
          exact ⟨rfl, HB.out⟩
        | ok v r2 =>
        rw [gv] at RD
        have NB := Lib.hid RD
        have hr2 : r2.length ≤ l.length := by have := (vecT_enc gv).1; have h2 := congrArg List.length this; rw [List.length_append] at h2; omega
        have GV := Lib.hid gv
        clear RD gv
        go_wp2_with fail
        refine NB.out.mono ?_
        rintro e w4 ⟨R, k4, rc, rfl, own4, ht4, hb4⟩
        have hz3 : g + 1 ≤ w3.heap.size := HI3.out.1.lt
        have HI4 := Lib.hid (And.intro (HI3.out.1.beside hb4 (by simp; omega)) (And.intro ht4 (HI3.out.2.2.trans hb4 fun x hx => .inl hx)))
        have OW4 := Lib.hid (Own.lower own4 hz3)
        have SE4 := SEE.out w4 HI4.out.2.2
        clear own4 ht4 hb4 NB HI HI3
        cases gt : numG 9223372036854775807 r2 with
        | bad E =>
          obtain rfl : G = .bad E := by rw [HX1.out]; unfold rowsN; rw [GN.out]; simp only [gT, Tk.bind]; rw [GV.out]; simp only []; rw [gt]
          have NB := Lib.hid (num_bad t 9223372036854775807 E r2 w4 (HI4.out.2.1.at_ SE4) (by omega) gt)
          clear SE4 gt HX1 HX hk HG INV GN GV
          go_wp2_with fail
          refine NB.out.mono ?_
          rintro e w5 ⟨rfl, hbb⟩
          have HB := Lib.hid (HI4.out.2.2.trans hbb fun x hx => .inl hx)
          clear hbb NB
          unfold fault
          go_wp2
          exact ⟨rfl, rfl, HB.out⟩
        | ok tm r3 =>
        have hr3 : r3.length ≤ l.length := by have := (Vec.numG_enc gt).1; rw [this, List.length_append] at hr2; omega
        have NB := Lib.hid (num_ok t 9223372036854775807 tm r2 r3 w4 HI4.out.2.1 SE4 (by omega) gt)
        have HX2 : Hid ((rs ++ [(⟨nd, v, tm⟩ : Rw)]).length = j + 1 ∧ G = (rowsN (N - (j + 1)) r3).bind fun u q => .ok ((rs ++ [(⟨nd, v, tm⟩ : Rw)]) ++ u) q) := Lib.hid ⟨by simp [HX.out.1], by
          rw [HX1.out, show N - (j + 1) = k by omega, rowsN_step k GN.out GV.out gt]
          cases rowsN k r3 with
          | bad E => rfl
          | no => rfl
          | ok u q => simp [Tk.bind]⟩
        have HJ := Lib.hid HX.out.1
        clear gt SE4 HX1 HX hk HG INV GN GV
        have hj0 : (0 : Int) ≤ (j : Int) := by omega
        go_wp2_with fail
        refine NB.out.mono ?_
        rintro e w5 ⟨rfl, ht5, hb5⟩
        have HI5 := Lib.hid (And.intro (HI4.out.1.beside hb5 (by simp; omega)) (And.intro ht5 (HI4.out.2.2.trans hb5 fun x hx => .inl hx)))
        have OW5 := Lib.hid (Own.beside OW4.out hb5 (by simp; omega))
        have HTH := Lib.hid (HI5.out.1.there (by rw [HJ.out]; exact hlt))
        have PUT := Lib.hid (HI5.out.1.put (by rw [HJ.out]; exact hlt) ⟨nd, v, tm⟩ R k4 rc OW5.out)
        have hbs := rset_beside g [.int .i64 (nd : Int), .slice R k4 rc, .int .u64 (tm : Int)] (j * 3) w5
        have hbw := HI5.out.2.2.trans hbs fun x hx => by simp at hx; subst hx; exact .inr (by omega)
        have htw := HI5.out.2.1.keep (w' := w5.setCells g (j * 3) [.int .i64 (nd : Int), .slice R k4 rc, .int .u64 (tm : Int)]) (hbs.block t (by have := ht5.lt; omega) (by simp; omega))
        have REST := Lib.hid (And.intro htw hbw)
        rw [HJ.out] at PUT HTH
        clear ht5 hb5 NB HI4 OW4 OW5 hbs hbw htw
        go_wp2_with (first | (refine wpList_store_mid rfl 45 (.tmp 33) (.tmp 32) rfl g (j * 3) #[.int .i64 (nd : Int), .slice R k4 rc, .int .u64 (tm : Int)] ?hx ?hy ?ht ?hi ?h1 ?h))
        case hx => rfl
        case hy => rfl
        case ht => exact HTH.out
        case hi => kernel_rfl
        case h1 => simp [Value.oneCell']
        go_wp2
        go_roundw
        case rel => exact ⟨j + 1, rs ++ [(⟨nd, v, tm⟩ : Rw)], r3, by simp, by omega, hr3, HX2, Lib.hid ⟨PUT.out, REST.out⟩⟩
        case measure => simp [intOf]; omega
      · obtain rfl : j = N := by omega
        have hG2 : G = .ok rs r := by rw [HX.out.2, Nat.sub_self]; simp [rowsN, Tk.bind]
        have FIN := HI
        obtain rfl : j = rs.length := HX.out.1.symm
        subst hG2
        clear HI HX hPr HG INV
        go_wp2
        go_returns
        exact ⟨g, rfl, hz1, FIN.out⟩
end Go.Proofs.YthdflbpmabcjlaaDoor.Lt
