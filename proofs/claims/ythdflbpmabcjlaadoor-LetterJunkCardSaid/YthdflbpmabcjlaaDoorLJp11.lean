/- Layer 16: where a letter lies; the document's calls, as rows of their own. Layer 16: package letter's readers of a node and of a vector. Layer 16: package letter's reader of rows. -/
import Derived.Deep.MidRow
import Derived.Laws.MakeOwn
import Derived.Test.YthdflbpmabcjlaaDoorLJp05
import Derived.Test.YthdflbpmabcjlaaDoorLJp08
import Derived.Test.YthdflbpmabcjlaaDoorLJp10
namespace Go.Proofs.YthdflbpmabcjlaaDoor.Lt
open Go Go.RowKit Go.Proofs.YthdflbpmabcjlaaDoor.Words Go.Proofs.YthdflbpmabcjlaaDoor.Enc Go.Proofs.YthdflbpmabcjlaaDoor.Evt Go.Proofs.YthdflbpmabcjlaaDoor.Made Go.Proofs.YthdflbpmabcjlaaDoor.Seg
set_option linter.unusedVariables false
set_option linter.unusedSimpArgs false

/-- Where a letter's rows lie. -/
structure Adr where
  Ha : Option Addr
  hn : Nat
  hc : Nat
  Ra : Option Addr
  rn : Nat
  rc : Nat
  Ea : Option Addr
  en : Nat
  ec : Nat
  Ba : Option Addr
  bn : Nat
  bc : Nat
def Adr.zero : Adr := ⟨none, 0, 0, none, 0, 0, none, 0, 0, none, 0, 0⟩
def ltV (x : Lt) (v : Adr) : Array Value := #[.int .u8 (x.kind : Int), .int .i64 (x.src : Int), .int .i64 (x.dst : Int), .bool x.mine, .int .u64 (x.serial : Int), .slice v.Ha v.hn v.hc, .slice v.Ra v.rn v.rc, .slice v.Ea v.en v.ec, .int .u64 (x.time : Int), .int .u64 (x.size : Int), .int .u32 (x.sum : Int), .int .u64 (x.pos : Int), .slice v.Ba v.bn v.bc, .int .i64 (x.why : Int)]
/-- One row of a letter lies at ⟨b, o⟩. -/
def RwAt (w : World) (b o : Nat) (r : Rw) : Prop := ∃ A n c, w.cell? ⟨b, o, none⟩ = some (.int .i64 (r.node : Int)) ∧ w.cell? ⟨b, o + 1, none⟩ = some (.slice A n c) ∧ w.cell? ⟨b, o + 2, none⟩ = some (.int .u64 (r.time : Int)) ∧ Vec.SeesU w A n r.H
theorem RwAt.below {w w' : World} {b o : Nat} {r : Rw} (h : RwAt w b o r) (hb : Below w.heap.size w w') : RwAt w' b o r := by
  obtain ⟨A, n, c, h0, h1, h2, h3⟩ := h
  exact ⟨A, n, c, by rw [hb.cell (World.block_lt_of_cell? _ _ h0)]; exact h0, by rw [hb.cell (World.block_lt_of_cell? _ _ h1)]; exact h1, by rw [hb.cell (World.block_lt_of_cell? _ _ h2)]; exact h2, h3.below hb⟩
structure LtAt (w : World) (x : Lt) (v : Adr) (S : List EvS) : Prop where
  H : Vec.SeesU w v.Ha v.hn x.H
  rn : v.rn = x.rows.length
  rows : ∀ (j : Nat) (r : Rw), x.rows[j]? = some r → ∃ b o, v.Ra = some ⟨b, o, none⟩ ∧ RwAt w b (o + j * 3) r
  en : v.en = x.E.length
  ev : x.E = S.map EvS.e
  E : Ord.SameR w v.Ea S
  bytes : Sees w v.Ba v.bn x.bytes
theorem LtAt.below {w w' : World} {x : Lt} {v : Adr} {S : List EvS} (h : LtAt w x v S) (hb : Below w.heap.size w w') : LtAt w' x v S :=
  ⟨h.H.below hb, h.rn, fun j r hj => by obtain ⟨b, o, h1, h2⟩ := h.rows j r hj; exact ⟨b, o, h1, h2.below hb⟩, h.en, h.ev, h.E.below hb, h.bytes.below hb⟩
theorem lt_cells {W : World} {B : Nat} {x : Lt} {v : Adr} {T : TypeId} (h : W.heap[B]? = some (.cells (ltV x v) T (0, 0))) :
    W.cell? ⟨B, 0, none⟩ = some (.int .u8 (x.kind : Int)) ∧ W.cell? ⟨B, 1, none⟩ = some (.int .i64 (x.src : Int)) ∧ W.cell? ⟨B, 2, none⟩ = some (.int .i64 (x.dst : Int)) ∧ W.cell? ⟨B, 3, none⟩ = some (.bool x.mine) ∧ W.cell? ⟨B, 4, none⟩ = some (.int .u64 (x.serial : Int)) ∧ W.cell? ⟨B, 5, none⟩ = some (.slice v.Ha v.hn v.hc) ∧ W.cell? ⟨B, 6, none⟩ = some (.slice v.Ra v.rn v.rc) ∧ W.cell? ⟨B, 7, none⟩ = some (.slice v.Ea v.en v.ec) ∧ W.cell? ⟨B, 8, none⟩ = some (.int .u64 (x.time : Int)) ∧ W.cell? ⟨B, 9, none⟩ = some (.int .u64 (x.size : Int)) ∧ W.cell? ⟨B, 10, none⟩ = some (.int .u32 (x.sum : Int)) ∧ W.cell? ⟨B, 11, none⟩ = some (.int .u64 (x.pos : Int)) ∧ W.cell? ⟨B, 12, none⟩ = some (.slice v.Ba v.bn v.bc) ∧ W.cell? ⟨B, 13, none⟩ = some (.int .i64 (x.why : Int)) := by
  refine ⟨?_, ?_, ?_, ?_, ?_, ?_, ?_, ?_, ?_, ?_, ?_, ?_, ?_, ?_⟩ <;> (rw [cell_of_row W B _ _ _ _ h]; rfl)
/-- A row of bytes that the call owns. -/
def GivesR (w : World) (l : List UInt8) (e : Ending) (w' : World) : Prop := ∃ A c, e = .returned (.slice A l.length c) ∧ w'.ownsRow w.heap.size 5 1 (.slice A l.length c) l.length (cs l) ∧ Below w.heap.size w w'
theorem gives_of {n : Nat} {l : List UInt8} {w : World} {e : Ending} {w' : World} (h : New w.heap.size n l w e w') : GivesR w l e w' := by
  obtain ⟨A, c, rfl, ho, hb⟩ := h
  have hn : n = l.length := by have := ho.1; rw [cs_length, Nat.mul_one] at this; exact this.symm
  subst hn
  exact ⟨A, c, rfl, ho, hb⟩
def PRowE (l : List UInt8) : Facts.Pred := ⟨fun v w => ∃ A c, v = .slice A l.length c ∧ Sees w A l.length l, fun _ _ _ ⟨A, c, h, hs⟩ hb => ⟨A, c, h, hs.below hb⟩⟩
def POwnE (base : Nat) (l : List UInt8) : Facts.Pred := ⟨fun v w => ∃ A c, v = .slice A l.length c ∧ w.ownsRow base 5 1 (.slice A l.length c) l.length (cs l), fun _ _ _ ⟨A, c, h, ho⟩ hb => ⟨A, c, h, Own.below ho hb (Nat.le_refl _)⟩⟩
theorem b8_int {K : Nat} (h : K < 256) : ((b8 K).toNat : Int) = (K : Int) := by
  unfold b8
  rw [UInt8.toNat_ofNat_of_lt' (by exact h)]
theorem rlay (A : Option Addr) (c : Nat) (l : List UInt8) (n : Nat) (w : World) (hs : Sees w A l.length l) (hn : l.length ≤ 1000000000) (hx : n < 18446744073709551616) :
    Calls Tryd.prog 12 #[.slice A l.length c, .int .u64 (n : Int)] w (GivesR w (l ++ enc n)) := (refLay_any A _ c l (n : Int) w hs hn (by omega) (by omega)).mono fun _ _ h => by
  have := gives_of h
  rw [Int.toNat_natCast] at this
  exact this
theorem rtext (A : Option Addr) (c : Nat) (l : List UInt8) (Q : Option Addr) (n k : Nat) (q : List UInt8) (w : World) (hs : Sees w A l.length l) (hq : Sees w Q n q) (hn : l.length ≤ 1000000000) (hm : q.length ≤ 1000000000) :
    Calls Tryd.prog 14 #[.slice A l.length c, .slice Q n k] w (GivesR w (l ++ enc q.length ++ q)) := by
  obtain rfl : n = q.length := hq.1.symm
  exact (refText_any A _ c l Q _ k q w hs hq hn hm).mono fun _ _ h => gives_of h
theorem rlayV (A : Option Addr) (c : Nat) (l : List UInt8) (Q : Option Addr) (n k : Nat) (v : List Nat) (w : World) (hs : Sees w A l.length l) (hv : Vec.SeesU w Q n v) (hsm : Vec.Small v) (hn : l.length ≤ 100000) :
    Calls Tryd.prog 13 #[.slice A l.length c, .slice Q n k] w (GivesR w (l ++ Vec.layL v)) := (Vec.refLayV_any A Q _ c n k l v w hs hv hsm hn).mono fun _ _ h => gives_of h
theorem rwrap (A : Option Addr) (c : Nat) (l : List UInt8) (w : World) (hs : Sees w A l.length l) (hn : l.length ≤ 900000000) :
    Calls Tryd.prog 10 #[.slice A l.length c] w (GivesR w (wrap l)) := (refWrap_any A _ c l w hs hn).mono fun _ _ h => gives_of h
end Go.Proofs.YthdflbpmabcjlaaDoor.Lt
namespace Go.Proofs.YthdflbpmabcjlaaDoor.Lt
open Go Go.RowKit Go.Proofs.YthdflbpmabcjlaaDoor.Words Go.Proofs.YthdflbpmabcjlaaDoor.Enc Go.Proofs.YthdflbpmabcjlaaDoor.Evt Go.Proofs.YthdflbpmabcjlaaDoor.Made Go.Proofs.YthdflbpmabcjlaaDoor.Tape
set_option linter.unusedVariables false
set_option linter.unusedSimpArgs false

set_option maxRecDepth 100000 in
set_option maxHeartbeats 1000000 in
theorem node_ok {PA : Option Addr} {PN : Nat} {L : List UInt8} (t N : Nat) (l rest : List UInt8) (w : World) (h : TapeOn PA PN L w t l) (hP : Sees w PA PN L) (hl : l.length ≤ 100000) (hg : numG 63 l = .ok N rest) :
    Calls Tryd.prog 37 #[.pointer (some ⟨t, 0, none⟩)] w fun e w' => e = .returned (.int .i64 (N : Int)) ∧ TapeOn PA PN L w' t rest ∧ Beside [t] w w' := by
  have hN : N ≤ 63 := (Vec.numG_enc hg).2
  have hw : IntKind.i64.wrap (N : Int) = (N : Int) := IntWalk.i64_in _ (by omega)
  have NB := Lib.hid (num_ok t 63 N l rest w h hP (by omega) hg)
  clear h hP hg hN
  go_enter Tryd.func37, Tryd.ntmps37
  go_wp2_with fail
  refine NB.out.mono ?_
  rintro e w1 ⟨rfl, h1, h2⟩
  have FIN := Lib.hid (And.intro h1 h2)
  clear h1 h2 NB
  go_wp2
  go_ret
  exact ⟨rfl, FIN.out⟩
set_option maxRecDepth 100000 in
set_option maxHeartbeats 1000000 in
theorem node_bad (t E : Nat) (l : List UInt8) (w : World) (h : TapeAt w t l) (hl : l.length ≤ 100000) (hg : numG 63 l = .bad E) :
    Calls Tryd.prog 37 #[.pointer (some ⟨t, 0, none⟩)] w fun e w' => e = fault E ∧ Beside [t] w w' := by
  have NB := Lib.hid (num_bad t 63 E l w h (by omega) hg)
  clear h hg
  go_enter Tryd.func37, Tryd.ntmps37
  go_wp2_with fail
  refine NB.out.mono ?_
  rintro e w1 ⟨rfl, h2⟩
  have FIN := Lib.hid h2
  clear h2 NB
  unfold fault
  go_wp2
  exact ⟨rfl, rfl, FIN.out⟩
/-- What takeVector answers. -/
def VecGives (PA : Option Addr) (PN : Nat) (L : List UInt8) (t : Nat) (g : Tk (List Nat)) (w : World) (e : Ending) (w' : World) : Prop :=
  match g with
  | .bad E => e = fault E ∧ Beside [t] w w'
  | .no => ∃ R k rc, e = .returned (.tuple #[.slice R k rc, .bool false]) ∧ Beside [t] w w'
  | .ok v r => ∃ R k rc, e = .returned (.tuple #[.slice R k rc, .bool true]) ∧ w'.ownsRow w.heap.size 22 1 (.slice R k rc) k (Vec.us v) ∧ TapeOn PA PN L w' t r ∧ Beside [t] w w'
theorem seesU_last {w : World} {A : Option Addr} {n : Nat} {v : List Nat} (h : Vec.SeesU w A n v) (hn : 0 < n) : ∃ b o, A = some ⟨b, o, none⟩ ∧ w.cell? ⟨b, o + (n - 1), none⟩ = some (.int .u64 (Vec.at_ v (n - 1) : Int)) := by
  obtain ⟨b, o, hA, hc⟩ := h.2 hn
  refine ⟨b, o, hA, hc (n - 1) _ ?_⟩
  have hl : n - 1 < v.length := by rw [h.1]; omega
  unfold Vec.at_
  rw [List.getD_eq_getElem?_getD, List.getElem?_eq_getElem hl]
  rfl
set_option maxRecDepth 100000 in
set_option maxHeartbeats 2000000 in
theorem takeVector_any (PA : Option Addr) (PN : Nat) (L : List UInt8) (t : Nat) (l : List UInt8) (w : World) (ht : TapeOn PA PN L w t l) (hP : Sees w PA PN L) (hll : l.length ≤ 100000) :
    Calls Tryd.prog 56 #[.pointer (some ⟨t, 0, none⟩)] w (VecGives PA PN L t (vecT l) w) := by
  have RD := Vec.read_own PA PN L t l w ht hP hll
  obtain ⟨G, hG⟩ : ∃ G, G = vecT l := ⟨_, rfl⟩
  rw [← hG]
  unfold vecT at hG
  cases g1 : Vec.readG l with
  | bad E =>
    rw [g1] at RD hG
    have NB := Lib.hid RD
    obtain rfl : G = .bad E := hG
    clear RD g1 ht hP
    go_enter Tryd.func56, Tryd.ntmps56
    go_wp2_with fail
    refine NB.out.mono ?_
    rintro e w1 ⟨rfl, hbb⟩
    have HB := Lib.hid hbb
    clear hbb NB
    unfold fault
    go_wp2
    exact ⟨rfl, rfl, HB.out⟩
  | ok v r =>
    rw [g1] at RD hG
    have NB := Lib.hid RD
    have HG := Lib.hid hG
    have hsm := (Vec.readG_ok g1).1
    clear RD g1 ht hP hG
    go_enter Tryd.func56, Tryd.ntmps56
    go_wp2_with fail
    refine NB.out.mono ?_
    rintro e w1 ⟨R, k, rc, rfl, own, hk, hrc, ht, hb⟩
    have hse := Vec.SeesU.of_own own
    have hvk : v.length = k := hse.1
    have hk64 : k ≤ 64 := by rw [← hvk]; exact hsm.1
    have FIN := Lib.hid (And.intro own (And.intro ht hb))
    have HVK := Lib.hid hvk
    clear own ht hb NB hvk hsm
    by_cases h0 : k = 0
    · subst h0
      have hd0 : ((0 : Int) == 0) = true := rfl
      have hz : ¬ (0 < v.length ∧ Vec.at_ v (v.length - 1) = 0) := by rw [HVK.out]; omega
      obtain rfl : G = .ok v r := by rw [HG.out]; simp only [gT, Tk.bind]; rw [if_neg hz]
      clear hse hz HG
      go_wp2_with fail
      go_quiet (fail)
      go_wp2
      go_returns
      exact ⟨R, 0, rc, rfl, FIN.out.1, FIN.out.2.1, FIN.out.2.2.drewN _⟩
    · have hkd : ((k : Int) == 0) = false := by rw [beq_eq_false_iff_ne]; omega
      obtain ⟨b, o, rfl, hc⟩ := seesU_last hse (by omega)
      obtain ⟨z, hz⟩ : ∃ z, z = Vec.at_ v (k - 1) := ⟨_, rfl⟩
      rw [← hz] at hc
      obtain ⟨j, hj⟩ : ∃ j, k = j + 1 := ⟨k - 1, by omega⟩
      subst hj
      simp only [Nat.add_sub_cancel] at hc hz
      have hw : ((j + 1 : Nat) : Int) - 1 = (j : Int) := by omega
      have hww : IntKind.i64.wrap (j : Int) = (j : Int) := IntWalk.i64_in _ (by omega)
      have hjb : (j : Int) < ((j + 1 : Nat) : Int) := by omega
      have hkp : ¬ ((j + 1 : Nat) : Int) = 0 := by omega
      have hk2 : ((j : Int) + 1 == 0) = false := by rw [beq_eq_false_iff_ne]; omega
      have hj0 : (0 : Int) ≤ (j : Int) := by omega
      have hj1 : (j : Int) < (j : Int) + 1 := by omega
      have hiff : (0 < v.length ∧ Vec.at_ v (v.length - 1) = 0) ↔ z = 0 := by rw [HVK.out, Nat.add_sub_cancel, ← hz]; exact ⟨fun h => h.2, fun h => ⟨by omega, h⟩⟩
      have hce : ∀ n, (w1.drewN n).cell? ⟨b, o + j, none⟩ = some (.int .u64 (z : Int)) := fun n => hc
      by_cases hzz : z = 0
      · subst hzz
        have hzb : ((0 : Int) != 0) = false := rfl
        obtain rfl : G = .no := by rw [HG.out]; simp only [gT, Tk.bind]; rw [if_pos (hiff.2 rfl)]
        clear hse hiff hz HG HVK
        go_wp2_with fail
        go_quiet (fail)
        go_wp2
        go_returns
        exact ⟨_, _, _, rfl, FIN.out.2.2.drewN _⟩
      · have hzb : ((z : Int) != 0) = true := by rw [bne_iff_ne]; omega
        obtain rfl : G = .ok v r := by rw [HG.out]; simp only [gT, Tk.bind]; rw [if_neg fun h => hzz (hiff.1 h)]
        clear hse hiff hz HG HVK hzz
        go_wp2_with fail
        go_quiet (fail)
        go_wp2
        go_returns
        exact ⟨_, _, rc, rfl, FIN.out.1, FIN.out.2.1, FIN.out.2.2.drewN _⟩
end Go.Proofs.YthdflbpmabcjlaaDoor.Lt
namespace Go.Proofs.YthdflbpmabcjlaaDoor.Lt
open Go Go.RowKit Go.Proofs.YthdflbpmabcjlaaDoor.Words Go.Proofs.YthdflbpmabcjlaaDoor.Enc Go.Proofs.YthdflbpmabcjlaaDoor.Evt Go.Proofs.YthdflbpmabcjlaaDoor.Made Go.Proofs.YthdflbpmabcjlaaDoor.Tape
set_option linter.unusedVariables false
set_option linter.unusedSimpArgs false

def zeroR : Array Value := #[.int .i64 0, .slice none 0 0, .int .u64 0]
def zeroRV : Value := .agg zeroR
theorem infoRow : (Tryd.prog.info? 45).map (fun i => (i.zero, i.size, i.bytes)) = some (some zeroRV, 3, 40) := by kernel_rfl
theorem make_rows (W : World) (kk : Nat) (hk : kk ≤ 1000000) : (Instr.makeSlice 25 (.int .u64 (kk : Int)) (.int .u64 (kk : Int))).run Tryd.prog W = .ok (.slice (some ⟨W.heap.size, 0, none⟩) kk kk) (W.alloc (.cells (madeCells zeroR (kk * 3)) 45)) := by
  obtain ⟨i, hi, hz, hsz, hby⟩ := info_parts infoRow
  have := run_make (P := Tryd.prog) W 25 45 i zeroRV Tryd.underlying25 hi hz .u64 .u64 (kk : Int) (kk : Int) (by omega) (Int.le_refl _) (by rw [hby]; omega) (by omega)
  rw [this, hsz]
  simp only [Int.toNat_natCast]
  rfl
/-- A row as it lies: its numbers above block g. -/
def RwIn (g : Nat) (w : World) (cur : Array Value) (j : Nat) (r : Rw) : Prop := ∃ A n c, cur[j * 3]? = some (.int .i64 (r.node : Int)) ∧ cur[j * 3 + 1]? = some (.slice A n c) ∧ cur[j * 3 + 2]? = some (.int .u64 (r.time : Int)) ∧ w.ownsRow (g + 1) 22 1 (.slice A n c) n (Vec.us r.H)
theorem RwIn.beside {g : Nat} {w w' : World} {cur : Array Value} {j : Nat} {r : Rw} (h : RwIn g w cur j r) {S : List Nat} (hb : Beside S w w') (hS : ∀ x ∈ S, x ≤ g) : RwIn g w' cur j r := by
  obtain ⟨A, n, c, h1, h2, h3, h4⟩ := h
  exact ⟨A, n, c, h1, h2, h3, Own.beside h4 hb fun x hx => by have := hS x hx; omega⟩
/-- The rows' block g, of m rows: rs are there. -/
structure RwsAt (g m : Nat) (rs : List Rw) (w : World) : Prop where
  row : ∃ cur : Array Value, w.heap[g]? = some (.cells cur 45 (0, 0)) ∧ cur.size = m * 3 ∧ ∀ (j : Nat) (r : Rw), rs[j]? = some r → RwIn g w cur j r
theorem RwsAt.beside {g m : Nat} {rs : List Rw} {w w' : World} (h : RwsAt g m rs w) {L : List Nat} (hb : Beside L w w') (hL : ∀ x ∈ L, x < g) : RwsAt g m rs w' := by
  obtain ⟨⟨cur, h1, h2, h3⟩⟩ := h
  exact ⟨⟨cur, (hb.block g (Array.getElem?_eq_some_iff.1 h1).1 (fun hm => by have := hL g hm; omega)).trans h1, h2, fun j r hj => (h3 j r hj).beside hb fun x hx => by have := hL x hx; omega⟩⟩
theorem RwsAt.lt {g m : Nat} {rs : List Rw} {w : World} (h : RwsAt g m rs w) : g < w.heap.size := by
  obtain ⟨⟨cur, h1, h2, h3⟩⟩ := h
  exact (Array.getElem?_eq_some_iff.1 h1).1
theorem RwsAt.made (w : World) (m : Nat) : RwsAt w.heap.size m [] (w.alloc (.cells (madeCells zeroR (m * 3)) 45)) :=
  ⟨⟨_, heap_alloc_new w _, size_madeCells _ _, fun j r hj => by simp at hj⟩⟩
theorem RwsAt.there {g m : Nat} {rs : List Rw} {w : World} (h : RwsAt g m rs w) (hS : rs.length < m) : w.there g (rs.length * 3) 3 := by
  obtain ⟨⟨cur, h1, h2, h3⟩⟩ := h
  intro j hj
  refine ⟨?_, frozen_row0 h1⟩
  rw [cell_of_row w g _ _ _ _ h1, Array.getElem?_eq_getElem (by omega)]
  rfl
theorem rset_beside (b : Nat) : ∀ (vs : List Value) (o : Nat) (w : World), Beside [b] w (w.setCells b o vs)
  | [], o, w => Beside.refl _ _
  | v :: r, o, w => ((Beside.refl [b] w).setCell (p := ⟨b, o, none⟩) (by simp) v).trans (rset_beside b r (o + 1) _) fun x hx => .inl hx
theorem rset_heap (b : Nat) (T : TypeId) (f : Nat × Nat) : ∀ (vs : List Value) (o : Nat) (w : World) (cur : Array Value), w.heap[b]? = some (.cells cur T f) →
    ∃ cur', (w.setCells b o vs).heap[b]? = some (.cells cur' T f) ∧ cur'.size = cur.size ∧ (∀ i, i < o ∨ o + vs.length ≤ i → cur'[i]? = cur[i]?) ∧ (∀ j, j < vs.length → o + j < cur.size → cur'[o + j]? = vs[j]?)
  | [], o, w, cur, h => ⟨cur, h, rfl, fun i _ => rfl, fun j hj => by simp at hj⟩
  | v :: r, o, w, cur, h => by
    obtain ⟨cur', h1, h2, h3, h4⟩ := rset_heap b T f r (o + 1) (w.setCell ⟨b, o, none⟩ v) (cur.setIfInBounds o v) (heapSame h)
    refine ⟨cur', h1, by rw [h2]; simp, fun i hi => ?_, fun j hj hs => ?_⟩
    · rw [h3 i (by simp at hi; omega), Array.getElem?_setIfInBounds_ne (by simp at hi; omega)]
    · rcases j with _ | j
      · rw [Nat.add_zero, h3 o (by omega)]
        simp at hs
        simp [Array.getElem?_setIfInBounds, hs]
      · have := h4 j (by simpa using hj) (by simp; omega)
        rw [show o + (j + 1) = o + 1 + j by omega, this]
        simp
theorem RwsAt.put {g m : Nat} {rs : List Rw} {w : World} (h : RwsAt g m rs w) (hS : rs.length < m) (r : Rw) (A : Option Addr) (n c : Nat) (hr : w.ownsRow (g + 1) 22 1 (.slice A n c) n (Vec.us r.H)) :
    RwsAt g m (rs ++ [r]) (w.setCells g (rs.length * 3) [.int .i64 (r.node : Int), .slice A n c, .int .u64 (r.time : Int)]) := by
  obtain ⟨⟨cur, h1, h2, h3⟩⟩ := h
  obtain ⟨cur', k1, k2, k3, k4⟩ := rset_heap g 45 (0, 0) [.int .i64 (r.node : Int), .slice A n c, .int .u64 (r.time : Int)] (rs.length * 3) w cur h1
  have hb := rset_beside g [.int .i64 (r.node : Int), .slice A n c, .int .u64 (r.time : Int)] (rs.length * 3) w
  refine ⟨⟨cur', k1, by rw [k2, h2], fun j x hx => ?_⟩⟩
  have hbs : ∀ x ∈ [g], x ≤ g := by simp
  by_cases hj : j < rs.length
  · rw [List.getElem?_append_left hj] at hx
    obtain ⟨A', n', c', q1, q2, q3, q4⟩ := (h3 j x hx).beside hb hbs
    exact ⟨A', n', c', (k3 _ (.inl (by omega))).trans q1, (k3 _ (.inl (by omega))).trans q2, (k3 _ (.inl (by omega))).trans q3, q4⟩
  · have hj2 : j = rs.length := by have := (List.getElem?_eq_some_iff.1 hx).1; simp at this; omega
    subst hj2
    simp at hx
    subst hx
    have e0 := k4 0 (by simp) (by omega)
    have e1 := k4 1 (by simp) (by omega)
    have e2 := k4 2 (by simp) (by omega)
    exact ⟨A, n, c, e0, e1, e2, Own.beside hr hb fun x hx => by have := hbs x hx; omega⟩
theorem rowsN_step (k : Nat) {l l1 l2 l3 : List UInt8} {nd t : Nat} {v : List Nat} (h1 : numG 63 l = .ok nd l1) (h2 : vecT l1 = .ok v l2) (h3 : numG 9223372036854775807 l2 = .ok t l3) : rowsN (k + 1) l = (rowsN k l3).bind fun rs l4 => .ok (⟨nd, v, t⟩ :: rs) l4 := by
  rw [rowsN, h1]; simp only [gT, Tk.bind]
  rw [h2]; simp only []
  rw [h3]
/-- What takeRows answers. -/
def RowsGives (PA : Option Addr) (PN : Nat) (L : List UInt8) (t : Nat) (g : Tk (List Rw)) (w : World) (e : Ending) (w' : World) : Prop :=
  match g with
  | .bad E => e = fault E ∧ Beside [t] w w'
  | .no => e = .returned (.tuple #[.slice none 0 0, .bool false]) ∧ Beside [t] w w'
  | .ok rs r => ∃ b, e = .returned (.tuple #[.slice (some ⟨b, 0, none⟩) rs.length rs.length, .bool true]) ∧ w.heap.size ≤ b ∧ RwsAt b rs.length rs w' ∧ TapeOn PA PN L w' t r ∧ Beside [t] w w'
set_option maxRecDepth 100000 in
set_option maxHeartbeats 4000000 in
theorem takeRows_any (PA : Option Addr) (PN : Nat) (L : List UInt8) (t : Nat) (l : List UInt8) (w : World) (ht : TapeOn PA PN L w t l) (hP : Sees w PA PN L) (hll : l.length ≤ 100000) :
    Calls Tryd.prog 57 #[.pointer (some ⟨t, 0, none⟩)] w (RowsGives PA PN L t (rowsT l) w) := by
  have htl := ht.lt
  have hout : Out [t] PA PN := by
    obtain ⟨A', n', c', hb', -⟩ := ht
    exact sees_off hb' hP
  have SEE : Hid (∀ W, Beside [t] w W → Sees W PA PN L) := Lib.hid fun W hb => hP.beside hb hout
  obtain ⟨G, hG⟩ : ∃ G, G = rowsT l := ⟨_, rfl⟩
  rw [← hG]
  unfold rowsT at hG
  cases g1 : numG 64 l with
  | bad E =>
    rw [g1] at hG
    have NB := Lib.hid (num_bad t 64 E l w (ht.at_ hP) (by omega) g1)
    obtain rfl : G = .bad E := hG
    clear g1 ht hP
    go_enter Tryd.func57, Tryd.ntmps57
    go_wp2_with fail
    refine NB.out.mono ?_
    rintro e w1 ⟨rfl, hbb⟩
    have HB := Lib.hid hbb
    clear hbb NB
    unfold fault
    go_wp2
    exact ⟨rfl, rfl, HB.out⟩
  | ok N l1 =>
    have hN64 : N ≤ 64 := (Vec.numG_enc g1).2
    have hl1 : l1.length ≤ l.length := by rw [(Vec.numG_enc g1).1]; simp
    rw [g1] at hG
    have HG := Lib.hid (show G = rowsN N l1 from hG)
    have NB := Lib.hid (num_ok t 64 N l l1 w ht hP (by omega) g1)
    have hmk := fun W => make_rows W N (by omega)
    clear g1 ht hP hG
    go_enter Tryd.func57, Tryd.ntmps57
    go_wp2_with fail
    refine NB.out.mono ?_
    rintro e w1 ⟨rfl, ht1, be1⟩
    have hw : IntKind.i64.wrap (N : Int) = (N : Int) := IntWalk.i64_in _ (by omega)
    have hz1 := be1.size
    clear NB
    go_wp2_with fail
    have hbe : Beside [t] w (w1.alloc (.cells (madeCells zeroR (N * 3)) 45)) := be1.alloc _
    have RW0 := RwsAt.made w1 N
    have ht2 := ht1.keep (w' := w1.alloc (.cells (madeCells zeroR (N * 3)) 45)) (Below.heap_alloc _ _ _ (by omega))
    generalize w1.alloc (.cells (madeCells zeroR (N * 3)) 45) = w2 at hbe RW0 ht2 ⊢
    clear ht1 be1 hmk
    generalize w1.heap.size = g at RW0 hz1 ⊢
    have INV := Lib.hid (And.intro RW0 (And.intro ht2 hbe))
    clear RW0 ht2 hbe
    go_loopw [14] (fun v wr => ∃ (j : Nat) (rs : List Rw) (r : List UInt8), v = .int .i64 (j : Int) ∧ j ≤ N ∧ r.length ≤ l.length ∧ Hid (rs.length = j ∧ G = (rowsN (N - j) r).bind fun u q => .ok (rs ++ u) q) ∧ Hid (RwsAt g N rs wr ∧ TapeOn PA PN L wr t r ∧ Beside [t] w wr)) (fun v _ => N - (intOf v).toNat)
    case atStart => exact ⟨0, [], l1, rfl, by omega, hl1, Lib.hid ⟨rfl, by rw [HG.out]; cases rowsN N l1 <;> rfl⟩, INV⟩
    case round =>
      obtain ⟨j, rs, r, rfl, hj, hr, HX, HI⟩ := hrel
      have hPr := SEE.out wr HI.out.2.2
      by_cases hlt : j < N
      · have h1 : (j : Int) < (N : Int) := by omega
        obtain ⟨k, hk⟩ : ∃ k, N - j = k + 1 := ⟨N - j - 1, by omega⟩
        have HX1 := Lib.hid (show G = (rowsN (k + 1) r).bind fun u q => .ok (rs ++ u) q by rw [← hk]; exact HX.out.2)
        cases gn : numG 63 r with
        | bad E =>
          obtain rfl : G = .bad E := by rw [HX1.out]; unfold rowsN; rw [gn]; rfl
          have NB := Lib.hid (node_bad t E r wr (HI.out.2.1.at_ hPr) (by omega) gn)
          clear hPr gn HX1 HX hk HG INV
          go_wp2_with fail
          refine NB.out.mono ?_
          rintro e w3 ⟨rfl, hbb⟩
          have HB := Lib.hid (HI.out.2.2.trans hbb fun x hx => .inl hx)
          clear hbb NB
          unfold fault
          go_wp2
          exact ⟨rfl, rfl, HB.out⟩
        | ok nd r1 =>
        have hr1 : r1.length ≤ l.length := by have := (Vec.numG_enc gn).1; rw [this, List.length_append] at hr; omega
        have NB := Lib.hid (node_ok t nd r r1 wr HI.out.2.1 hPr (by omega) gn)
        have GN := Lib.hid gn
        clear gn
        go_wp2_with fail
        refine NB.out.mono ?_
        rintro e w3 ⟨rfl, ht3, hb3⟩
        have HI3 := Lib.hid (And.intro (HI.out.1.beside hb3 (by simp; omega)) (And.intro ht3 (HI.out.2.2.trans hb3 fun x hx => .inl hx)))
        have RD := takeVector_any PA PN L t r1 w3 ht3 (SEE.out w3 HI3.out.2.2) (by omega)
        clear ht3 hb3 NB hPr
        cases gv : vecT r1 with
        | bad E =>
          rw [gv] at RD
          obtain rfl : G = .bad E := by rw [HX1.out]; unfold rowsN; rw [GN.out]; simp only [gT, Tk.bind]; rw [gv]
          have NB := Lib.hid RD
          clear RD gv HX1 HX hk HG INV GN HI
          go_wp2_with fail
          refine NB.out.mono ?_
          rintro e w4 ⟨rfl, hbb⟩
          have HB := Lib.hid (HI3.out.2.2.trans hbb fun x hx => .inl hx)
          clear hbb NB
          unfold fault
          go_wp2
          exact ⟨rfl, rfl, HB.out⟩
        | no =>
          rw [gv] at RD
          obtain rfl : G = .no := by rw [HX1.out]; unfold rowsN; rw [GN.out]; simp only [gT, Tk.bind]; rw [gv]
          have NB := Lib.hid RD
          clear RD gv HX1 HX hk HG INV GN HI
          go_wp2_with fail
          refine NB.out.mono ?_
          rintro e w4 ⟨R, k4, rc, rfl, hbb⟩
          have HB := Lib.hid (HI3.out.2.2.trans hbb fun x hx => .inl hx)
          clear hbb NB
          go_wp2
          go_returns
          exact ⟨rfl, HB.out⟩
        | ok v r2 =>
        rw [gv] at RD
        have NB := Lib.hid RD
        have hr2 : r2.length ≤ l.length := by have := (vecT_enc gv).1; have h2 := congrArg List.length this; rw [List.length_append] at h2; omega
        have GV := Lib.hid gv
        clear RD gv
        go_wp2_with fail
        refine NB.out.mono ?_
        rintro e w4 ⟨R, k4, rc, rfl, own4, ht4, hb4⟩
        have hz3 : g + 1 ≤ w3.heap.size := HI3.out.1.lt
        have HI4 := Lib.hid (And.intro (HI3.out.1.beside hb4 (by simp; omega)) (And.intro ht4 (HI3.out.2.2.trans hb4 fun x hx => .inl hx)))
        have OW4 := Lib.hid (Own.lower own4 hz3)
        have SE4 := SEE.out w4 HI4.out.2.2
        clear own4 ht4 hb4 NB HI HI3
        cases gt : numG 9223372036854775807 r2 with
        | bad E =>
          obtain rfl : G = .bad E := by rw [HX1.out]; unfold rowsN; rw [GN.out]; simp only [gT, Tk.bind]; rw [GV.out]; simp only []; rw [gt]
          have NB := Lib.hid (num_bad t 9223372036854775807 E r2 w4 (HI4.out.2.1.at_ SE4) (by omega) gt)
          clear SE4 gt HX1 HX hk HG INV GN GV
          go_wp2_with fail
          refine NB.out.mono ?_
          rintro e w5 ⟨rfl, hbb⟩
          have HB := Lib.hid (HI4.out.2.2.trans hbb fun x hx => .inl hx)
          clear hbb NB
          unfold fault
          go_wp2
          exact ⟨rfl, rfl, HB.out⟩
        | ok tm r3 =>
        have hr3 : r3.length ≤ l.length := by have := (Vec.numG_enc gt).1; rw [this, List.length_append] at hr2; omega
        have NB := Lib.hid (num_ok t 9223372036854775807 tm r2 r3 w4 HI4.out.2.1 SE4 (by omega) gt)
        have HX2 : Hid ((rs ++ [(⟨nd, v, tm⟩ : Rw)]).length = j + 1 ∧ G = (rowsN (N - (j + 1)) r3).bind fun u q => .ok ((rs ++ [(⟨nd, v, tm⟩ : Rw)]) ++ u) q) := Lib.hid ⟨by simp [HX.out.1], by
          rw [HX1.out, show N - (j + 1) = k by omega, rowsN_step k GN.out GV.out gt]
          cases rowsN k r3 with
          | bad E => rfl
          | no => rfl
          | ok u q => simp [Tk.bind]⟩
        have HJ := Lib.hid HX.out.1
        clear gt SE4 HX1 HX hk HG INV GN GV
        have hj0 : (0 : Int) ≤ (j : Int) := by omega
        go_wp2_with fail
        refine NB.out.mono ?_
        rintro e w5 ⟨rfl, ht5, hb5⟩
        have HI5 := Lib.hid (And.intro (HI4.out.1.beside hb5 (by simp; omega)) (And.intro ht5 (HI4.out.2.2.trans hb5 fun x hx => .inl hx)))
        have OW5 := Lib.hid (Own.beside OW4.out hb5 (by simp; omega))
        have HTH := Lib.hid (HI5.out.1.there (by rw [HJ.out]; exact hlt))
        have PUT := Lib.hid (HI5.out.1.put (by rw [HJ.out]; exact hlt) ⟨nd, v, tm⟩ R k4 rc OW5.out)
        have hbs := rset_beside g [.int .i64 (nd : Int), .slice R k4 rc, .int .u64 (tm : Int)] (j * 3) w5
        have hbw := HI5.out.2.2.trans hbs fun x hx => by simp at hx; subst hx; exact .inr (by omega)
        have htw := HI5.out.2.1.keep (w' := w5.setCells g (j * 3) [.int .i64 (nd : Int), .slice R k4 rc, .int .u64 (tm : Int)]) (hbs.block t (by have := ht5.lt; omega) (by simp; omega))
        have REST := Lib.hid (And.intro htw hbw)
        rw [HJ.out] at PUT HTH
        clear ht5 hb5 NB HI4 OW4 OW5 hbs hbw htw
        go_wp2_with (first | (refine wpList_store_mid rfl 45 (.tmp 33) (.tmp 32) rfl g (j * 3) #[.int .i64 (nd : Int), .slice R k4 rc, .int .u64 (tm : Int)] ?hx ?hy ?ht ?hi ?h1 ?h))
        case hx => rfl
        case hy => rfl
        case ht => exact HTH.out
        case hi => kernel_rfl
        case h1 => simp [Value.oneCell']
        go_wp2
        go_roundw
        case rel => exact ⟨j + 1, rs ++ [(⟨nd, v, tm⟩ : Rw)], r3, by simp, by omega, hr3, HX2, Lib.hid ⟨PUT.out, REST.out⟩⟩
        case measure => simp [intOf]; omega
      · obtain rfl : j = N := by omega
        have hG2 : G = .ok rs r := by rw [HX.out.2, Nat.sub_self]; simp [rowsN, Tk.bind]
        have FIN := HI
        obtain rfl : j = rs.length := HX.out.1.symm
        subst hG2
        clear HI HX hPr HG INV
        go_wp2
        go_returns
        exact ⟨g, rfl, hz1, FIN.out⟩
end Go.Proofs.YthdflbpmabcjlaaDoor.Lt
