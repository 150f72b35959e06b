/- Texts of the law ReplicaNil, put together. -/
import Derived.Deep.MidRow
import Derived.Test.YtinjbdgjcadodaaGreatDoorRNp04
import Derived.Test.YtinjbdgjcadodaaGreatDoorRNp35
import Derived.Test.YtinjbdgjcadodaaGreatDoorRNp36
set_option linter.unusedVariables false
set_option linter.unusedSimpArgs false
set_option maxRecDepth 100000
namespace Go.Proofs.YtinjbdgjcadodaaGreatDoor.Ord
open Go Go.RowKit Words Enc Evt Seg
set_option maxHeartbeats 4000000 in
theorem hpop_any {B p n : Nat} {T : TypeId} {A : Option Addr} {c : Nat} {hs : List HV} {w : World} (hA : HeadsAt B p T A c hs w) (hH : Heap hs) (hl : hs.length = n + 1) (hn : n ≤ 1000000000) :
  Calls Tryz.prog 277 #[IH p] w fun e w' => (∃ v, e = .returned v) ∧ (∃ hs', HeadsAt B p T A c hs' w' ∧ Heap hs' ∧ (hs' ++ [HV.at_ hs 0]).Perm hs) ∧ Below B w w' ∧ Beside (mine p A) w w' := by
 have LEN := m_len p _ w hA.cell
 have SWM := m_swap p _ w hA.cell
 have SW := swap_any hA 0 n (by omega) (by omega)
 have e1 := at_swap (hs := hs) (i := 0) (j := n) (by omega) (by omega)
 have hp1 := swL_perm hs noHV 0 n (by omega) (by omega)
 have hl1 : (swL hs noHV 0 n).length = n + 1 := by rw [swL_len, hl]
 have DO : ∀ W, HeadsAt B p T A c (swL hs noHV 0 n) W → Below B w W → Beside (mine p A) w W → Calls Tryz.prog 321 #[IH p, .int .i64 0, .int .i64 (n : Int)] W (DownEnd B p T A c (n + 1) hs w (swL hs noHV 0 n) n) := fun W hW hb hbs =>
  down_any (B := B) (w0 := w) (hs0 := hs) (n := n + 1) (swL hs noHV 0 n) W n (by omega) (by omega) ⟨hW, hp1, hl1, fun x hx => hH.ne x (hp1.mem_iff.1 hx), hb, hbs⟩
   (Heaped.down0 (f := HV.at_ hs) (n := n) (fun k k1 k2 => hH.ord k k1 (by omega)) (fun k k1 k2 => by rw [e1]; unfold swp; rw [if_neg (by omega), if_neg (by omega)]) (Nat.le_refl _))
 have PO : ∀ hs2 W, Mends B p T A c (n + 1) hs w hs2 W → Heaped hvLe (HV.at_ hs2) n → (∀ k, n ≤ k → HV.at_ hs2 k = HV.at_ (swL hs noHV 0 n) k) → Calls Tryz.prog 404 #[.pointer (some ⟨p, 0, none⟩)] W fun e w' => (∃ v, e = .returned v) ∧ Hid ((∃ hs', HeadsAt B p T A c hs' w' ∧ Heap hs' ∧ (hs' ++ [HV.at_ hs 0]).Perm hs) ∧ Below B w w' ∧ Beside (mine p A) w w') := fun hs2 W hM hh hf => by
  refine (pop_any hM.at_ hM.len hn).mono ?_
  rintro e w' ⟨hv, hat, hb, hbs⟩
  refine ⟨hv, Lib.hid ⟨⟨hs2.take n, hat, ⟨?_, fun x hx => hM.ne x (List.mem_of_mem_take hx)⟩, ?_⟩, hM.below.trans hb, hM.beside.trans hbs fun x hx => .inl hx⟩⟩
  ·have : (hs2.take n).length = n := by rw [List.length_take, hM.len]; omega
   rw [this]
   intro k k1 k2
   rw [at_take k2, at_take (by omega)]
   exact hh k k1 k2
  ·have h0 : HV.at_ hs2 n = HV.at_ hs 0 := by
    rw [hf n (Nat.le_refl _), e1]
    unfold swp
    by_cases hz : n = 0
    ·subst hz; simp
    ·rw [if_neg hz, if_pos rfl]
   have h1 : hs2.take n ++ [HV.at_ hs 0] = hs2 := by
    have h3 : n < hs2.length := by rw [hM.len]; omega
    rw [← h0]
    unfold HV.at_
    rw [List.getD_eq_getElem?_getD, List.getElem?_eq_getElem h3]
    conv => rhs; rw [← List.take_append_drop n hs2]
    congr 1
    rw [List.drop_eq_getElem_cons h3, List.drop_eq_nil_of_le (by rw [hM.len]; omega)]
    rfl
   rw [h1]
   exact hM.perm
 have MP := fun W => m_pop p W
 rw [hl] at LEN SWM SW
 clear hA hH e1 hp1 hl1 hl
 have e2 : ((n + 1 : Nat) : Int) - 1 = (n : Int) := by omega
 go_enter Tryz.func277, Tryz.ntmps277
 go_wp2_with fail
 refine (len_any A (n + 1) c _).mono ?_
 rintro e w2 ⟨rfl, rfl⟩
 go_wp2_with fail
 refine SW.mono ?_
 rintro e w1 ⟨rfl, h1, hb1, hs1⟩
 go_wp2_with fail
 refine (DO w1 h1 hb1 hs1).mono ?_
 rintro e w3 ⟨⟨b, rfl⟩, hs2, hM, hh, hf⟩
 have PO1 := PO hs2 w3 hM hh hf
 have MP1 := MP w3
 clear hM hh hf PO
 go_wp2_with fail
 refine PO1.mono ?_
 rintro e w4 ⟨⟨v, rfl⟩, HF⟩
 go_wp2
 go_ret
 exact ⟨⟨_, rfl⟩, HF.out.1, HF.out.2.1, HF.out.2.2⟩
def hasEv (x : HV) : Bool := !x.S.isEmpty
theorem hasEv_iff {x : HV} : hasEv x = true ↔ x.S ≠ [] := by unfold hasEv; cases x.S <;> simp
set_option maxHeartbeats 4000000 in
theorem add_any {B p : Nat} {T : TypeId} {hs : List HV} {w : World} (h : HeapAt B p T hs w) (hB : B ≤ w.heap.size) (x : HV) (hx : Lies B w x) (hn : hs.length ≤ 1000000000) :
  Calls Tryz.prog 223 #[.pointer (some ⟨p, 0, none⟩), x.val] w fun e w' => e = .returned (.tuple #[]) ∧ (∃ hs', HeapAt B p T hs' w' ∧ hs'.Perm (hs ++ [x].filter hasEv)) ∧ Below B w w' := by
 by_cases hxn : x.S = []
 ·have hf : [x].filter hasEv = [] := by simp [hasEv, hxn]
  rw [hf, List.append_nil]
  have HF := Lib.hid h
  have hv : x.val = .slice x.A 0 x.c := by unfold HV.val; rw [hxn]; rfl
  rw [hv]
  clear h hx hf
  go_enter Tryz.func223, Tryz.ntmps223
  go_wp2
  go_end0
  exact ⟨rfl, ⟨hs, HF.out, List.Perm.refl _⟩, Below.refl _ _⟩
 ·have hf : [x].filter hasEv = [x] := by simp [hasEv_iff.2 hxn]
  rw [hf]
  have HP := hpush_any h hB x hx hxn hn
  have hl : 0 < x.S.length := List.length_pos_iff.2 hxn
  unfold HV.val at HP ⊢
  generalize x.S.length = m at *
  have hl2 : (0 : Int) < (m : Int) := by omega
  clear h hx hf hxn
  go_enter Tryz.func223, Tryz.ntmps223
  go_wp2_with fail
  refine HP.mono ?_
  rintro e w1 ⟨rfl, h1, hb1⟩
  have HF := Lib.hid (And.intro h1 hb1)
  clear h1 hb1
  go_wp2
  go_end0
  exact ⟨rfl, HF.out⟩
structure Lists (B : Nat) (w : World) (Al : Option Addr) (L : List HV) : Prop where
 row : 0 < L.length → ∃ b o, b < B ∧ Al = some ⟨b, o, none⟩ ∧ ∀ k x, L[k]? = some x → w.cell? ⟨b, o + k, none⟩ = some x.val
 lie : ∀ x ∈ L, Lies B w x
theorem Lists.below {B : Nat} {w w' : World} {Al : Option Addr} {L : List HV} (h : Lists B w Al L) (hb : Below B w w') : Lists B w' Al L :=
 ⟨fun hn => by
  obtain ⟨b, o, h1, h2, h3⟩ := h.row hn
  exact ⟨b, o, h1, h2, fun k x hx => by rw [hb.cell h1]; exact h3 k x hx⟩, fun x hx => (h.lie x hx).below hb⟩
set_option maxHeartbeats 4000000 in
theorem over_any (Al : Option Addr) (cl : Nat) (L : List HV) (w : World) (h : Lists w.heap.size w Al L) (hn : L.length ≤ 1000000000) :
  Calls Tryz.prog 162 #[.slice Al L.length cl] w fun e w' => ∃ hs, e = .returned (.pointer (some ⟨w.heap.size, 0, none⟩)) ∧ HeapAt w.heap.size w.heap.size 296 hs w' ∧ hs.Perm (L.filter hasEv) ∧ Below w.heap.size w w' := by
 have H0 : HeapAt w.heap.size w.heap.size 296 [] (w.alloc (.cells #[.slice none 0 0] 296)) :=
  ⟨⟨none, 0, heap_alloc_new w _, World.ownsRow_nil _ _ _ 1, fun a ha => (by cases ha), Nat.le_refl _, fun x hx => (by cases hx)⟩, fun k h1 h2 => by simp at h2, fun x hx => by cases hx⟩
 have B0 : Below w.heap.size w (w.alloc (.cells #[.slice none 0 0] 296)) := (Below.refl _ _).alloc (Nat.le_refl _) _
 obtain ⟨u, hu⟩ : ∃ u, u = w.alloc (.cells #[.slice none 0 0] 296) := ⟨_, rfl⟩
 rw [← hu] at H0 B0
 obtain ⟨n, hn'⟩ : ∃ n, n = L.length := ⟨_, rfl⟩
 have HL := Lib.hid h
 have HH0 := Lib.hid (And.intro H0 B0)
 have HU := Lib.hid hu
 have HN := Lib.hid hn'
 rw [← hn'] at hn ⊢
 clear h H0 B0 hu hn'
 go_enter Tryz.func162, Tryz.ntmps162
 go_wp2_with fail
 rw [← HU.out]
 go_loopw [10] (fun iv W => ∃ k : Nat, iv = .int .i64 (k : Int) ∧ k ≤ n ∧ Hid (∃ hs, HeapAt w.heap.size w.heap.size 296 hs W ∧ hs.Perm ((L.take k).filter hasEv) ∧ Below w.heap.size w W)) (fun iv _ => n - (intOf iv).toNat)
 case atStart => exact ⟨0, rfl, Nat.zero_le _, Lib.hid ⟨[], HH0.out.1, by simp, HH0.out.2⟩⟩
 case round =>
  obtain ⟨k, rfl, hk, HR⟩ := hrel
  by_cases hlt : k < n
  ·obtain ⟨hs, hA, hp, hb⟩ := HR.out
   have hkL : k < L.length := by rw [← HN.out]; exact hlt
   have hL := HL.out.below hb
   obtain ⟨lb, lo, hlb, rfl, hcell⟩ := hL.row (by omega)
   have hx := hcell k L[k] (List.getElem?_eq_getElem hkL)
   have hhs : hs.length ≤ 1000000000 := by
    rw [hp.length_eq]
    refine Nat.le_trans (List.length_filter_le _ _) ?_
    rw [List.length_take]; omega
   have AD := add_any hA hb.size L[k] (hL.lie _ (List.getElem_mem hkL)) hhs
   have NEXT : ∀ W, (∃ hs', HeapAt w.heap.size w.heap.size 296 hs' W ∧ hs'.Perm (hs ++ [L[k]].filter hasEv)) → Below w.heap.size wr W → Hid (∃ hs, HeapAt w.heap.size w.heap.size 296 hs W ∧ hs.Perm ((L.take (k + 1)).filter hasEv) ∧ Below w.heap.size w W) := fun W hW hbW => by
    obtain ⟨hs', h1, h2⟩ := hW
    refine Lib.hid ⟨hs', h1, h2.trans ?_, hb.trans hbW⟩
    rw [← List.take_append_getElem hkL, List.filter_append]
    exact hp.append_right _
   obtain ⟨xa, xn, xc, hxv⟩ : ∃ xa xn xc, L[k].val = .slice xa xn xc := ⟨_, _, _, rfl⟩
   rw [hxv] at hx AD
   have zk : (k : Int) < (n : Int) := by omega
   have zk0 : (0 : Int) ≤ (k : Int) := by omega
   have HAD := Lib.hid AD
   have HNX := Lib.hid NEXT
   clear hA hp hb hL hcell hhs AD NEXT hxv
   go_wp2_with fail
   refine HAD.out.mono ?_
   rintro e w1 ⟨rfl, h1, hb1⟩
   have HF := HNX.out w1 h1 hb1
   clear h1 hb1 HAD HNX
   go_wp2
   go_roundw
   case rel => exact ⟨k + 1, rfl, by omega, HF⟩
   case measure => simp [intOf]; omega
  ·have hkn : k = n := by omega
   subst hkn
   go_wp2
   go_ret
   obtain ⟨hs, hA, hp, hb⟩ := HR.out
   rw [HN.out, List.take_length] at hp
   exact ⟨hs, rfl, hA, hp, hb⟩
theorem flat_len_take (hs : List HV) (k : Nat) (hk : k < hs.length) : (flat (hs.take (k + 1))).length = (flat (hs.take k)).length + (HV.at_ hs k).S.length := by
 have : HV.at_ hs k = hs[k] := by simp [HV.at_, List.getD_eq_getElem?_getD, List.getElem?_eq_getElem hk]
 rw [this, ← List.take_append_getElem hk]
 unfold flat
 rw [List.flatMap_append, List.length_append]
 simp
theorem flat_len_le (hs : List HV) (k : Nat) : (flat (hs.take k)).length ≤ (flat hs).length := by
 conv => rhs; rw [← List.take_append_drop k hs]
 unfold flat
 rw [List.flatMap_append, List.length_append]
 omega
set_option maxHeartbeats 4000000 in
theorem cleft_any {B p : Nat} {T : TypeId} {A : Option Addr} {c : Nat} {hs : List HV} {w : World} (h : HeadsAt B p T A c hs w) (hm : (flat hs).length ≤ 4000000000000000000) (hnn : hs.length ≤ 1000000000) :
  Calls Tryz.prog 224 #[.pointer (some ⟨p, 0, none⟩)] w fun e w' => e = .returned (.int .i64 ((flat hs).length : Int)) ∧ w' = w := by
 have hc := h.cell
 obtain ⟨n, hn'⟩ : ∃ n, n = hs.length := ⟨_, rfl⟩
 rw [← hn'] at hc hnn
 have HN := Lib.hid hn'
 have HH := Lib.hid h
 clear hn' h
 go_enter Tryz.func224, Tryz.ntmps224
 go_wp2_with fail
 go_loopw [3, 11] (fun sv iv W => ∃ k : Nat, iv = .int .i64 (k : Int) ∧ sv = .int .i64 (((flat (hs.take k)).length : Nat) : Int) ∧ k ≤ n ∧ w = W) (fun _ iv _ => n - (intOf iv).toNat)
 case atStart => exact ⟨0, rfl, by simp [flat], Nat.zero_le _, rfl⟩
 case round =>
  obtain ⟨k, rfl, rfl, hk, rfl⟩ := hrel
  by_cases hlt : k < n
  ·have hkL : k < hs.length := by rw [← HN.out]; exact hlt
   obtain ⟨g, rfl, _, _, hcell⟩ := HH.out.get (by omega)
   have hx := hcell k hkL
   have hs1 := flat_len_take hs k hkL
   have hs2 := flat_len_le hs (k + 1)
   unfold HV.val at hx
   generalize (flat (hs.take k)).length = s at *
   generalize (HV.at_ hs k).S.length = m at *
   generalize (HV.at_ hs k).A = xa at *
   generalize (HV.at_ hs k).c = xc at *
   have zk : (k : Int) < (n : Int) := by omega
   have zk0 : (0 : Int) ≤ (k : Int) := by omega
   have zb : (s : Int) + (m : Int) ≤ 4000000000000000000 := by omega
   have HS := Lib.hid hs1
   clear hcell hs1 hs2
   go_wp2
   go_roundw
   case rel => exact ⟨k + 1, rfl, by rw [HS.out]; simp, by omega, trivial⟩
   case measure => simp [intOf]; omega
  ·have hkn : k = n := by omega
   have e : hs.take k = hs := by rw [hkn, HN.out, List.take_length]
   rw [e]
   subst hkn
   clear e
   obtain ⟨s, hsl⟩ : ∃ s, (flat hs).length = s := ⟨_, rfl⟩
   rw [hsl]
   have HSL := Lib.hid hsl
   rw [hsl] at hm
   clear hsl
   go_wp2
   go_ret
   exact ⟨by rw [HSL.out]; rfl, rfl⟩
def zeroE : Array Value := #[.int .i64 0, .int .u64 0, .int .u64 0, .int .u8 0, .string ⟨#[]⟩, .slice none 0 0, .float .f64 0, .int .i64 0]
def zeroEV : Value := .agg zeroE
def HV.rest (h : HV) : HV := ⟨h.A.map fun a => ⟨a.block, a.off + 8, none⟩, h.c - 1, h.S.tail⟩
theorem rowsL_tail {S : List EvS} (hS : S ≠ []) (j : Nat) : (rowsL S.tail)[j]? = (rowsL S)[8 + j]? := by
 cases S with
 | nil => exact absurd rfl hS
 | cons a l => rw [rowsL, List.getElem?_append_right (by rw [EvS.cells_len]; omega), EvS.cells_len, show 8 + j - 8 = j by omega]; rfl
theorem Lies.rest {B : Nat} {w : World} {h : HV} (hl : Lies B w h) (hn : h.S ≠ []) : Lies B w h.rest := by
 have hp := List.length_pos_iff.2 hn
 refine ⟨⟨by simp [HV.rest]; have := hl.1.1; omega, by have := hl.1.2; simp [HV.rest]; omega⟩, fun h0 => ?_⟩
 obtain ⟨b, o, h1, h2, h3⟩ := hl.2 hp
 refine ⟨b, o + 8, h1, by simp [HV.rest, h2], fun j v hv => ?_⟩
 rw [show o + 8 + j = o + (8 + j) by omega]
 refine h3 (8 + j) v ?_
 rw [← rowsL_tail hn]
 exact hv
structure Step1 (hs hs' : List HV) : Prop where
 heap : Heap hs'
 flat : ((HV.at_ hs 0).one :: flat hs').Perm (flat hs)
 sub : ∀ x ∈ hs', x ∈ hs ∨ x = (HV.at_ hs 0).rest
theorem one_cons {h : HV} (hn : h.S ≠ []) : h.S = h.one :: h.S.tail := by
 unfold HV.one
 cases hS : h.S with
 | nil => exact absurd hS hn
 | cons a l => rfl
theorem at_zero {h : HV} {t : List HV} : HV.at_ (h :: t) 0 = h := rfl
theorem Step1.of_fix {hs hs' : List HV} (h0 : 0 < hs.length) (hne : (HV.at_ hs 0).S ≠ []) (hh : Heap hs') (hp : hs'.Perm (hs.set 0 (HV.at_ hs 0).rest)) : Step1 hs hs' := by
 cases hs with
 | nil => simp at h0
 | cons a t =>
   rw [at_zero] at *
   rw [List.set_cons_zero] at hp
   refine ⟨hh, ?_, fun x hx => ?_⟩
   ·refine ((flat_perm hp).cons _).trans ?_
    rw [at_zero]
    unfold Ord.flat
    rw [List.flatMap_cons, List.flatMap_cons]
    conv => rhs; rw [one_cons hne]
    exact List.Perm.refl _
   ·rcases List.mem_cons.1 (hp.mem_iff.1 hx) with rfl | h
    ·exact .inr rfl
    ·exact .inl (List.mem_cons_of_mem _ h)
theorem Step1.of_pop {hs hs' : List HV} (h0 : 0 < hs.length) (hne : (HV.at_ hs 0).S.length = 1) (hh : Heap hs') (hp : (hs' ++ [HV.at_ hs 0]).Perm hs) : Step1 hs hs' := by
 cases hs with
 | nil => simp at h0
 | cons a t =>
   rw [at_zero] at *
   have hp2 : hs'.Perm t := by
    have := List.perm_append_comm.symm.trans hp
    exact List.Perm.cons_inv this
   have hS : a.S = [a.one] := by
    have h1 := one_cons (h := a) (by intro e; rw [e] at hne; simp at hne)
    have : a.S.tail = [] := List.eq_nil_of_length_eq_zero (by rw [List.length_tail, hne])
    rw [this] at h1
    exact h1
   refine ⟨hh, ?_, fun x hx => .inl (List.mem_cons_of_mem _ (hp2.mem_iff.1 hx))⟩
   rw [at_zero]
   refine ((flat_perm hp2).cons _).trans ?_
   unfold Ord.flat
   rw [List.flatMap_cons, hS]
   exact List.Perm.refl _
def NextGives (B p : Nat) (T : TypeId) (A : Option Addr) (c : Nat) (hs : List HV) (w : World) (e : Ending) (w' : World) : Prop :=
 e = .returned (.tuple #[(HV.at_ hs 0).one.e.val (HV.at_ hs 0).one.A (HV.at_ hs 0).one.n (HV.at_ hs 0).one.c, .bool true]) ∧ (∃ hs', HeadsAt B p T A c hs' w' ∧ Step1 hs hs') ∧ Below B w w' ∧ Beside (mine p A) w w'
set_option maxHeartbeats 4000000 in
theorem next_any {B p : Nat} {T : TypeId} {A : Option Addr} {c : Nat} {hs : List HV} {w : World} (h : HeadsAt B p T A c hs w) (hH : Heap hs) (hn0 : 0 < hs.length) (hn : hs.length ≤ 1000000000) :
  Calls Tryz.prog 225 #[.pointer (some ⟨p, 0, none⟩)] w (NextGives B p T A c hs w) := by
 have hsf := store_float Tryz.prog
 have hps := (Array.getElem?_eq_some_iff.1 h.box).1
 have hu := h.below ((Below.refl w.heap.size w).alloc (Nat.le_refl _) (.cells zeroE 38))
 have g0 := heap_alloc_new w (.cells zeroE 38)
 have b0 := (Below.refl w.heap.size w).alloc (Nat.le_refl _) (.cells zeroE 38)
 obtain ⟨u, hue⟩ : ∃ u, u = w.alloc (.cells zeroE 38) := ⟨_, rfl⟩
 rw [← hue] at hu g0 b0
 unfold zeroE at hue g0
 have HU := Lib.hid hue
 clear hue
 obtain ⟨g, rfl, hg, hgp, hcell⟩ := hu.get hn0
 have hgs : g < w.heap.size := by
  obtain ⟨g', e, _, _, hc'⟩ := h.get hn0
  cases e
  exact World.block_lt_of_cell? _ _ (hc' 0 hn0)
 have hne : (HV.at_ hs 0).S ≠ [] := hH.ne _ (at_mem hn0)
 have hrb : w.heap.size ∉ mine p (some ⟨g, 0, none⟩) := by simp [mine]; omega
 have hlow : ∀ x ∈ mine p (some ⟨g, 0, none⟩), B ≤ x := mine_low h.low (fun a ha => by cases ha; exact hg)
 have hcp := hu.cell
 have hc0 := hcell 0 hn0
 have hf0 := hu.frz 0
 obtain ⟨b, o, hbB, hAb, f0, f1, f2, f3, f4, f5, f6, f7⟩ := (hu.lie _ (at_mem hn0)).first hne
 have hcap := (hu.lie _ (at_mem hn0)).1
 -- what comes behind the calls
 have FIN : ∀ W hs', HeadsAt B p T (some ⟨g, 0, none⟩) c hs' W → Step1 hs hs' → Below B u W → Beside (mine p (some ⟨g, 0, none⟩)) u W →
   W.heap[w.heap.size]? = some (.cells #[.int .i64 0, .int .u64 0, .int .u64 0, .int .u8 0, .string ⟨#[]⟩, .slice none 0 0, .float .f64 0, .int .i64 0] 38 (0, 0)) ∧ (W.cell? ⟨b, o, none⟩ = some (.int .i64 (HV.at_ hs 0).one.e.writer) ∧ W.cell? ⟨b, o + 1, none⟩ = some (.int .u64 ((HV.at_ hs 0).one.e.seq : Int)) ∧ W.cell? ⟨b, o + 2, none⟩ = some (.int .u64 ((HV.at_ hs 0).one.e.time : Int)) ∧ W.cell? ⟨b, o + 3, none⟩ = some (.int .u8 ((HV.at_ hs 0).one.e.kind : Int)) ∧ W.cell? ⟨b, o + 4, none⟩ = some (.string (HV.at_ hs 0).one.e.key) ∧ W.cell? ⟨b, o + 5, none⟩ = some (.slice (HV.at_ hs 0).one.A (HV.at_ hs 0).one.n (HV.at_ hs 0).one.c) ∧ W.cell? ⟨b, o + 6, none⟩ = some (.float .f64 (HV.at_ hs 0).one.e.num) ∧ W.cell? ⟨b, o + 7, none⟩ = some (.int .i64 (HV.at_ hs 0).one.e.node)) ∧ Hid (∀ W5, Beside [w.heap.size] W W5 → ∃ e, e = Ending.returned (.tuple #[(HV.at_ hs 0).one.e.val (HV.at_ hs 0).one.A (HV.at_ hs 0).one.n (HV.at_ hs 0).one.c, .bool true]) ∧ NextGives B p T (some ⟨g, 0, none⟩) c hs w e W5) := fun W hs' hh hst hb hbs => by
  have old : ∀ {q : Addr} {v : Value}, q.block < B → u.cell? q = some v → W.cell? q = some v := fun {q v} hq hv => by rw [hb.cell hq]; exact hv
  refine ⟨(hbs.block _ (Array.getElem?_eq_some_iff.1 g0).1 hrb).trans g0, ⟨old hbB f0, old hbB f1, old hbB f2, old hbB f3, old hbB f4, old hbB f5, old hbB f6, old hbB f7⟩, Lib.hid fun W5 h5 => ⟨_, rfl, rfl, ⟨hs', ?_, hst⟩, ?_, ?_⟩⟩
  ·have hbx : Below B W W5 := Below.beside (Below.refl B W) h5 (by have := hh.low; have := (Array.getElem?_eq_some_iff.1 hh.box).1; omega) (fun x hx => by simp at hx; subst hx; have := h.low; omega)
   have hge : ∀ k, k ∈ mine p (some ⟨g, 0, none⟩) → k ≠ w.heap.size := fun k hk e => hrb (e ▸ hk)
   refine ⟨(h5.block p (Array.getElem?_eq_some_iff.1 hh.box).1 (by simpa using hge p (by simp [mine]))).trans hh.box, ⟨hh.own.1, ?_⟩, hh.apart, hh.low, fun x hx => (hh.lie x hx).below hbx⟩
   rcases hh.own.2 with hn | ⟨g', cap, cur, hv, hg', hhh, r⟩
   ·exact .inl hn
   ·have : g' = g := by injection hv with e1 _ _; injection e1 with e1; injection e1 with e1; exact e1.symm
    subst this
    exact .inr ⟨g', cap, cur, hv, hg', (h5.block g' (Array.getElem?_eq_some_iff.1 hhh).1 (by simpa using hge g' (by simp [mine]))).trans hhh, r⟩
  ·have : B ≤ w.heap.size := by have := h.low; omega
   exact ((b0.mono this).trans hb).trans (Below.beside (Below.refl B W) h5 (by have := hb.size; have := b0.size; omega) (fun x hx => by simp at hx; subst hx; exact this))
  ·exact ((Beside.of_below b0 _).trans hbs fun x hx => .inl hx).trans h5 fun x hx => .inr (by simp at hx; omega)
 have FX : 1 < (HV.at_ hs 0).S.length → ∀ W, W = (u.setCell ⟨g, 0, none⟩ (HV.at_ hs 0).rest.val).drew → Calls Tryz.prog 276 #[IH p, .int .i64 0] W fun e w' => e = .returned (.tuple #[]) ∧ ∃ hs', HeadsAt B p T (some ⟨g, 0, none⟩) c hs' w' ∧ Step1 hs hs' ∧ Below B u w' ∧ Beside (mine p (some ⟨g, 0, none⟩)) u w' := fun hlen W hW => by
  obtain ⟨q1, q2, _⟩ := hu.set 0 hn0 (HV.at_ hs 0).rest ((hu.lie _ (at_mem hn0)).rest hne)
  have hrn : (HV.at_ hs 0).rest.S ≠ [] := fun e => by have := congrArg List.length e; simp [HV.rest] at this; omega
  have hD : DownInv hvLe (HV.at_ (hs.set 0 (HV.at_ hs 0).rest)) (hs.set 0 (HV.at_ hs 0).rest).length 0 := by
   rw [List.length_set]
   exact Heaped.down0 hH.ord (fun k k1 k2 => at_set_ne (by omega)) (Nat.le_refl _)
  have hne2 : ∀ x ∈ hs.set 0 (HV.at_ hs 0).rest, x.S ≠ [] := fun x hx => by
   rcases List.mem_or_eq_of_mem_set hx with h | rfl
   ·exact hH.ne x h
   ·exact hrn
  have hfx := hfix_any (q1.drew) hne2 (by simpa using hn0) hD (by simpa using hn)
  rw [← hW] at hfx
  refine hfx.mono ?_
  rintro e w' ⟨rfl, ⟨hs', k1, k2, k3⟩, k4, k5⟩
  refine ⟨rfl, hs', k1, Step1.of_fix hn0 hne k2 k3, ?_, ?_⟩
  ·have : Below B u W := by rw [hW]; exact q2.drew
   exact this.trans k4
  ·have : Beside (mine p (some ⟨g, 0, none⟩)) u W := by rw [hW]; exact ((Beside.refl _ u).setCell (by simp [mine]) _).drew
   exact this.trans k5 fun x hx => .inl hx
 have PO : (HV.at_ hs 0).S.length = 1 → Calls Tryz.prog 277 #[IH p] u fun e w' => (∃ v, e = .returned v) ∧ ∃ hs', HeadsAt B p T (some ⟨g, 0, none⟩) c hs' w' ∧ Step1 hs hs' ∧ Below B u w' ∧ Beside (mine p (some ⟨g, 0, none⟩)) u w' := fun hlen => by
  obtain ⟨m, hm⟩ : ∃ m, hs.length = m + 1 := ⟨hs.length - 1, by omega⟩
  refine (hpop_any hu hH hm (by omega)).mono ?_
  rintro e w' ⟨hv, ⟨hs', k1, k2, k3⟩, k4, k5⟩
  exact ⟨hv, hs', k1, Step1.of_pop hn0 hlen k2 k3, k4, k5⟩
 have hz1 : 0 < (HV.at_ hs 0).S.length := List.length_pos_iff.2 hne
 have hrv : (HV.at_ hs 0).rest.val = .slice (some ⟨b, o + 8, none⟩) ((HV.at_ hs 0).S.length - 1) ((HV.at_ hs 0).c - 1) := by
  simp [HV.val, HV.rest, hAb]
 rw [hrv] at FX
 unfold HV.val at hc0
 rw [hAb] at hc0
 have HFIN := Lib.hid FIN
 have HPO := Lib.hid PO
 have HFX := Lib.hid FX
 clear FIN PO FX h hu hcell hH hne hrb hlow hAb hrv f0 f1 f2 f3 f4 f5 f6 f7 g0 b0
 generalize (HV.at_ hs 0).S.length = m at *
 generalize (HV.at_ hs 0).c = cm at *
 generalize (HV.at_ hs 0).one = r at *
 generalize hs.length = n at *
 have zn : ((n : Int) == 0) = false := by rw [beq_eq_false_iff_ne]; omega
 have zn2 : (0 : Int) < (n : Int) := by omega
 by_cases hm1 : 1 < m
 ·have zm : (1 : Int) < (m : Int) := by omega
  have zm2 : 1 ≤ m := by omega
  have zm3 : ¬ cm = 1 := by omega
  have zm4 : m ≤ cm := hcap.1
  go_enter Tryz.func225, Tryz.ntmps225
  go_upto_region 1 with fail
  rw [← HU.out]
  go_wp2_with fail
  go_region
  all_goals go_wp2_with fail
  refine (HFX.out hm1 _ rfl).mono ?_
  rintro e w2 ⟨rfl, hs', q1, q2, q3, q4⟩
  obtain ⟨G2, ⟨k0, k1, k2, k3, k4, k5, k6, k7⟩, HF⟩ := HFIN.out w2 hs' q1 q2 q3 q4
  have HG2 := Lib.hid G2
  clear G2 q1 q2 q3 q4 HFIN HPO HFX
  go_wp2_with (first
   | (refine wpList_putRow rfl 38 (.tmp 2) (.tmp 44) rfl w.heap.size 38 zeroE (r.e.row r.A r.n r.c) rfl rfl ?g2 (by kernel_rfl) rfl (by simp [Ev.row, Value.oneCell']) ?_))
  case g2 => exact HG2.out
  intro W5 hW5 hbe5
  obtain ⟨e5, he5, hng⟩ := HF.out W5 hbe5
  subst he5
  unfold Ev.row at hW5
  obtain ⟨m0, m1, m2, m3, m4, m5, m6, m7⟩ := box8 hW5
  have HNG := Lib.hid hng
  clear hW5 hbe5 hng
  go_wp2
  refine bodyPost_ret (v := .tuple #[r.e.val r.A r.n r.c, .bool true]) ?_ rfl HNG.out
  simp [results, Ev.val, Ev.row, Tryz.results225, go_sem, m0, m1, m2, m3, m4, m5, m6, m7]
 ·have hm2 : m = 1 := by omega
  subst hm2
  go_enter Tryz.func225, Tryz.ntmps225
  go_upto_region 1 with fail
  rw [← HU.out]
  go_wp2_with fail
  refine (HPO.out trivial).mono ?_
  rintro e w2 ⟨⟨v, rfl⟩, hs', q1, q2, q3, q4⟩
  obtain ⟨G2, ⟨k0, k1, k2, k3, k4, k5, k6, k7⟩, HF⟩ := HFIN.out w2 hs' q1 q2 q3 q4
  have HG2 := Lib.hid G2
  clear G2 q1 q2 q3 q4 HFIN HPO HFX
  go_wp2_with (first
   | (refine wpList_putRow rfl 38 (.tmp 2) (.tmp 44) rfl w.heap.size 38 zeroE (r.e.row r.A r.n r.c) rfl rfl ?g2 (by kernel_rfl) rfl (by simp [Ev.row, Value.oneCell']) ?_))
  case g2 => exact HG2.out
  intro W5 hW5 hbe5
  obtain ⟨e5, he5, hng⟩ := HF.out W5 hbe5
  subst he5
  unfold Ev.row at hW5
  obtain ⟨m0, m1, m2, m3, m4, m5, m6, m7⟩ := box8 hW5
  have HNG := Lib.hid hng
  clear hW5 hbe5 hng
  go_wp2
  refine bodyPost_ret (v := .tuple #[r.e.val r.A r.n r.c, .bool true]) ?_ rfl HNG.out
  simp [results, Ev.val, Ev.row, Tryz.results225, go_sem, m0, m1, m2, m3, m4, m5, m6, m7]
theorem clipB (A : Option Addr) (n c : Nat) (w : World) (hc : n ≤ c) :
  Calls Tryz.prog 73 #[.slice A n c] w fun e w' => e = .returned (.slice A n n) ∧ w' = w := by
 go_enter Tryz.func73, Tryz.ntmps73
 go_wp2
 go_ret
 exact ⟨rfl, rfl⟩
def OwnGives (r : EvS) (w : World) (e : Ending) (w' : World) : Prop :=
 ∃ r' : EvS, e = .returned (r'.e.val r'.A r'.n r'.c) ∧ r'.e = r.e ∧ Sees w' r'.A r'.n r.e.text ∧ r'.n ≤ r'.c ∧ r'.c ≤ 9223372036854775807 ∧ (0 < r'.n → ∀ a, r'.A = some a → w.heap.size ≤ a.block) ∧ Below w.heap.size w w'
set_option maxHeartbeats 4000000 in
theorem own_any (r : EvS) (w : World) (hs : Sees w r.A r.n r.e.text) (hn : r.n ≤ 1000000000) :
  Calls Tryz.prog 226 #[r.e.val r.A r.n r.c] w (OwnGives r w) := by
 have hsf := store_float Tryz.prog
 obtain ⟨u, hu⟩ : ∃ u, u = (w.alloc (.cells r.cells.toArray 38)).alloc (.cells #[.int .i64 0, .int .u64 0, .int .u64 0, .int .u8 0, .string ⟨#[]⟩, .slice none 0 0, .float .f64 0, .int .i64 0] 38) := ⟨_, rfl⟩
 have hb1 : Below w.heap.size w u := by rw [hu]; exact ((Below.refl _ _).alloc (Nat.le_refl _) _).alloc (by simp) _
 have g1 : u.heap[w.heap.size]? = some (.cells r.cells.toArray 38 (0, 0)) := by rw [hu]; exact (Below.heap_alloc _ _ _ (by simp)).trans (heap_alloc_new w _)
 have g2 : u.heap[w.heap.size + 1]? = some (.cells #[.int .i64 0, .int .u64 0, .int .u64 0, .int .u8 0, .string ⟨#[]⟩, .slice none 0 0, .float .f64 0, .int .i64 0] 38 (0, 0)) := by
  have := heap_alloc_new (w.alloc (.cells r.cells.toArray 38)) (.cells #[.int .i64 0, .int .u64 0, .int .u64 0, .int .u8 0, .string ⟨#[]⟩, .slice none 0 0, .float .f64 0, .int .i64 0] 38)
  rw [hu]
  rwa [World.size_alloc] at this
 have hz : u.heap.size = w.heap.size + 2 := by rw [hu]; simp
 have hcl := Dsk.clone_bytes r.A r.n r.c r.e.text u (hs.below hb1) (by omega)
 obtain ⟨c0, c1, c2, c3, c4, c5, c6, c7⟩ := cells8 g1
 have HG := Lib.hid (And.intro g1 (And.intro g2 (And.intro hz hb1)))
 unfold EvS.cells at hu
 have HU := Lib.hid hu
 have HCL := Lib.hid hcl
 clear hu hb1 g1 g2 hz hcl
 unfold Ev.val
 go_enter Tryz.func226, Tryz.ntmps226
 go_upto_region 1 with fail
 rw [← HU.out]
 go_wp2_with fail
 refine HCL.out.mono ?_
 rintro e w1 ⟨A', c', rfl, hown, hb⟩
 obtain ⟨hg1, hg2, hz, hb1⟩ := HG.out
 have hnc := (own_cap8 hown).1
 have k1 := (hb.block w.heap.size (by omega)).trans hg1
 have k2 := (hb.block (w.heap.size + 1) (by omega)).trans hg2
 obtain ⟨m0, m1, m2, m3, m4, m5, m6, m7⟩ := cells8 k1
 have hf5 : w1.frozen? ⟨w.heap.size, 5, none⟩ = false := frozen_row0 k1
 have b1 : Below w.heap.size w w1 := hb1.trans (hb.mono (by omega))
 have ne1 : ¬ w.heap.size = w.heap.size + 1 := by omega
 have SEEN : Sees w1 A' r.n r.e.text := Sees.of_own hown
 have FR : 0 < r.n → ∀ a, A' = some a → w.heap.size + 2 ≤ a.block := fun h0 a ha => by
  obtain ⟨g, hg, hb⟩ := own_at8 hown h0
  rw [hg] at ha; cases ha
  show w.heap.size + 2 ≤ g
  omega
 have k3 : ∀ v, (w1.setCell ⟨w.heap.size, 5, none⟩ v).heap[w.heap.size + 1]? = some (.cells #[.int .i64 0, .int .u64 0, .int .u64 0, .int .u8 0, .string ⟨#[]⟩, .slice none 0 0, .float .f64 0, .int .i64 0] 38 (0, 0)) := fun v => (heapOther (by omega)).trans k2
 have HF := Lib.hid (And.intro SEEN (And.intro FR (And.intro b1 k3)))
 clear hg1 hg2 hz hb1 hown hb k1 k2 b1 SEEN FR k3
 go_wp2_with fail
 refine (clipB A' r.n c' w1 hnc).mono ?_
 rintro e w2 ⟨rfl, rfl⟩
 go_wp2_with (first
  | (refine wpList_putRow rfl 38 (.tmp 2) (.tmp 8) rfl (w.heap.size + 1) 38 #[.int .i64 0, .int .u64 0, .int .u64 0, .int .u8 0, .string ⟨#[]⟩, .slice none 0 0, .float .f64 0, .int .i64 0] (r.e.row A' r.n r.n) rfl rfl ?g2 (by kernel_rfl) rfl (by simp [Ev.row, Value.oneCell']) ?_))
 case g2 => exact HF.out.2.2.2 _
 intro W5 hW5 hbe5
 unfold Ev.row at hW5
 obtain ⟨q0, q1, q2, q3, q4, q5, q6, q7⟩ := box8 hW5
 obtain ⟨SEEN, FR, b1, _⟩ := HF.out
 have OG : OwnGives r w (.returned (r.e.val A' r.n r.n)) W5 := by
  have hcap : r.n ≤ 9223372036854775807 := by omega
  refine ⟨⟨r.e, A', r.n, r.n⟩, rfl, rfl, ?_, Nat.le_refl _, hcap, fun h0 a ha => by have := FR h0 a ha; omega, ?_⟩
  ·refine (SEEN.beside (S := [w.heap.size, w.heap.size + 1]) (((Beside.refl _ _).setCell (p := ⟨w.heap.size, 5, none⟩) (by simp) _).trans hbe5 fun x hx => .inl (by simp at hx; simp [hx])) fun h0 a ha => ?_)
   have := FR h0 a ha
   simp
   omega
  ·exact Below.beside (b1.setCell (p := ⟨w.heap.size, 5, none⟩) (Nat.le_refl _) _) hbe5 (by have := b1.size; simp; omega) (by simp)
 have HOG := Lib.hid OG
 clear OG SEEN FR b1 hW5 hbe5
 go_wp2
 refine bodyPost_ret (v := r.e.val A' r.n r.n) ?_ rfl HOG.out
 simp [results, Ev.val, Tryz.results226, go_sem, q0, q1, q2, q3, q4, q5, q6, q7]
structure Taken (hs : List HV) (rs : List EvS) (hs' : List HV) : Prop where
 perm : (rs ++ flat hs').Perm (flat hs)
 rise : Rises rs
 le : ∀ r ∈ rs, ∀ e ∈ flat hs', evLe r e
 rises : ∀ x ∈ hs', Rises x.S
 heap : Heap hs'
theorem Taken.nil {hs : List HV} (h : Heap hs) (hr : ∀ x ∈ hs, Rises x.S) : Taken hs [] hs := ⟨by simp, List.Pairwise.nil, fun r hr => (by cases hr), hr, h⟩
theorem Taken.next {hs hs1 hs2 : List HV} {rs : List EvS} (h : Taken hs rs hs1) (hs12 : Step1 hs1 hs2) (hn0 : 0 < hs1.length) : Taken hs (rs ++ [(HV.at_ hs1 0).one]) hs2 := by
 have hmin := h.heap.least h.rises
 have hmem : (HV.at_ hs1 0).one ∈ flat hs1 := List.mem_flatMap.2 ⟨_, at_mem hn0, one_mem (h.heap.ne _ (at_mem hn0))⟩
 have hsub : ∀ e ∈ flat hs2, e ∈ flat hs1 := fun e he => hs12.flat.mem_iff.1 (List.mem_cons_of_mem _ he)
 refine ⟨?_, ?_, fun r hr e he => ?_, fun x hx => ?_, hs12.heap⟩
 ·rw [List.append_assoc]
  exact (hs12.flat.append_left rs).trans h.perm
 ·refine List.pairwise_append.2 ⟨h.rise, List.pairwise_singleton _ _, fun a ha b hb => ?_⟩
  rw [List.mem_singleton.1 hb]
  exact h.le a ha _ hmem
 ·rcases List.mem_append.1 hr with hr | hr
  ·exact h.le r hr e (hsub e he)
  ·rw [List.mem_singleton.1 hr]
   exact hmin e (hsub e he)
 ·rcases hs12.sub x hx with hx | rfl
  ·exact h.rises x hx
  ·have := h.rises _ (at_mem hn0)
   exact this.sublist (List.tail_sublist _)
structure TextLow (B : Nat) (w : World) (r : EvS) : Prop where
 sees : Sees w r.A r.n r.e.text
 few : r.n ≤ 1000000000
 low : 0 < r.n → ∀ a, r.A = some a → a.block < B
theorem sees_below {B : Nat} {w w' : World} {A : Option Addr} {n : Nat} {l : List UInt8} (h : Sees w A n l) (hb : Below B w w') (hl : 0 < n → ∀ a, A = some a → a.block < B) : Sees w' A n l := by
 refine ⟨h.1, fun hn => ?_⟩
 obtain ⟨b, o, hA, hc⟩ := h.2 hn
 have hlt : b < B := hl hn _ hA
 exact ⟨b, o, hA, fun j u hu => by rw [hb.cell (p := ⟨b, o + j, none⟩) hlt]; exact hc j u hu⟩
theorem TextLow.below {B : Nat} {w w' : World} {r : EvS} (h : TextLow B w r) (hb : Below B w w') : TextLow B w' r := ⟨sees_below h.sees hb h.low, h.few, h.low⟩
structure TextNew (g : Nat) (w : World) (r : EvS) : Prop where
 sees : Sees w r.A r.n r.e.text
 cap : r.n ≤ r.c ∧ r.c ≤ 9223372036854775807
 new : 0 < r.n → ∀ a, r.A = some a → g < a.block
theorem TextNew.beside {g : Nat} {w w' : World} {r : EvS} (h : TextNew g w r) {S : List Nat} (hb : Beside S w w') (hS : ∀ x ∈ S, x ≤ g) : TextNew g w' r :=
 ⟨h.sees.beside hb fun hn a ha hm => by have := h.new hn a ha; have := hS _ hm; omega, h.cap, h.new⟩
structure RowAt (g m : Nat) (S : List EvS) (w : World) : Prop where
 row : ∃ cur : Array Value, w.heap[g]? = some (.cells cur 38 (0, 0)) ∧ cur.size = m * 8 ∧ ∀ (j : Nat) (v : Value), (rowsL S)[j]? = some v → cur[j]? = some v
 text : ∀ r ∈ S, TextNew g w r
theorem RowAt.beside {g m : Nat} {S : List EvS} {w w' : World} (h : RowAt g m S w) {L : List Nat} (hb : Beside L w w') (hL : ∀ x ∈ L, x < g) : RowAt g m S w' := by
 obtain ⟨⟨cur, h1, h2, h3⟩, h4⟩ := h
 refine ⟨⟨cur, (hb.block g (Array.getElem?_eq_some_iff.1 h1).1 (fun hm => by have := hL g hm; omega)).trans h1, h2, h3⟩, fun r hr => (h4 r hr).beside hb fun x hx => by have := hL x hx; omega⟩
theorem setCells_beside (b : Nat) : ∀ (vs : List Value) (o : Nat) (w : World), Beside [b] w (w.setCells b o vs)
 | [], o, w => Beside.refl _ _
 | v :: r, o, w => ((Beside.refl [b] w).setCell (p := ⟨b, o, none⟩) (by simp) v).trans (setCells_beside b r (o + 1) _) fun x hx => .inl hx
theorem setCells_heap (b : Nat) (T : TypeId) (f : Nat × Nat) : ∀ (vs : List Value) (o : Nat) (w : World) (cur : Array Value), w.heap[b]? = some (.cells cur T f) →
  ∃ cur', (w.setCells b o vs).heap[b]? = some (.cells cur' T f) ∧ cur'.size = cur.size ∧ (∀ i, i < o ∨ o + vs.length ≤ i → cur'[i]? = cur[i]?) ∧ (∀ j, j < vs.length → o + j < cur.size → cur'[o + j]? = vs[j]?)
 | [], o, w, cur, h => ⟨cur, h, rfl, fun i _ => rfl, fun j hj => by simp at hj⟩
 | v :: r, o, w, cur, h => by
   obtain ⟨cur', h1, h2, h3, h4⟩ := setCells_heap b T f r (o + 1) (w.setCell ⟨b, o, none⟩ v) (cur.setIfInBounds o v) (heapSame h)
   refine ⟨cur', h1, by rw [h2]; simp, fun i hi => ?_, fun j hj hs => ?_⟩
   ·rw [h3 i (by simp at hi; omega), Array.getElem?_setIfInBounds_ne (by simp at hi; omega)]
   ·rcases j with _ | j
    ·rw [Nat.add_zero, h3 o (by omega)]
     simp at hs
     simp [Array.getElem?_setIfInBounds, hs]
    ·have := h4 j (by simpa using hj) (by simp; omega)
     rw [show o + (j + 1) = o + 1 + j by omega, this]
     simp
theorem RowAt.there {g m : Nat} {S : List EvS} {w : World} (h : RowAt g m S w) (hS : S.length < m) : w.there g (S.length * 8) 8 := by
 obtain ⟨⟨cur, h1, h2, h3⟩, h4⟩ := h
 intro j hj
 refine ⟨?_, frozen_row0 h1⟩
 rw [cell_of_row w g _ _ _ _ h1, Array.getElem?_eq_getElem (by omega)]
 rfl
theorem RowAt.put {g m : Nat} {S : List EvS} {w : World} (h : RowAt g m S w) (hS : S.length < m) (r : EvS) (hr : TextNew g w r) : RowAt g m (S ++ [r]) (w.setCells g (S.length * 8) r.cells) := by
 obtain ⟨⟨cur, h1, h2, h3⟩, h4⟩ := h
 obtain ⟨cur', k1, k2, k3, k4⟩ := setCells_heap g 38 (0, 0) r.cells (S.length * 8) w cur h1
 have hb := setCells_beside g r.cells (S.length * 8) w
 refine ⟨⟨cur', k1, by rw [k2, h2], fun j v hv => ?_⟩, fun x hx => ?_⟩
 ·rw [rowsL_append] at hv
  by_cases hj : j < (rowsL S).length
  ·rw [List.getElem?_append_left hj] at hv
   rw [k3 j (.inl (by rw [rowsL_len] at hj; exact hj))]
   exact h3 j v hv
  ·rw [List.getElem?_append_right (by omega), rowsL_len] at hv
   simp only [rowsL, List.append_nil] at hv
   rw [rowsL_len] at hj
   have hjl : j - S.length * 8 < r.cells.length := (List.getElem?_eq_some_iff.1 hv).1
   have := k4 (j - S.length * 8) hjl (by rw [EvS.cells_len] at hjl; omega)
   rw [show S.length * 8 + (j - S.length * 8) = j by omega] at this
   rw [this, hv]
 ·have hb2 : ∀ x ∈ [g], x ≤ g := by simp
  rcases List.mem_append.1 hx with hx | hx
  ·exact (h4 x hx).beside hb hb2
  ·rw [List.mem_singleton.1 hx]; exact hr.beside hb hb2
theorem infoEv : (Tryz.prog.info? 38).map (fun i => (i.zero, i.size, i.bytes)) = some (some zeroEV, 8, 88) := by kernel_rfl
theorem make_ev (W : World) (kk : Nat) (hk : kk ≤ 1000000000) : (Instr.makeSlice 26 (.int .i64 (kk : Int)) (.int .i64 (kk : Int))).run Tryz.prog W = .ok (.slice (some ⟨W.heap.size, 0, none⟩) kk kk) (W.alloc (.cells (madeCells zeroE (kk * 8)) 38)) := by
 obtain ⟨i, hi, hz, hsz, hby⟩ := info_parts infoEv
 have := run_make (P := Tryz.prog) W 26 38 i zeroEV Tryz.underlying26 hi hz .i64 .i64 (kk : Int) (kk : Int) (by omega) (Int.le_refl _) (by rw [hby]; omega) (by omega)
 rw [this, hsz]
 simp only [Int.toNat_natCast]
 rfl
theorem RowAt.made (w : World) (m : Nat) : RowAt w.heap.size m [] (w.alloc (.cells (madeCells zeroE (m * 8)) 38)) :=
 ⟨⟨_, heap_alloc_new w _, size_madeCells _ _, fun j v hv => by simp [rowsL] at hv⟩, fun r hr => by cases hr⟩
end Go.Proofs.YtinjbdgjcadodaaGreatDoor.Ord
