/- Texts of the law ReplicaNil, put together. -/
import Derived.Laws.RangeAny
import Derived.Deep.Cut
import Derived.Deep.RegionHeld3
import Derived.Test.YtinjbdgjcadodaaGreatDoorRNp01
import Derived.Test.YtinjbdgjcadodaaGreatDoorRNp04
import Derived.Test.YtinjbdgjcadodaaGreatDoorRNp13
import Derived.Test.YtinjbdgjcadodaaGreatDoorRNp19
import Derived.Test.YtinjbdgjcadodaaGreatDoorRNp22
set_option linter.unusedVariables false
set_option linter.unusedSimpArgs false
set_option maxRecDepth 100000
namespace Go.Proofs.YtinjbdgjcadodaaGreatDoor.Man
open Go Go.RowKit Words Enc Go.Proofs.YtinjbdgjcadodaaGreatDoor.Made Go.Proofs.YtinjbdgjcadodaaGreatDoor.Tape Vec Dsk
structure Mn where
 node : Int
 serial : Nat
 floor : List Nat
 time : Nat
 fold : ByteArray
def Mn.row (m : Mn) (A : Option Addr) (n c : Nat) : Array Value := #[.int .i64 m.node, .int .u64 (m.serial : Int), .slice A n c, .int .u64 (m.time : Int), .string m.fold]
def Mn.val (m : Mn) (A : Option Addr) (n c : Nat) : Value := .agg (m.row A n c)
def zeroM : Value := .agg #[.int .i64 0, .int .u64 0, .slice none 0 0, .int .u64 0, .string ⟨#[]⟩]
def foldB (k : ByteArray) : Bool := decide (k.size = 0) || okName k.data.toList
def manL (m : Mn) : List UInt8 := enc m.node.toNat ++ (enc m.serial ++ (layL m.floor ++ (enc m.time ++ (enc m.fold.size ++ m.fold.data.toList))))
theorem size_list (k : ByteArray) : k.data.toList.length = k.size := rfl
theorem foldB_len {k : ByteArray} (h : foldB k = true) : k.size ≤ 48 := by
 simp only [foldB, okName, Bool.or_eq_true, Bool.and_eq_true, decide_eq_true_eq] at h
 rcases h with h | ⟨⟨-, h⟩, -⟩
 ·omega
 ·exact h
theorem lay_fits {v : List Nat} (hb : ∀ i, at_ v i < 18446744073709551616) (hn : v.length ≤ 64) : (layL v).length ≤ 700 := by
 have h1 := encs_len (trimL v) fun i => by rw [trimL_at]; exact hb i
 have h0 := trimN_le v v.length
 have h2 := enc_ten (n := trimN v v.length) (by omega)
 have h3 := trimL_len v
 unfold layL
 rw [List.length_append]
 omega
end Go.Proofs.YtinjbdgjcadodaaGreatDoor.Man
namespace Go.Proofs.YtinjbdgjcadodaaGreatDoor.Vec
open Go Go.RowKit Words Enc Go.Proofs.YtinjbdgjcadodaaGreatDoor.Made Go.Proofs.YtinjbdgjcadodaaGreatDoor.Tape
set_option maxHeartbeats 2000000 in
theorem vlay_fits (A Q : Option Addr) (n c pn pc : Nat) (v : List Nat) (p : List UInt8) (w : World) (tv : Took2 w A n c v) (hn : n ≤ 64) (hp : Sees w Q pn p) (hpc : pn ≤ pc) (hpc2 : pc ≤ 9223372036854775807) (hpn : pn ≤ 100000) :
  Calls Tryz.prog 211 #[.slice A n c, .slice Q pn pc] w (GivesB w (p ++ layL v)) := by
 have hs : True ∧ ∀ i, at_ v i < 18446744073709551616 := ⟨trivial, tv.2.1⟩
 obtain ⟨K, hK⟩ : ∃ K, K = trimN v n := ⟨_, rfl⟩
 have hKn : K ≤ n := by rw [hK]; exact trimN_le v n
 have hlay : layL v = enc K ++ encs (v.take K) := by unfold layL trimL; rw [tv.1.1, ← hK]
 have HLAY := Lib.hid hlay
 have TR := trim_at A n c v w tv.1 tv.2.2.1 tv.2.2.2.2 tv.2.2.2.1
 unfold Trims at TR
 rw [← hK] at TR
 have LEN := Lib.hid tv.1.1
 have HT := Lib.hid TR
 clear hlay hK TR tv
 have hi := info8
 cases hc : Tryz.prog.info? 5 with
 | none => rw [hc] at hi; cases hi
 | some i =>
 rw [hc] at hi
 simp only [Option.map_some, Option.some.injEq, Prod.mk.injEq] at hi
 obtain ⟨hz, hsz, hby⟩ := hi
 have hi := hc
 clear hc
 go_enter Tryz.func211, Tryz.ntmps211
 go_wp2_with fail
 refine HT.out.mono ?_
 rintro e w0 ⟨R, rc, rfl, own0, b0⟩
 have sr := SeesU.of_own own0
 have hp0 := hp.below b0
 have hw : IntKind.u64.wrap (K : Int) = (K : Int) := by
  have h : IntKind.u64.wrap (K : Int) = (K : Int) % 18446744073709551616 := rfl
  rw [h]; omega
 have SV : Hid (∀ W, Below w0.heap.size w0 W → ∀ j, j < K → ∃ g o, R = some ⟨g, o, none⟩ ∧ W.cell? ⟨g, o + j, none⟩ = some (.int .u64 (at_ v j : Int))) := Lib.hid fun W hW j hj => by
  obtain ⟨g, o, h1, h2⟩ := (sr.below hW).get hj
  rw [at_take, if_pos hj] at h2
  exact ⟨g, o, h1, h2⟩
 clear own0 sr hp HT
 go_wp2_with fail
 refine (lay_any Q pn pc p (K : Int) w0 hp0 (by omega) (by omega) (by omega)).mono ?_
 rintro e w1 ⟨P1, c1, rfl, own1, b1⟩
 rw [Int.toNat_natCast] at own1 ⊢
 obtain ⟨L1, hL1⟩ : ∃ L1, L1 = (enc K).length := ⟨_, rfl⟩
 have hL1' : L1 ≤ 10 := by rw [hL1]; exact enc_ten (by omega)
 have OWN1 := Lib.hid own1
 have HL1 := Lib.hid hL1
 clear own1
 rw [← hL1]
 clear hL1
 have HPN := Lib.hid hp0.1
 clear hp0
 go_wp2_with fail
 go_loopw [1, 17] (fun x y wr => ∃ (P' : Option Addr) (c' M i : Nat), x = .slice P' M c' ∧ y = .int .i64 (i : Int) ∧ i ≤ K ∧ M ≤ pn + 10 + 10 * i ∧ Hid (M = (p ++ (enc K ++ encs (v.take i))).length) ∧
  wr.ownsRow w0.heap.size 5 1 (.slice P' M c') M (cs (p ++ (enc K ++ encs (v.take i)))) ∧ Below w0.heap.size w0 wr) (fun _ y _ => K - (intOf y).toNat)
 case atStart => exact ⟨P1, c1, pn + L1, 0, rfl, rfl, by omega, by omega, by rw [HL1.out]; simp [encs, Hid, HPN.out], by rw [HL1.out]; simpa [encs] using OWN1.out, b1⟩
 case round =>
  obtain ⟨P', c', M, i', rfl, rfl, hi', hM, HM, own, bb⟩ := hrel
  by_cases hlt : i' < K
  ·obtain ⟨g, o, rfl, hcell⟩ := SV.out wr bb i' hlt
   have hx := hs.2 i'
   have hst := encs_take v i' (by rw [LEN.out]; omega)
   have HST := Lib.hid hst
   clear hst
   generalize at_ v i' = x at hcell hx HST
   have hbw := bb.size
   have h1 : (i' : Int) < (K : Int) := by omega
   have LX := Lib.hid (lay_any none 0 0 [] (x : Int) wr (Sees.nil _ _) (by decide) (by omega) (by omega))
   have OWN := Lib.hid own
   clear own
   go_wp2_with fail
   refine LX.out.mono ?_
   rintro e w2 ⟨P2, c2, rfl, own2, b2⟩
   rw [Int.toNat_natCast, Nat.zero_add] at own2 ⊢
   rw [List.nil_append] at own2
   have hl2 : (enc x).length ≤ 10 := enc_ten (by omega)
   have hs2 := Sees.of_own own2
   have ownp := Own.below OWN.out b2 (Nat.le_refl _)
   have b22 := bb.trans (b2.mono hbw)
   have hz2 : w0.heap.size ≤ w2.heap.size := b22.size
   clear own2 b2 LX OWN
   have e2 : p ++ (enc K ++ encs (v.take i')) ++ enc x = p ++ (enc K ++ encs (v.take (i' + 1))) := by rw [HST.out]; simp only [List.append_assoc]
   have HM2 := Lib.hid (show M + (enc x).length = (p ++ (enc K ++ encs (v.take (i' + 1)))).length by rw [← e2, List.length_append, ← HM.out])
   have HE2 := Lib.hid e2
   clear e2
   generalize hX : (enc x).length = X at hs2 HM2 hl2 ⊢
   clear hX
   go_wp2_with (first | (at_builtin; refine wpList_app rfl _ _ 28 rfl w0.heap.size 5 i (.int .u8 0) Tryz.underlying28 hi hz hsz hby rfl P' M c' (p ++ (enc K ++ encs (v.take i'))) rfl ownp P2 X c2 (enc x) rfl hs2 ?d1 ?d2 ?_))
   case d1 => omega
   case d2 => exact hz2
   intro P3 c3 w3 own3 b3
   rw [← HST.out] at own3
   have b33 := b22.trans b3
   clear ownp hs2 b22 b3
   go_wp2
   go_roundw
   case rel => exact ⟨P3, c3, M + X, i' + 1, rfl, by simp, by omega, by omega, HM2, own3, b33⟩
   case measure => simp [intOf]; omega
  ·obtain rfl : i' = K := by omega
   rw [← HLAY.out] at own HM
   have FIN : Hid (GivesB w (p ++ layL v) (.returned (.slice P' M c')) wr) := Lib.hid (by
    have hMM := HM.out
    subst hMM
    exact ⟨P', c', rfl, Sees.of_own own, (Own.cap own).1, (Own.cap own).2, b0.trans (bb.mono b0.size)⟩)
   clear own HM bb
   go_wp2
   go_ret
   exact FIN.out
end Go.Proofs.YtinjbdgjcadodaaGreatDoor.Vec
namespace Go.Proofs.YtinjbdgjcadodaaGreatDoor.Man
open Go Go.RowKit Words Enc Go.Proofs.YtinjbdgjcadodaaGreatDoor.Made Go.Proofs.YtinjbdgjcadodaaGreatDoor.Tape Vec Dsk
theorem mayStand_no (r : Nat) (w : World) (h : okB r = false) :
  Calls Tryz.prog 282 #[.int .i32 (r : Int)] w fun e w' => e = .returned (.bool false) ∧ w = w' := by
 have h' : ¬ (97 ≤ r ∧ r ≤ 122 ∨ 48 ≤ r ∧ r ≤ 57 ∨ r = 46 ∨ r = 45) := by simpa [okB] using h
 clear h
 have n46 : ((r : Int) == 46) = false := by rw [beq_eq_false_iff_ne]; omega
 have n45 : ((r : Int) == 45) = false := by rw [beq_eq_false_iff_ne]; omega
 by_cases h1 : 97 ≤ r
 ·have a1 : decide ((97 : Int) ≤ (r : Int)) = true := by simp; omega
  have a2 : decide ((r : Int) ≤ 122) = false := by simp; omega
  have a3 : decide ((48 : Int) ≤ (r : Int)) = true := by simp; omega
  have a4 : decide ((r : Int) ≤ 57) = false := by simp; omega
  go_enter Tryz.func282, Tryz.ntmps282
  go_wp2
  go_ret
  exact ⟨rfl, rfl⟩
 ·have a1 : decide ((97 : Int) ≤ (r : Int)) = false := by simp; omega
  by_cases h2 : 48 ≤ r
  ·have a3 : decide ((48 : Int) ≤ (r : Int)) = true := by simp; omega
   have a4 : decide ((r : Int) ≤ 57) = false := by simp; omega
   go_enter Tryz.func282, Tryz.ntmps282
   go_wp2
   go_ret
   exact ⟨rfl, rfl⟩
  ·have a3 : decide ((48 : Int) ≤ (r : Int)) = false := by simp; omega
   go_enter Tryz.func282, Tryz.ntmps282
   go_wp2
   go_ret
   exact ⟨rfl, rfl⟩
theorem okName_iff (s : ByteArray) : okName s.data.toList = true ↔ 1 ≤ s.size ∧ s.size ≤ 48 ∧ ∀ i (h : i < s.size), okB (s[i]'h).toNat = true := by
 simp only [okName, Bool.and_eq_true, decide_eq_true_eq, List.all_eq_true, size_list]
 constructor
 ·rintro ⟨⟨h1, h2⟩, h3⟩
  refine ⟨h1, h2, fun i h => h3 _ ?_⟩
  show (s.data[i]'h) ∈ s.data.toList
  simp
 ·rintro ⟨h1, h2, h3⟩
  refine ⟨⟨h1, h2⟩, fun u hu => ?_⟩
  obtain ⟨i, hi, rfl⟩ := List.mem_iff_getElem.1 hu
  exact h3 i hi
theorem okName_no {s : ByteArray} {pos : Nat} (hp : pos < s.size) (h : okB (s[pos]'hp).toNat = false) : okName s.data.toList = false := by
 cases ho : okName s.data.toList with
 | false => rfl
 | true => rw [((okName_iff s).1 ho).2.2 pos hp] at h; cases h
set_option maxHeartbeats 2000000 in
theorem named_full (s : ByteArray) (w : World) (hs : s.size ≤ 9223372036854775807) :
  Calls Tryz.prog 234 #[.string s] w fun e w' => e = .returned (.bool (okName s.data.toList)) ∧ Below w.heap.size w w' := by
 by_cases h0 : s.size = 0
 ·have a1 : ((s.size : Int) == 0) = true := by rw [beq_iff_eq]; omega
  have hno : okName s.data.toList = false := by
   cases ho : okName s.data.toList with
   | false => rfl
   | true => have := ((okName_iff s).1 ho).1; omega
  rw [hno]
  go_enter Tryz.func234, Tryz.ntmps234
  go_wp2
  go_ret
  exact ⟨rfl, Below.refl _ _⟩
 have a1 : ((s.size : Int) == 0) = false := by rw [beq_eq_false_iff_ne]; omega
 by_cases h2 : 48 < s.size
 ·have a2 : decide ((48 : Int) < (s.size : Int)) = true := by simp; omega
  have hno : okName s.data.toList = false := by
   cases ho : okName s.data.toList with
   | false => rfl
   | true => have := ((okName_iff s).1 ho).2.1; omega
  rw [hno]
  go_enter Tryz.func234, Tryz.ntmps234
  go_wp2
  go_ret
  exact ⟨rfl, Below.refl _ _⟩
 have a2 : decide ((48 : Int) < (s.size : Int)) = false := by simp; omega
 obtain ⟨b, hb⟩ : ∃ b, b = okName s.data.toList := ⟨_, rfl⟩
 rw [← hb]
 have HB := Lib.hid hb
 clear hb
 go_enter Tryz.func234, Tryz.ntmps234
 go_wp2
 go_loopw [] (fun w' => ∃ pos : Nat, w' = w.iter s pos ∧ pos ≤ s.size ∧ Hid (∀ i (h : i < s.size), i < pos → okB (s[i]'h).toNat = true)) (fun w' => s.size - w'.iterPos w.heap.size)
 case atStart => exact ⟨0, rfl, Nat.zero_le _, Lib.hid fun i h hi => absurd hi (Nat.not_lt_zero _)⟩
 case round =>
  obtain ⟨pos, rfl, hps, IH⟩ := hrel
  by_cases hp : pos < s.size
  ·by_cases ha : (s[pos]'hp).toNat < 128
   ·have hnx : ∀ ty, (Instr.next (.pointer (some ⟨w.heap.size, 0, none⟩)) true ty).run Tryz.prog (w.iter s pos) = _ := fun ty => run_next_ascii w s pos ty hp ha
    cases hok : okB (s[pos]'hp).toNat with
    | true =>
      have IH' : Hid (∀ i (h : i < s.size), i < pos + 1 → okB (s[i]'h).toNat = true) := Lib.hid fun i h hi => by
       rcases Nat.lt_or_ge i pos with h1 | h1
       ·exact IH.out i h h1
       ·obtain rfl : i = pos := by omega
        exact hok
      generalize (s[pos]'hp).toNat = r at hok hnx
      clear ha
      go_wp2_with fail
      refine (mayStand_any r _ hok).mono ?_
      rintro e w1 ⟨rfl, rfl⟩
      go_wp2
      go_roundw
      case rel => exact ⟨pos + 1, rfl, by omega, IH'⟩
      case measure => simp; omega
    | false =>
      have hbf : Hid (b = false) := Lib.hid (HB.out.trans (okName_no hp hok))
      generalize (s[pos]'hp).toNat = r at hok hnx
      clear ha
      go_wp2_with fail
      refine (mayStand_no r _ hok).mono ?_
      rintro e w1 ⟨rfl, rfl⟩
      go_wp2
      go_ret
      exact ⟨by rw [hbf.out]; rfl, below_iter w s _⟩
   ·obtain ⟨hd, hd1⟩ := decode_high s pos hp (by omega)
    have hnx : ∀ ty, (Instr.next (.pointer (some ⟨w.heap.size, 0, none⟩)) true ty).run Tryz.prog (w.iter s pos) = _ := fun ty => run_next_any w s pos ty hp
    have hno : okB (s[pos]'hp).toNat = false := by simp only [okB, decide_eq_false_iff_not]; omega
    have hbf : Hid (b = false) := Lib.hid (HB.out.trans (okName_no hp hno))
    have hok : okB (Utf8.decode s pos).1 = false := by simp only [okB, decide_eq_false_iff_not]; omega
    clear ha hno hd hd1
    generalize Utf8.decode s pos = R at hok hnx
    go_wp2_with fail
    refine (mayStand_no R.1 _ hok).mono ?_
    rintro e w1 ⟨rfl, rfl⟩
    go_wp2
    go_ret
    exact ⟨by rw [hbf.out]; rfl, below_iter w s _⟩
  ·have hnx : ∀ ty, (Instr.next (.pointer (some ⟨w.heap.size, 0, none⟩)) true ty).run Tryz.prog (w.iter s pos) = _ := fun ty => run_next_end w s pos ty hp
   have hbt : Hid (b = true) := Lib.hid (HB.out.trans ((okName_iff s).2 ⟨by omega, by omega, fun i h => IH.out i h (by omega)⟩))
   go_wp2
   go_ret
   exact ⟨by rw [hbt.out]; rfl, below_iter w s pos⟩
theorem empty_iff (k : ByteArray) : k.toList.isEmpty = decide (k.size = 0) := by
 rw [ByteArray.toList_eq, ← size_list]
 cases h : k.data.toList with
 | nil => rfl
 | cons a l => simp
theorem fold_may (s : ByteArray) (w : World) (hs : s.size ≤ 9223372036854775807) :
  Calls Tryz.prog 178 #[.string s] w fun e w' => e = .returned (.bool (foldB s)) ∧ Below w.heap.size w w' := by
 have hemp := empty_iff s
 by_cases h : s.size = 0
 ·have hf : foldB s = true := by simp [foldB, h]
  rw [decide_eq_true h] at hemp
  have hnil : s.toList = [] := by simpa using hemp
  rw [hf]
  clear hf
  go_enter Tryz.func178, Tryz.ntmps178
  go_wp2
  go_ret
  exact ⟨rfl, Below.refl _ _⟩
 ·have hf : foldB s = okName s.data.toList := by simp [foldB, h]
  rw [decide_eq_false h] at hemp
  have hnil : ¬ s.toList = [] := fun e => by rw [e] at hemp; cases hemp
  have HN := named_full s w hs
  rw [hf]
  clear hf
  generalize okName s.data.toList = b at HN ⊢
  have HN2 := Lib.hid HN
  clear HN
  cases b
  all_goals
   go_enter Tryz.func178, Tryz.ntmps178
   go_wp2_with fail
   refine HN2.out.mono ?_
   rintro e w1 ⟨rfl, b1⟩
   have B1 := Lib.hid b1
   clear b1
   go_wp2
   go_ret
   exact ⟨rfl, B1.out⟩
theorem title_man (m : Mn) (A : Option Addr) (n c : Nat) (w : World) (h0 : 0 ≤ m.node) (h1 : m.node < 64) :
  Calls Tryz.prog 177 #[m.val A n c] w fun e w' => e = .returned (Sht.titleV 109 m.node.toNat m.serial) ∧ Below w.heap.size w w' := by
 obtain ⟨nd, sr, v, tm, fd⟩ := m
 simp only [] at h0 h1
 obtain ⟨k, rfl⟩ : ∃ k : Nat, nd = (k : Int) := ⟨nd.toNat, by omega⟩
 unfold Mn.val Mn.row Sht.titleV
 simp only [Int.toNat_natCast]
 go_enter Tryz.func177, Tryz.ntmps177
 go_wp2
 go_returns
 exact ⟨rfl, ((Below.refl _ _).alloc (Nat.le_refl _) _).alloc (by simp) _⟩
abbrev convW (W : World) (e : TypeId) (s : ByteArray) (c : Nat) : World := (W.alloc (.cells (bytesRow s c) e ((bytesRow s c).size, (bytesRow s c).size + 1))).drew
theorem conv_sees (W : World) (e : TypeId) (s : ByteArray) (c : Nat) : Sees (convW W e s c) (some ⟨W.heap.size, 0, none⟩) s.size s.data.toList ∧ Below W.heap.size W (convW W e s c) := by
 refine ⟨(sees_marked W e _ _ s.size s.data.toList rfl fun j u hu => ?_).drew, ((Below.refl _ _).alloc (Nat.le_refl _) _).drew⟩
 have hj : j < s.data.size := by have := (List.getElem?_eq_some_iff.1 hu).1; simpa using this
 unfold bytesRow
 rw [Array.getElem?_append_left (by simpa using hj)]
 simp only [Array.getElem?_map]
 rw [← Array.getElem?_toList, hu]
 rfl
theorem box5 {w : World} {b : Nat} {v0 v1 v2 v3 v4 : Value} {T : TypeId} {f : Nat × Nat} (h : w.heap[b]? = some (.cells #[v0, v1, v2, v3, v4] T f)) :
  w.cell? ⟨b, 0, none⟩ = some v0 ∧ w.cell? ⟨b, 1, none⟩ = some v1 ∧ w.cell? ⟨b, 2, none⟩ = some v2 ∧ w.cell? ⟨b, 3, none⟩ = some v3 ∧ w.cell? ⟨b, 4, none⟩ = some v4 := by
 refine ⟨?_, ?_, ?_, ?_, ?_⟩ <;> (rw [cell_of_row w b _ _ _ _ h]; rfl)
theorem boxed (v : Array Value) (T : TypeId) (w : World) {W : World} (hW : Below (w.heap.size + 1) (w.alloc (.cells v T)) W) : Below w.heap.size w W ∧
  W.heap[w.heap.size]? = some (.cells v T (0, 0)) ∧ w.heap.size < W.heap.size := by
 refine ⟨((Below.refl _ _).alloc (Nat.le_refl _) _).trans (hW.mono (by omega)), ?_, by have := hW.size; simp at this; omega⟩
 rw [hW.block w.heap.size (by omega)]
 exact heap_alloc_new w _
theorem gives_new {w w' : World} {p q : List UInt8} {A : Option Addr} {n c : Nat} (h : w'.ownsRow w.heap.size 5 1 (.slice A n c) n (cs p)) (hb : Below w.heap.size w w') (hq : p = q) : New w.heap.size q.length q w (.returned (.slice A n c)) w' := by
 subst hq
 have hn : n = p.length := by have := h.1; rw [cs_length] at this; omega
 subst hn
 exact ⟨A, c, rfl, h, hb⟩
set_option maxHeartbeats 2000000 in
theorem encode_own (m : Mn) (A : Option Addr) (n c : Nat) (w : World) (h0 : 0 ≤ m.node) (h1 : m.node < 64) (hsr : m.serial < 18446744073709551616) (htm : m.time < 18446744073709551616) (tv : Took2 w A n c m.floor) (hn : n ≤ 64) (hf : m.fold.size ≤ 100000) :
  Calls Tryz.prog 179 #[m.val A n c] w (New w.heap.size (manL m).length (manL m) w) := by
 obtain ⟨nd, sr, v, tm, fd⟩ := m
 simp only [] at h0 h1 hsr htm tv hf
 obtain ⟨k, rfl⟩ : ∃ k : Nat, nd = (k : Int) := ⟨nd.toNat, by omega⟩
 obtain ⟨r, hr⟩ : ∃ r, r = manL ⟨k, sr, v, tm, fd⟩ := ⟨_, rfl⟩
 rw [← hr]
 have HR := Lib.hid (show r = enc k ++ (enc sr ++ (layL v ++ (enc tm ++ (enc fd.size ++ fd.data.toList)))) from hr)
 clear hr
 have hwu : IntKind.u64.wrap (k : Int) = (k : Int) := by
  have h : IntKind.u64.wrap (k : Int) = (k : Int) % 18446744073709551616 := rfl
  rw [h]; omega
 have le1 := enc_ten (n := k) (by omega)
 have le2 := enc_ten (n := sr) (by omega)
 have le3 := lay_fits tv.2.1 (by have := tv.1.1; omega)
 have le4 := enc_ten (n := tm) (by omega)
 unfold Mn.val Mn.row
 simp only []
 have HBX := Lib.hid (fun W hW => boxed #[.int .i64 (k : Int), .int .u64 (sr : Int), .slice A n c, .int .u64 (tm : Int), .string fd] 86 w (W := W) hW)
 have HCV := Lib.hid (fun W => run_bytes_of_string (P := Tryz.prog) W 9 28 5 fd Tryz.underlying9 Tryz.underlying28 Tryz.underlying5)
 go_enter Tryz.func179, Tryz.ntmps179
 go_wp2_with fail
 generalize hW0 : w.alloc (.cells #[.int .i64 (k : Int), .int .u64 (sr : Int), .slice A n c, .int .u64 (tm : Int), .string fd] 86) = W0 at HBX ⊢
 have hz0 : w.heap.size + 1 ≤ W0.heap.size := by rw [← hW0]; simp
 clear hW0
 refine (lay_any none 0 0 [] _ W0 (Sees.nil _ _) (by omega) (by omega) (by omega)).mono ?_
 rintro e w1 ⟨A1, c1, rfl, hown1, hb1⟩
 rw [Int.toNat_natCast, List.nil_append, Nat.zero_add] at *
 have b1 := hb1.mono hz0
 obtain ⟨-, x1, -⟩ := HBX.out w1 b1
 obtain ⟨p0, p1, p2, p3, p4⟩ := box5 x1
 clear x1 hb1
 go_wp2_with fail
 refine (lay_any A1 _ c1 (enc k) _ w1 (Sees.of_own hown1) (by omega) (by omega) (by omega)).mono ?_
 rintro e w2 ⟨A2, c2, rfl, hown2, hb2⟩
 rw [Int.toNat_natCast] at *
 have b2 := b1.trans (hb2.mono (by have := b1.size; omega))
 obtain ⟨y2, x2, -⟩ := HBX.out w2 b2
 clear p0 p1 p2 p3 p4 hb2 hown1
 obtain ⟨p0, p1, p2, p3, p4⟩ := box5 x2
 have tv2 := tv.below y2
 have hcap2 := Own.cap hown2
 clear x2 y2
 go_wp2_with fail
 refine (vlay_fits A A2 n c _ c2 v _ w2 tv2 hn (Sees.of_own hown2) hcap2.1 hcap2.2 (by omega)).mono ?_
 rintro e w3 ⟨A3, c3, rfl, s3, hc3, hm3, hb3⟩
 have b3 := b2.trans (hb3.mono (by have := b2.size; omega))
 obtain ⟨y3, x3, -⟩ := HBX.out w3 b3
 clear p0 p1 p2 p3 p4 hb3 hown2 tv2 hcap2
 obtain ⟨p0, p1, p2, p3, p4⟩ := box5 x3
 have hl3 : (enc k ++ enc sr ++ layL v).length ≤ 720 := by simp only [List.length_append]; omega
 generalize hL3 : enc k ++ enc sr ++ layL v = L3 at s3 hl3 hc3 ⊢
 clear x3 y3 le1 le2 le3
 go_wp2_with fail
 refine (lay_any A3 _ c3 L3 _ w3 s3 (by omega) (by omega) (by omega)).mono ?_
 rintro e w4 ⟨A4, c4, rfl, hown4, hb4⟩
 rw [Int.toNat_natCast] at *
 have b4 := b3.trans (hb4.mono (by have := b3.size; omega))
 obtain ⟨y4, x4, -⟩ := HBX.out w4 b4
 clear p0 p1 p2 p3 p4 hb4 s3
 obtain ⟨p0, p1, p2, p3, p4⟩ := box5 x4
 have hcv := HCV.out
 go_wp2_with fail
 clear hcv
 have cs4 := conv_sees w4 5 fd (grownCap w4 fd.size 0 5)
 refine (layText_any A4 _ c4 _ _ fd.size (grownCap w4 fd.size 0 5) fd.data.toList _ ((Sees.of_own hown4).below cs4.2) cs4.1 (by omega) (by omega)).mono ?_
 rintro e w6 ⟨A6, c6, rfl, hown6, hb6⟩
 have b6 := b4.trans ((cs4.2.trans (hb6.mono cs4.2.size)).mono (by have := b4.size; omega))
 obtain ⟨y6, -, -⟩ := HBX.out w6 b6
 have FIN := Lib.hid (gives_new (q := r) (Own.lower (base' := w.heap.size) hown6 (by have := cs4.2.size; have := b4.size; omega)) y6 (by rw [HR.out, ← hL3]; simp only [List.append_assoc]))
 clear hown6 hown4 hb6 b6 y6 cs4 y4 x4
 go_wp2
 go_ret
 exact FIN.out
def zRow : Array Value := #[.int .i64 0, .int .u64 0, .slice none 0 0, .int .u64 0, .string ⟨#[]⟩]
structure Ret (w W : World) : Prop where
 z : W.heap[w.heap.size]? = some (.cells zRow 86 (0, 0))
 e : W.heap[w.heap.size + 1]? = some (.cells #[.int .i64 0] 29 (0, 0))
 b : Below w.heap.size w W
structure St (A : Option Addr) (n : Nat) (l : List UInt8) (w W : World) (r : List UInt8) : Prop where
 ret : Ret w W
 tape : TapeOn A n l W (w.heap.size + 1 + 1) r
 see : Sees W A n l
abbrev mN : List UInt8 := [109, 97, 110, 105, 102, 101, 115, 116]
def errM (E : Nat) : Nat := if E = 2 ∨ E = 7 then E else 4
def ReadErr (E : Nat) (w : World) (e : Ending) (w' : World) : Prop := e = .returned (.tuple #[zeroM, .int .i64 (E : Int)]) ∧ Below w.heap.size w w'
set_option maxHeartbeats 2000000 in
theorem read_err (d E : Nat) (w : World) (hE : E = 2 ∨ E = 4 ∨ E = 5 ∨ E = 6 ∨ E = 7)
  (HS : ∀ W, Below w.heap.size w W → Calls Tryz.prog 175 #[.pointer (some ⟨d, 0, none⟩), .string ⟨mN.toArray⟩] W fun e w' => e = .returned (.tuple #[Sht.zeroSheet, .int .i64 (E : Int)]) ∧ Below W.heap.size W w') :
  Calls Tryz.prog 108 #[.pointer (some ⟨d, 0, none⟩)] w (ReadErr (errM E) w) := by
 have hb0 : Below w.heap.size w (w.alloc (.cells zRow 86)) := (Below.refl _ _).alloc (Nat.le_refl _) _
 have g0 : (w.alloc (.cells zRow 86)).heap[w.heap.size]? = some (.cells zRow 86 (0, 0)) := heap_alloc_new w _
 have CALL := Lib.hid (HS _ hb0)
 unfold zRow at hb0 g0 CALL
 clear HS
 go_enter Tryz.func108, Tryz.ntmps108
 go_wp2_with fail
 refine CALL.out.mono ?_
 rintro e w1 ⟨rfl, hb1⟩
 have b1 := hb0.trans (hb1.mono hb0.size)
 have g1 := (hb1.block w.heap.size (Array.getElem?_eq_some_iff.1 g0).1).trans g0
 have al := (Below.refl w1.heap.size w1).alloc (Nat.le_refl _) (.cells #[.int .u8 0, .int .u64 0, .int .u64 0, .slice none 0 0, .int .i64 0, .int .i64 0] 249)
 have s2 := Sht.sheetAt_new w1 (.int .u8 0) (.int .u64 0) (.int .u64 0) (.slice none 0 0) (.int .i64 0) (.int .i64 0)
 have b2 := Lib.hid (b1.trans (al.mono b1.size))
 have g2 := (al.block w.heap.size (Array.getElem?_eq_some_iff.1 g1).1).trans g1
 obtain ⟨⟨s0, s1, s2', s3, s4, s5⟩, -⟩ := s2.cells
 unfold Sht.zeroSheet
 clear hb0 g0 CALL hb1 b1 g1 al s2
 have W' : True := trivial
 rcases hE with rfl | rfl | rfl | rfl | rfl
 case inl | inr.inr.inr.inr =>
  go_wp2_with (first
   | (refine wpList_putRow rfl 86 (.tmp 2) (.tmp 17) rfl w.heap.size 86 #[.int .i64 0, .int .u64 0, .slice none 0 0, .int .u64 0, .string ⟨#[]⟩] #[.int .i64 0, .int .u64 0, .slice none 0 0, .int .u64 0, .string ⟨#[]⟩] rfl rfl g2 (by kernel_rfl) rfl (by simp [Value.oneCell']) ?_))
  intro W' hW' hbe
  have BEL := Lib.hid (Below.beside b2.out hbe b2.out.size (by simp))
  obtain ⟨c0, c1, c2, c3, c4⟩ := box5 hW'
  clear hbe hW'
  go_wp2
  refine bodyPost_ret (v := .tuple #[.agg #[.int .i64 0, .int .u64 0, .slice none 0 0, .int .u64 0, .string ⟨#[]⟩], _]) (by simp [results, Tryz.results108, go_sem, c0, c1, c2, c3, c4]; rfl) rfl ?_
  exact ⟨rfl, BEL.out⟩
 all_goals
  go_wp2_with (first
   | (refine wpList_putRow rfl 86 (.tmp 2) (.tmp 29) rfl w.heap.size 86 #[.int .i64 0, .int .u64 0, .slice none 0 0, .int .u64 0, .string ⟨#[]⟩] #[.int .i64 0, .int .u64 0, .slice none 0 0, .int .u64 0, .string ⟨#[]⟩] rfl rfl g2 (by kernel_rfl) rfl (by simp [Value.oneCell']) ?_))
  intro W' hW' hbe
  have BEL := Lib.hid (Below.beside b2.out hbe b2.out.size (by simp))
  obtain ⟨c0, c1, c2, c3, c4⟩ := box5 hW'
  clear hbe hW'
  go_wp2
  refine bodyPost_ret (v := .tuple #[.agg #[.int .i64 0, .int .u64 0, .slice none 0 0, .int .u64 0, .string ⟨#[]⟩], .int .i64 4]) (by simp [results, Tryz.results108, go_sem, c0, c1, c2, c3, c4]) rfl ?_
  exact ⟨rfl, BEL.out⟩
end Go.Proofs.YtinjbdgjcadodaaGreatDoor.Man
