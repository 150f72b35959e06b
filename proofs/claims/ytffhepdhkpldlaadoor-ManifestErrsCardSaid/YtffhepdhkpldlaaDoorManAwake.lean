/- The example with which the laws of layer 10 begin. -/
import Derived.Test.YtffhepdhkpldlaaDoorManNearN
namespace Go.Proofs.YtffhepdhkpldlaaDoor.Man
open Go Go.RowKit Go.Proofs.YtffhepdhkpldlaaDoor.Words Go.Proofs.YtffhepdhkpldlaaDoor.Enc Go.Proofs.YtffhepdhkpldlaaDoor.Made Go.Proofs.YtffhepdhkpldlaaDoor.Tape Go.Proofs.YtffhepdhkpldlaaDoor.Vec Go.Proofs.YtffhepdhkpldlaaDoor.Dsk
set_option linter.unusedVariables false
set_option linter.unusedSimpArgs false
open Go.Proofs.YtffhepdhkpldlaaDoor.Sht (Since newL)

theorem near_any (m : Mn) (how : Nat) (A : Option Addr) (n c : Nat) (w : World) (hh2 : how < 256) (hn0 : -9223372036854775808 ≤ m.node) (hn1 : m.node ≤ 9223372036854775807) (hsr : m.serial < 18446744073709551616) (htm : m.time < 18446744073709551616) (tv : Took2 w A n c m.floor) (hn : n ≤ 64) (hf : m.fold.size ≤ 100000) :
    Calls Tryd.prog 7 #[m.val A n c, .int .u8 (how : Int)] w fun e w' => ∃ m' A' n' c', e = .returned (m'.val A' n' c') ∧ (64 ≤ how → Right m') ∧ -9223372036854775808 ≤ m'.node ∧ m'.node ≤ 9223372036854775807 ∧ m'.serial < 18446744073709551616 ∧ m'.time < 18446744073709551616 ∧ m'.fold.size ≤ 100000 ∧ Took2 w' A' n' c' m'.floor ∧ n' ≤ 64 ∧ Hid (OutT w A n A' n') ∧ Below w.heap.size w w' := by
  by_cases hh : 64 ≤ how
  · refine (near_yes m how A n c w hh hh2 hn0 hn1 hsr htm tv hn hf).mono ?_
    rintro e w' ⟨m', A', n', c', h1, h2, h3, h4, h6, h5⟩
    have hfl := foldB_len h2.fd
    have a1 := h2.n0; have a2 := h2.n1; have a3 := h2.sr; have a4 := h2.tm
    exact ⟨m', A', n', c', h1, fun _ => h2, by omega, by omega, by omega, by omega, by omega, h3, h4, h6, h5⟩
  · refine (near_no m how A n c w (by omega) tv).mono ?_
    rintro e w' ⟨h1, h2, h3⟩
    exact ⟨m, A, n, c, h1, fun h => absurd h hh, hn0, hn1, hsr, htm, hf, h2, hn, Lib.hid (fun S h _ => h), h3⟩

def exM : Mn := ⟨2, 1, [], 0, ⟨#[]⟩⟩
theorem exM_right : Right exM := ⟨by decide, by decide, by decide, ⟨by decide, fun i => by rw [show exM.floor = [] from rfl, at_ge (by simp)]; exact Nat.zero_le _⟩, by decide, rfl⟩
theorem exM_may : mayB exM = true := by decide +kernel
theorem exM_bytes : manL exM = [2, 1, 0, 0, 0] := by
  have e0 : (⟨#[]⟩ : ByteArray).size = 0 := rfl
  simp [manL, exM, layL, trimL, trimN, encs, enc_small, e0]
  decide
theorem exM_len : (fileL exM).length ≤ 900 := by
  have hh := Sht.headL_len (k := 109) (a := 2) (b := 1) (by omega) (by omega)
  have ht := (Sht.titleL_len (k := 109) (a := 2) (b := 1) (by omega) (by omega)).2
  have he := enc_ten (n := 5) (by omega)
  have hw : (Sht.wraps [manL exM]).length ≤ 20 := by
    simp only [Sht.wraps, List.map_cons, List.map_nil, List.flatten_cons, List.flatten_nil, List.append_nil, wrap_length, exM_bytes, List.length_cons, List.length_nil, Nat.reduceAdd]
    omega
  unfold fileL Sht.wholeL
  rw [List.length_append]
  have e1 : exM.node.toNat = 2 := rfl
  have e2 : exM.serial = 1 := rfl
  rw [e1, e2]
  omega
set_option maxRecDepth 100000 in
set_option maxHeartbeats 2000000 in
theorem awakeM (w : World) (T : Chk.Tabs w) : Calls Tryd.prog 6 #[] w fun e w' => e = .returned (.bool true) ∧ Below w.heap.size w w' := by
  have hsw := Sht.swap_newN mN_ne (room := 1000) (left := -1) (torn := 0) (acts := 0) (q := fileL exM) (by decide) (by have := exM_len; omega)
  have hf0 : Hd.fits ⟨1000, 0, -1, 0, false⟩ := Sht.hd_fits5 (by simp) (by simp) (by simp) (by simp) (by simp) (by simp) (by simp)
  have N1 := newL w w (Below.refl _ _) 1000
  have R1 := fun W d hd => mreadNone w W d [] ⟨1000, 0, -1, 0, false⟩ hd rfl rfl (by simp [sumA])
  have W1 := fun W d hd => mwriteL w W d [] _ ⟨1000, 0, -1, 0, false⟩ _ 0 exM none 0 0 T hd hf0 (by simp) exM_may (by decide) (by decide) ⟨SeesU.nil _ _, fun i => by rw [show exM.floor = [] from rfl, at_ge (by simp)]; decide, by omega, by omega, by omega⟩ (by omega) (by simp [sumA]) (by simp) hsw
  have R2 := fun W d hd => mreadSheet w W d [⟨mN, fileL exM, (fileL exM).length⟩] ⟨1000, 0 + 4, -1, 0, false⟩ ⟨mN, fileL exM, (fileL exM).length⟩ 109 2 1 (manL exM) T (by omega) (by omega) (by rw [exM_bytes]; simp) hd rfl (by simp [lookA]) rfl (by simp [sumA]; have := exM_len; omega)
  have hrm : readM 109 2 1 [manL exM] 0 = .inr { exM with floor := trimL exM.floor } := readM_of exM_right
  rw [hrm] at R2
  unfold Mn.val Mn.row exM at W1
  unfold DecGives Mn.val Mn.row exM at R2
  simp only [Int.natCast_zero] at W1 R2
  rw [show ((1 : Nat) : Int) = 1 from rfl] at W1 R2
  have HN := Lib.hid N1
  have HR1 := Lib.hid R1
  have HW1 := Lib.hid W1
  have HR2 := Lib.hid R2
  clear N1 R1 W1 R2 hsw hrm hf0
  go_enter Tryd.func6, Tryd.ntmps6
  go_wp2_with fail
  refine HN.out.mono ?_
  rintro e w1 ⟨d, rfl, hd1⟩
  go_wp2_with fail
  refine (HR1.out w1 d hd1).mono ?_
  rintro e w2 ⟨rfl, hd2⟩
  unfold zeroM
  have hd3 := hd2.after ((Below.refl w2.heap.size w2).alloc (Nat.le_refl _) (.cells #[.int .i64 0, .int .u64 0, .slice none 0 0, .int .u64 0, .string ⟨#[]⟩] 26))
  clear hd1 hd2
  go_wp2_with fail
  refine (HW1.out _ d hd3).mono ?_
  rintro e w4 ⟨rfl, hd4⟩
  clear hd3
  go_wp2_with fail
  refine (HR2.out w4 d hd4).mono ?_
  rintro e w5 ⟨⟨A, n, c, rfl, own, hb⟩, hd5⟩
  have hb5 := Lib.hid (hd5.below.alloc hd5.below.size (.cells #[.int .i64 2, .int .u64 1, .slice A n c, .int .u64 0, .string ⟨#[]⟩] 26))
  clear own hb hd4 hd5
  go_wp2
  go_ret
  exact ⟨rfl, hb5.out⟩
end Go.Proofs.YtffhepdhkpldlaaDoor.Man
