/- strconv.FormatUint in base 16: its contract. -/
import Derived.Test.YtdelppndoepkbaaDoorSegTabs
import Derived.Test.YtdelppndoepkbaaDoorSegText
import Derived.Test.YtdelppndoepkbaaDoorNew
import Derived.Test.YtdelppndoepkbaaDoorBeside
import Derived.Lib.Hide
import Derived.Lib.ItoaWalk
import Derived.WalkSpells
namespace Go.Proofs.YtdelppndoepkbaaDoor.Seg
open Go Go.RowKit Go.Proofs.YtdelppndoepkbaaDoor.Words Go.Proofs.YtdelppndoepkbaaDoor.Enc Go.Proofs.YtdelppndoepkbaaDoor.Made
set_option linter.unusedVariables false

theorem pow2_16 (w : World) : Calls Tryd.prog 51 #[.int .i64 16] w fun e w' => e = .returned (.bool true) ∧ w' = w := by
  go_enter Tryd.func51, Tryd.ntmps51
  go_wp2
  go_ret
  exact ⟨rfl, rfl⟩
theorem tz64_16 (w : World) (T : STabs w) : Calls Tryd.prog 62 #[.int .u64 16] w fun e w' => e = .returned (.int .i64 4) ∧ w' = w := by
  have hd := T.deb
  have hb : bits .and .u64 16 (IntKind.u64.wrap (-16)) = 16 := by decide +kernel
  have hm : IntKind.u64.wrap (16 * 285870213051353865) = 4573923408821661840 := by decide +kernel
  have hm2 : IntKind.u64.wrap 4573923408821661840 = 4573923408821661840 := by decide +kernel
  go_enter Tryd.func62, Tryd.ntmps62
  go_wp2
  go_ret
  exact ⟨rfl, rfl⟩
theorem tz_16 (w : World) (T : STabs w) : Calls Tryd.prog 52 #[.int .u64 16] w fun e w' => e = .returned (.int .i64 4) ∧ w' = w := by
  go_enter Tryd.func52, Tryd.ntmps52
  go_wp2_with fail
  refine (tz64_16 w T).mono ?_
  rintro e w1 ⟨rfl, rfl⟩
  go_wp2
  go_ret
  exact ⟨rfl, rfl⟩

theorem digs_at : ∀ d : Fin 16, Lib.digits36.data.toList[d.val]? = some (hexD d.val) := by decide +kernel
theorem index_digs (T : TypeId) (hT : Tryd.prog.underlying T = some .string) (W : World) (k : IntKind) (d : Nat) (hd : d < 16) : (Instr.index T (.string Lib.digits36) (.int k (d : Int))).run Tryd.prog W = .ok (.int .u8 ((hexD d).toNat : Int)) W := by
  have hs : Lib.digits36.size = 36 := by rw [Lib.digits36_size]
  have h := digs_at ⟨d, hd⟩
  rw [run_index_string W T Lib.digits36 k (d : Int) hT, dif_pos ⟨by omega, by omega⟩]
  have h2 : (Lib.digits36[(d : Int).toNat]'(by omega)) = hexD d := by
    have h3 : Lib.digits36.data.toList[d]? = some (Lib.digits36[d]'(by omega)) := by
      rw [List.getElem?_eq_getElem (by rw [Array.length_toList]; show d < Lib.digits36.size; omega)]
      rfl
    rw [h] at h3
    exact (Option.some.inj h3).symm
  rw [h2]
theorem and_15 (x : Nat) (h : x < 18446744073709551616) : bits .and .u64 (x : Int) 15 = ((x % 16 : Nat) : Int) := by
  rw [show (15 : Int) = ((15 : Nat) : Int) from rfl, u64_and_nat x 15 h (by omega)]
  congr 1
  exact Nat.and_two_pow_sub_one_eq_mod x 4
theorem drop_set {cur : List Value} {k : Nat} (v : Value) (l : List Value) (h : k < cur.length) (hd : cur.drop (k + 1) = l) : (cur.set k v).drop k = v :: l := by
  rw [List.drop_eq_getElem_cons (by simpa using h), List.drop_set_of_lt (by omega), hd]
  simp
theorem hex_shows {w : World} {g : Nat} {cur : Array Value} {T : TypeId} {fr : Nat × Nat} {i : Nat} {l : List UInt8} (hg : w.heap[g]? = some (.cells cur T fr)) (hd : cur.toList.drop i = cs l) : Sees w (some ⟨g, i, none⟩) l.length l := by
  refine ⟨rfl, fun _ => ⟨g, i, rfl, fun j u hu => ?_⟩⟩
  rw [cell_of_row w g _ _ _ _ hg]
  have h1 := cs_get hu
  rw [← hd, List.getElem?_drop] at h1
  simpa using h1

theorem slice_65 (W : World) (g i n : Nat) (h : i + n = 65) (h0 : 0 < n) : (Instr.sliceAt 77 (.pointer (some ⟨g, 0, none⟩)) (some (.int .i64 (i : Int))) none none).run Tryd.prog W = .ok (.slice (some ⟨g, i, none⟩) n n) W := by
  have e1 : Tryd.prog.underlying 77 = some (.array (Tryd.prog.arrayLen 77) (Tryd.prog.elem 77)) := by kernel_rfl
  have e2 : Tryd.prog.arrayLen 77 = 65 := by kernel_rfl
  have e3 : ∀ W, (sizeOf (Tryd.prog.elem 77)).run Tryd.prog W = .ok 1 W := fun W => by kernel_rfl
  rw [run_sliceAt_array_l W _ _ e1 .i64 _ (by omega) (by rw [e2]; omega), e3, e2]
  show Result.ok (slicedAt ⟨g, 0, none⟩ ((i : Int).toNat) 65 65 1) W = _
  unfold slicedAt
  rw [Int.toNat_natCast, if_neg (by omega), add_plain, show 65 - i = n by omega, Nat.mul_one, Nat.zero_add]

set_option maxRecDepth 100000 in
set_option maxHeartbeats 1000000 in
theorem bits_16 (u : Nat) (hu : u < 18446744073709551616) (w : World) (T : STabs w) :
    Calls Tryd.prog 33 #[.slice none 0 0, .int .u64 (u : Int), .int .i64 16, .bool false, .bool false] w fun e w' => ∃ m, 1 ≤ m ∧ m ≤ 16 ∧ u < 16 ^ m ∧ e = .returned (.tuple #[.slice none 0 0, .string ⟨(hexP m u).toArray⟩]) ∧ Below w.heap.size w w' := by
  have hsl := fun (W : World) => index_digs 9 Tryd.underlying9 W
  go_enter Tryd.func33, Tryd.ntmps33
  go_name_bytes_deep 40 PM hPM
  go_name_bytes_deep 30 DG hDG
  have eDG : DG = Lib.digits36 := by rw [← hDG]; decide +kernel
  subst eDG
  clear hDG
  go_wp2_with fail
  refine (pow2_16 _).mono ?_
  rintro e w1 ⟨rfl, rfl⟩
  go_wp2_with fail
  refine (tz_16 _ (T.below ((Below.refl _ _).alloc (Nat.le_refl _) _))).mono ?_
  rintro e w1 ⟨rfl, rfl⟩
  go_wp2_with fail
  have hz : (w.alloc (.cells Tryd.zeroCells77 77)).heap[w.heap.size]? = some (.cells Tryd.zeroCells77 77 (0, 0)) := heap_alloc_new w _
  have hb0 : Below w.heap.size w (w.alloc (.cells Tryd.zeroCells77 77)) := (Below.refl _ _).alloc (Nat.le_refl _) _
  have hzs : (Tryd.zeroCells77).size = 65 := by kernel_rfl
  generalize w.alloc (.cells Tryd.zeroCells77 77) = W0 at hz hb0 ⊢
  generalize Tryd.zeroCells77 = Z at hz hzs
  have HU := Lib.hid hu
  go_loopw [1, 13] (fun x y wr => ∃ (j X : Nat) (cur : Array Value), X = u / 16 ^ j ∧ x = .int .u64 (X : Int) ∧ y = .int .i64 ((65 - j : Nat) : Int) ∧ j ≤ 15 ∧ wr.heap[w.heap.size]? = some (.cells cur 77 (0, 0)) ∧ cur.size = 65 ∧ cur.toList.drop (65 - j) = cs (hexP j u) ∧ Below w.heap.size w wr) (fun x _ _ => (intOf x).toNat)
  case atStart => exact ⟨0, u, Z, by simp, rfl, rfl, by omega, hz, hzs, by simp [hexP, cs, hzs], hb0⟩
  case round =>
    obtain ⟨j, X, cur, hX, rfl, rfl, hj, hg, hcs, hdr, hbr⟩ := hrel
    have hXl : X < 18446744073709551616 := by rw [hX]; exact Nat.lt_of_le_of_lt (Nat.div_le_self _ _) hu
    have hlt := (Array.getElem?_eq_some_iff.1 hg).1
    have hfz := frozen_row0 (i := 65 - j - 1) hg
    have e1 : ((65 - j : Nat) : Int) - 1 = ((65 - j - 1 : Nat) : Int) := by omega
    obtain ⟨v, hv⟩ : ∃ v, wr.cell? ⟨w.heap.size, 65 - j - 1, none⟩ = some v := by
      rw [cell_of_row wr w.heap.size _ _ _ _ hg]
      exact ⟨_, Array.getElem?_eq_getElem (by omega)⟩
    have HX := Lib.hid hX
    have HG := Lib.hid hg
    have HD := Lib.hid hdr
    have HB := Lib.hid hbr
    have fin : ∀ (d : Nat), d < 16 → d = X % 16 → (wr.setCell ⟨w.heap.size, 65 - j - 1, none⟩ (.int .u8 ((hexD d).toNat : Int))).heap[w.heap.size]? = some (.cells (cur.setIfInBounds (65 - j - 1) (.int .u8 ((hexD d).toNat : Int))) 77 (0, 0)) ∧
        (cur.setIfInBounds (65 - j - 1) (.int .u8 ((hexD d).toNat : Int))).size = 65 ∧ (cur.setIfInBounds (65 - j - 1) (.int .u8 ((hexD d).toNat : Int))).toList.drop (65 - (j + 1)) = cs (hexP (j + 1) u) ∧ Below w.heap.size w (wr.setCell ⟨w.heap.size, 65 - j - 1, none⟩ (.int .u8 ((hexD d).toNat : Int))) := by
      intro d hd hdX
      refine ⟨heapSame HG.out, by simp [hcs], ?_, HB.out.setCell (by simp) _⟩
      have hlen : 65 - j - 1 < cur.toList.length := by rw [Array.length_toList, hcs]; omega
      have hd' : cur.toList.drop (65 - j - 1 + 1) = cs (hexP j u) := by rw [show 65 - j - 1 + 1 = 65 - j by omega]; exact HD.out
      rw [Array.toList_setIfInBounds, show 65 - (j + 1) = 65 - j - 1 by omega, drop_set _ _ hlen hd', hexP_cons, hdX, HX.out]
      simp [cs]
    have FIN := Lib.hid fin
    clear hX hg hdr hu hbr fin
    by_cases h16 : X < 16
    · have hidx := fun (W : World) => hsl W .u64 X h16
      have hc16 : decide ((16 : Int) ≤ (X : Int)) = false := by simp; omega
      have hmod : X = X % 16 := (Nat.mod_eq_of_lt h16).symm
      obtain ⟨f1, f2, f3, f4⟩ := FIN.out X h16 hmod
      have hu16 : u < 16 ^ (j + 1) := by
        have := HX.out
        rw [this, Nat.div_lt_iff_lt_mul (Nat.pow_pos (by omega))] at h16
        rw [Nat.pow_succ, Nat.mul_comm]
        exact h16
      have hsee := hex_shows f1 (i := 65 - j - 1) (l := hexP (j + 1) u) (by rw [← f3, show 65 - (j + 1) = 65 - j - 1 by omega])
      rw [hexP_length] at hsee
      have hstr := hsee.string (P := Tryd.prog) (j + 1) (t := 47) (s := 9) (e := 5) Tryd.underlying47 Tryd.underlying5 Tryd.underlying9
      have H := Lib.hid (And.intro hu16 f4)
      have hsa := fun (W : World) => slice_65 W w.heap.size (65 - j - 1) (j + 1) (by omega) (by omega)
      have hj1 : j + 1 ≤ 16 := by omega
      clear f1 f2 f3 f4 hsee hmod hsl hu16 h16 T hz hb0
      go_wp2
      go_ret2
      exact ⟨j + 1, by omega, hj1, H.out.1, rfl, H.out.2⟩
    · have hc16 : decide ((16 : Int) ≤ (X : Int)) = true := by simp; omega
      obtain ⟨y, hy⟩ : ∃ y, y = X % 16 := ⟨_, rfl⟩
      have hy16 : y < 16 := by omega
      have hand : bits .and .u64 (X : Int) 15 = (y : Int) := by rw [hy]; exact and_15 X hXl
      have hidx := fun (W : World) => hsl W .u64 y hy16
      obtain ⟨f1, f2, f3, f4⟩ := FIN.out y hy16 hy
      have hj2 : j + 1 ≤ 15 := by
        rcases Nat.lt_or_ge (j + 1) 16 with h | h
        · omega
        · exfalso
          have h1 : 16 ^ 16 ≤ 16 ^ (j + 1) := Nat.pow_le_pow_right (by omega) h
          have h2 : 16 * 16 ^ j ≤ u := by
            have h3 : 16 ≤ u / 16 ^ j := by rw [← HX.out]; omega
            exact (Nat.le_div_iff_mul_le (Nat.pow_pos (by omega))).1 h3
          rw [Nat.pow_succ, Nat.mul_comm] at h1
          have := HU.out
          omega
      have hX2 : X / 16 = u / 16 ^ (j + 1) := by rw [HX.out, Nat.div_div_eq_div_mul, Nat.pow_succ]
      have H := Lib.hid (And.intro f1 (And.intro f2 (And.intro f3 f4)))
      have HX2 := Lib.hid hX2
      have H16 := Lib.hid h16
      clear f1 f2 f3 f4 hsl hX2 hy T hz hb0 h16
      go_wp2
      go_roundw
      case rel => exact ⟨j + 1, X / 16, _, HX2.out, by simp, by rw [show 65 - (j + 1) = 65 - j - 1 by omega], hj2, H.out.1, H.out.2.1, H.out.2.2.1, H.out.2.2.2⟩
      case measure => have := H16.out; simp [intOf]; omega

theorem formatUint_16 (u : Nat) (hu : u < 18446744073709551616) (w : World) (T : STabs w) :
    Calls Tryd.prog 9 #[.int .u64 (u : Int), .int .i64 16] w fun e w' => ∃ m, 1 ≤ m ∧ m ≤ 16 ∧ u < 16 ^ m ∧ e = .returned (.string ⟨(hexP m u).toArray⟩) ∧ Below w.heap.size w w' := by
  have h1 : Calls Tryd.prog 17 #[.int .u64 (u : Int), .int .i64 16] w fun e w' => ∃ m, 1 ≤ m ∧ m ≤ 16 ∧ u < 16 ^ m ∧ e = .returned (.string ⟨(hexP m u).toArray⟩) ∧ Below w.heap.size w w' := by
    go_enter Tryd.func17, Tryd.ntmps17
    go_wp2_with fail
    refine (bits_16 u hu w T).mono ?_
    rintro e w1 ⟨m, h1, h2, h3, rfl, hb⟩
    have H := Lib.hid h3
    clear h3
    go_wp2
    go_ret
    exact ⟨m, h1, h2, H.out, rfl, hb⟩
  go_enter Tryd.func9, Tryd.ntmps9
  go_wp2_with fail
  refine h1.mono ?_
  rintro e w1 ⟨m, h1, h2, h3, rfl, hb⟩
  have H := Lib.hid h3
  clear h3
  go_wp2
  go_ret
  exact ⟨m, h1, h2, H.out, rfl, hb⟩
end Go.Proofs.YtdelppndoepkbaaDoor.Seg
