/- Texts of the law ReplicaNil, put together. -/
import Derived.Test.YtinjbdgjcadodaaGreatDoorRows
import Derived.Handy
import Derived.LaidMore
import Derived.LaidLaws
import Derived.Lib.LaidTab
import Derived.Lib.SmallJoins
import Derived.Lib.ItoaNum
import Derived.Stop.LaidErr
import Derived.Lib.AtoiAll
import Derived.Lib.Bytealg
import Derived.Lib.Strings
import Derived.Lib.Hide
import Derived.Lib.ItoaWalk
import Derived.WalkSpells
import Derived.Lib.AtoiErrMem
import Derived.Lib.ConvBytes
import Derived.Test.YtinjbdgjcadodaaGreatDoorRNp01
import Derived.Test.YtinjbdgjcadodaaGreatDoorRNp08
set_option linter.unusedVariables false
set_option maxRecDepth 100000
namespace Go.Proofs.YtinjbdgjcadodaaGreatDoor.Seg
open Go Go.RowKit Words
structure STabs (w : World) : Prop where
 pows : Lib.TabIs Tryz.prog w "internal/strconv.uint64pow10" .u64 Lib.pow10Tab
 deb : w.cell? ⟨6, 15, none⟩ = some (.int .u8 4)
 es : ∃ u v, w.cell? ⟨7, 0, none⟩ = some (.iface u v)
 er : ∃ u v, w.cell? ⟨8, 0, none⟩ = some (.iface u v)
theorem named_pows : Tryz.prog.globalNamed "internal/strconv.uint64pow10" = some 3 := by kernel_rfl
theorem named_deb : Tryz.prog.globalNamed "math/bits.deBruijn64tab" = some 6 := by kernel_rfl
theorem named_es : Tryz.prog.globalNamed "strconv.ErrSyntax" = some 7 := by kernel_rfl
theorem named_er : Tryz.prog.globalNamed "strconv.ErrRange" = some 8 := by kernel_rfl
theorem cell_below {w w' : World} {p : Addr} {v : Value} (h : w.cell? p = some v) (hb : Below w.heap.size w w') : w'.cell? p = some v := by
 rw [hb.cell (World.block_lt_of_cell? _ _ h)]
 exact h
theorem STabs.below {w w' : World} (h : STabs w) (hb : Below w.heap.size w w') : STabs w' := by
 obtain ⟨u, v, h1⟩ := h.es
 obtain ⟨x, y, h2⟩ := h.er
 exact ⟨Joins.tab_stays named_pows h.pows hb (Nat.le_refl _), cell_below h.deb hb, ⟨u, v, cell_below h1 hb⟩, ⟨x, y, cell_below h2 hb⟩⟩
theorem laid_iface {P : Program} {n nm : String} {d : DataW Unit} {r : List (String × DataW Unit)} {W : World} {g : Nat} {ti : TypeId} {ms : Array (String × TypeId)}
  (h : laidMet P ((n, .iface nm d) :: r) W) (hg : P.globalNamed n = some g) (ht : (P.globals[g]?).map (·.type) = some ti) (hi : P.underlying ti = some (.interface ms)) : ∃ u v, W.cell? ⟨g, 0, none⟩ = some (.iface u v) := by
 obtain ⟨ps, ⟨g0, t0, cs0, f0, p0, q0, hg0, ht0, hv0, hd0, _, e0⟩, _, hrows⟩ := h
 obtain rfl := Option.some.inj (hg.symm.trans hg0)
 obtain rfl := Option.some.inj (ht.symm.trans ht0)
 obtain ⟨l0⟩ := cs0
 obtain ⟨f1, u, v, hcs, hn, h1⟩ := iface_of_trod hi hd0
 simp only at hcs
 subst hcs
 exact ⟨u, v, by simpa using World.var?_cell hg0 hv0 0⟩
def debInts : List Int := [0, 1, 56, 2, 57, 49, 28, 3, 61, 58, 42, 50, 38, 29, 17, 4, 62, 47, 59, 36, 45, 43, 51, 22, 53, 39, 33, 30, 24, 18, 12, 5, 63, 55, 48, 27, 60, 41, 37, 16, 46, 35, 44, 21, 52, 32, 23, 11, 54, 26, 40, 15, 34, 20, 31, 10, 25, 14, 19, 9, 13, 8, 7, 6]
theorem tabs_of {W : World} {d32 dr ds : DataW Unit} {n32 nr ns : String} {r : List (String × DataW Unit)}
  (h : laidMet Tryz.prog ((n32, d32) :: ("math/bits.deBruijn64tab", Lib.tabData .u8 debInts) :: ("internal/strconv.uint64pow10", Lib.tabData .u64 Lib.pow10Tab) :: ("strconv.ErrRange", .iface nr dr) :: ("strconv.ErrSyntax", .iface ns ds) :: r) W) : STabs W ∧ laidMet Tryz.prog r W := by
 have h1 := h.tail
 have h2 := h1.tail
 have h3 := h2.tail
 have h4 := h3.tail
 have hd := Lib.tabIs_of_head (g := 6) (t := 428) (e := 5) (n := 64) named_deb (by kernel_rfl) Tryz.underlying428 Tryz.underlying5 (by kernel_rfl) (by kernel_rfl) h1
 exact ⟨⟨Lib.tabIs_of_head (g := 3) (t := 409) (e := 22) (n := 20) named_pows (by kernel_rfl) Tryz.underlying409 Tryz.underlying22 (by kernel_rfl) (by kernel_rfl) h2,
  hd.cell named_deb 15 (by decide),
  laid_iface h4 named_es (by kernel_rfl) Tryz.underlying330,
  laid_iface h3 named_er (by kernel_rfl) Tryz.underlying330⟩, h4.tail⟩
def heads : List (String × DataW Unit) := [("math/bits.deBruijn32tab", Rows.laid_math_bits_deBruijn32tab), ("math/bits.deBruijn64tab", Lib.tabData .u8 debInts), ("internal/strconv.uint64pow10", Lib.tabData .u64 Lib.pow10Tab),
 ("strconv.ErrRange", .iface "*errors.errorString" (.ptr (.agg [.lit (.string [118, 97, 108, 117, 101, 32, 111, 117, 116, 32, 111, 102, 32, 114, 97, 110, 103, 101])]))),
 ("strconv.ErrSyntax", .iface "*errors.errorString" (.ptr (.agg [.lit (.string [105, 110, 118, 97, 108, 105, 100, 32, 115, 121, 110, 116, 97, 120])])))]
theorem tabs_heads {W : World} {r : List (String × DataW Unit)} (h : laidMet Tryz.prog (heads ++ r) W) : STabs W ∧ laidMet Tryz.prog r W := tabs_of h
end Go.Proofs.YtinjbdgjcadodaaGreatDoor.Seg
namespace Go.Proofs.YtinjbdgjcadodaaGreatDoor.Seg
open Go Go.RowKit Words Enc Dsk
def hexD (d : Nat) : UInt8 := if d < 10 then b8 (48 + d) else b8 (87 + d)
def hexP : Nat → Nat → List UInt8
 | 0, _ => []
 | k + 1, u => hexP k (u / 16) ++ [hexD (u % 16)]
theorem hexP_length : ∀ k u, (hexP k u).length = k
 | 0, _ => rfl
 | k + 1, u => by simp [hexP, hexP_length k]
theorem hexP_cons : ∀ k u, hexP (k + 1) u = hexD (u / 16 ^ k % 16) :: hexP k u
 | 0, u => by simp [hexP]
 | k + 1, u => by
   have h := hexP_cons k (u / 16)
   rw [Nat.div_div_eq_div_mul, ← Nat.pow_succ'] at h
   show hexP (k + 1) (u / 16) ++ [hexD (u % 16)] = _
   rw [h]
   rfl
theorem hexP_zero : ∀ k, hexP k 0 = List.replicate k 48
 | 0 => rfl
 | k + 1 => by
   show hexP k 0 ++ [48] = _
   rw [hexP_zero k, List.replicate_succ']
theorem hexP_pad : ∀ k j u, u < 16 ^ k → hexP (j + k) u = List.replicate j 48 ++ hexP k u
 | 0, j, u, h => by
   have : u = 0 := by simp at h; omega
   subst this
   simp [hexP_zero, hexP]
 | k + 1, j, u, h => by
   show hexP (j + k) (u / 16) ++ [hexD (u % 16)] = _ ++ (hexP k (u / 16) ++ [hexD (u % 16)])
   rw [hexP_pad k j (u / 16) (by rw [Nat.pow_succ] at h; omega), List.append_assoc]
theorem hexD_ok : ∀ d : Fin 16, okB (hexD d.val).toNat = true := by decide +kernel
theorem hexP_ok : ∀ k u, (hexP k u).all (fun b => okB b.toNat) = true
 | 0, _ => rfl
 | k + 1, u => by
   simp only [hexP, List.all_append, List.all_cons, List.all_nil, Bool.and_true, Bool.and_eq_true]
   exact ⟨hexP_ok k _, hexD_ok ⟨u % 16, Nat.mod_lt _ (by decide)⟩⟩
def dig3 (n : Nat) : List UInt8 := if n < 10 then [UInt8.ofNat (48 + n)] else if n < 100 then [UInt8.ofNat (48 + n / 10), UInt8.ofNat (48 + n % 10)] else [UInt8.ofNat (48 + n / 100), UInt8.ofNat (48 + n / 10 % 10), UInt8.ofNat (48 + n % 10)]
theorem itoa_dig3 {n : Nat} (h : n < 256) : Lib.itoa (n : Int) = dig3 n := by
 unfold Lib.itoa
 rw [if_neg (by omega), Int.toNat_natCast]
 unfold dig3
 by_cases h1 : n < 10
 ·rw [if_pos h1, Lib.decDigits_one h1]
 ·rw [if_neg h1]
  by_cases h2 : n < 100
  ·rw [if_pos h2, Lib.decDigits_two h1 h2]
  ·rw [if_neg h2, Lib.decDigits, dif_neg h1, Lib.decDigits_two (by omega) (by omega)]
   have : n / 10 / 10 = n / 100 := by omega
   rw [this]
   rfl
theorem dig3_facts : ∀ n : Fin 256, Lib.atoiAll (dig3 n.val) = .ok (n.val : Int) ∧ (dig3 n.val).all (fun b => okB b.toNat && decide (b ≠ 45)) = true ∧ 1 ≤ (dig3 n.val).length ∧ (dig3 n.val).length ≤ 3 := by decide +kernel
def beginL (x : Int) : List UInt8 := [102, 101, 101, 100, 45] ++ (Lib.itoa x ++ [45])
def nameL (x : Int) (u : Nat) : List UInt8 := beginL x ++ hexP 16 u
theorem begin_len {n : Nat} (h : n < 256) : 7 ≤ (beginL (n : Int)).length ∧ (beginL (n : Int)).length ≤ 9 := by
 obtain ⟨_, _, h3, h4⟩ := dig3_facts ⟨n, h⟩
 simp only [beginL, itoa_dig3 h, List.length_append, List.length_cons, List.length_nil]
 simp only at h3 h4
 omega
theorem name_len {n u : Nat} (h : n < 256) : 23 ≤ (nameL (n : Int) u).length ∧ (nameL (n : Int) u).length ≤ 25 := by
 have := begin_len h
 simp only [nameL, List.length_append, hexP_length]
 omega
theorem name_ok {n u : Nat} (h : n < 256) : okName (nameL (n : Int) u) = true := by
 obtain ⟨_, h2, _, _⟩ := dig3_facts ⟨n, h⟩
 have hl := name_len (u := u) h
 have hh := hexP_ok 16 u
 have h5 : okB (45 : UInt8).toNat = true ∧ okB (102 : UInt8).toNat = true ∧ okB (101 : UInt8).toNat = true ∧ okB (100 : UInt8).toNat = true := by decide +kernel
 simp only [okName, Bool.and_eq_true, decide_eq_true_eq]
 refine ⟨⟨by omega, by omega⟩, ?_⟩
 rw [List.all_eq_true] at h2 hh ⊢
 intro b hb
 simp only [nameL, beginL, itoa_dig3 h, List.mem_append, List.mem_cons, List.not_mem_nil, or_false] at hb
 rcases hb with ((rfl | rfl | rfl | rfl | rfl) | hb | rfl) | hb
 ·exact h5.2.1
 ·exact h5.2.2.1
 ·exact h5.2.2.1
 ·exact h5.2.2.2
 ·exact h5.1
 ·have := h2 b hb
  simp only [Bool.and_eq_true] at this
  exact this.1
 ·exact h5.1
 ·exact hh b hb
end Go.Proofs.YtinjbdgjcadodaaGreatDoor.Seg
namespace Go.Proofs.YtinjbdgjcadodaaGreatDoor.Seg
open Go Go.RowKit Words Enc Go.Proofs.YtinjbdgjcadodaaGreatDoor.Made
theorem pow2_16 (w : World) : Calls Tryz.prog 339 #[.int .i64 16] w fun e w' => e = .returned (.bool true) ∧ w' = w := by
 go_enter Tryz.func339, Tryz.ntmps339
 go_wp2
 go_ret
 exact ⟨rfl, rfl⟩
theorem tz64_16 (w : World) (T : STabs w) : Calls Tryz.prog 356 #[.int .u64 16] w fun e w' => e = .returned (.int .i64 4) ∧ w' = w := by
 have hd := T.deb
 have hb : bits .and .u64 16 (IntKind.u64.wrap (-16)) = 16 := by decide +kernel
 have hm : IntKind.u64.wrap (16 * 285870213051353865) = 4573923408821661840 := by decide +kernel
 have hm2 : IntKind.u64.wrap 4573923408821661840 = 4573923408821661840 := by decide +kernel
 go_enter Tryz.func356, Tryz.ntmps356
 go_wp2
 go_ret
 exact ⟨rfl, rfl⟩
theorem tz_16 (w : World) (T : STabs w) : Calls Tryz.prog 340 #[.int .u64 16] w fun e w' => e = .returned (.int .i64 4) ∧ w' = w := by
 go_enter Tryz.func340, Tryz.ntmps340
 go_wp2_with fail
 refine (tz64_16 w T).mono ?_
 rintro e w1 ⟨rfl, rfl⟩
 go_wp2
 go_ret
 exact ⟨rfl, rfl⟩
theorem digs_at : ∀ d : Fin 16, Lib.digits36.data.toList[d.val]? = some (hexD d.val) := by decide +kernel
theorem index_digs (T : TypeId) (hT : Tryz.prog.underlying T = some .string) (W : World) (k : IntKind) (d : Nat) (hd : d < 16) : (Instr.index T (.string Lib.digits36) (.int k (d : Int))).run Tryz.prog W = .ok (.int .u8 ((hexD d).toNat : Int)) W := by
 have hs : Lib.digits36.size = 36 := by rw [Lib.digits36_size]
 have h := digs_at ⟨d, hd⟩
 rw [run_index_string W T Lib.digits36 k (d : Int) hT, dif_pos ⟨by omega, by omega⟩]
 have h2 : (Lib.digits36[(d : Int).toNat]'(by omega)) = hexD d := by
  have h3 : Lib.digits36.data.toList[d]? = some (Lib.digits36[d]'(by omega)) := by
   rw [List.getElem?_eq_getElem (by rw [Array.length_toList]; show d < Lib.digits36.size; omega)]
   rfl
  rw [h] at h3
  exact (Option.some.inj h3).symm
 rw [h2]
theorem and_15 (x : Nat) (h : x < 18446744073709551616) : bits .and .u64 (x : Int) 15 = ((x % 16 : Nat) : Int) := by
 rw [show (15 : Int) = ((15 : Nat) : Int) from rfl, u64_and_nat x 15 h (by omega)]
 congr 1
 exact Nat.and_two_pow_sub_one_eq_mod x 4
theorem drop_set {cur : List Value} {k : Nat} (v : Value) (l : List Value) (h : k < cur.length) (hd : cur.drop (k + 1) = l) : (cur.set k v).drop k = v :: l := by
 rw [List.drop_eq_getElem_cons (by simpa using h), List.drop_set_of_lt (by omega), hd]
 simp
theorem hex_shows {w : World} {g : Nat} {cur : Array Value} {T : TypeId} {fr : Nat × Nat} {i : Nat} {l : List UInt8} (hg : w.heap[g]? = some (.cells cur T fr)) (hd : cur.toList.drop i = cs l) : Sees w (some ⟨g, i, none⟩) l.length l := by
 refine ⟨rfl, fun _ => ⟨g, i, rfl, fun j u hu => ?_⟩⟩
 rw [cell_of_row w g _ _ _ _ hg]
 have h1 := cs_get hu
 rw [← hd, List.getElem?_drop] at h1
 simpa using h1
theorem slice_65 (W : World) (g i n : Nat) (h : i + n = 65) (h0 : 0 < n) : (Instr.sliceAt 410 (.pointer (some ⟨g, 0, none⟩)) (some (.int .i64 (i : Int))) none none).run Tryz.prog W = .ok (.slice (some ⟨g, i, none⟩) n n) W := by
 have e1 : Tryz.prog.underlying 410 = some (.array (Tryz.prog.arrayLen 410) (Tryz.prog.elem 410)) := by kernel_rfl
 have e2 : Tryz.prog.arrayLen 410 = 65 := by kernel_rfl
 have e3 : ∀ W, (sizeOf (Tryz.prog.elem 410)).run Tryz.prog W = .ok 1 W := fun W => by kernel_rfl
 rw [run_sliceAt_array_l W _ _ e1 .i64 _ (by omega) (by rw [e2]; omega), e3, e2]
 show Result.ok (slicedAt ⟨g, 0, none⟩ ((i : Int).toNat) 65 65 1) W = _
 unfold slicedAt
 rw [Int.toNat_natCast, if_neg (by omega), add_plain, show 65 - i = n by omega, Nat.mul_one, Nat.zero_add]
set_option maxHeartbeats 1000000 in
theorem bits_16 (u : Nat) (hu : u < 18446744073709551616) (w : World) (T : STabs w) :
  Calls Tryz.prog 310 #[.slice none 0 0, .int .u64 (u : Int), .int .i64 16, .bool false, .bool false] w fun e w' => ∃ m, 1 ≤ m ∧ m ≤ 16 ∧ u < 16 ^ m ∧ e = .returned (.tuple #[.slice none 0 0, .string ⟨(hexP m u).toArray⟩]) ∧ Below w.heap.size w w' := by
 have hsl := fun (W : World) => index_digs 9 Tryz.underlying9 W
 go_enter Tryz.func310, Tryz.ntmps310
 go_name_bytes_deep 40 PM hPM
 go_name_bytes_deep 30 DG hDG
 have eDG : DG = Lib.digits36 := by rw [← hDG]; decide +kernel
 subst eDG
 clear hDG
 go_wp2_with fail
 refine (pow2_16 _).mono ?_
 rintro e w1 ⟨rfl, rfl⟩
 go_wp2_with fail
 refine (tz_16 _ (T.below ((Below.refl _ _).alloc (Nat.le_refl _) _))).mono ?_
 rintro e w1 ⟨rfl, rfl⟩
 go_wp2_with fail
 have hz : (w.alloc (.cells Tryz.zeroCells410 410)).heap[w.heap.size]? = some (.cells Tryz.zeroCells410 410 (0, 0)) := heap_alloc_new w _
 have hb0 : Below w.heap.size w (w.alloc (.cells Tryz.zeroCells410 410)) := (Below.refl _ _).alloc (Nat.le_refl _) _
 have hzs : (Tryz.zeroCells410).size = 65 := by kernel_rfl
 generalize w.alloc (.cells Tryz.zeroCells410 410) = W0 at hz hb0 ⊢
 generalize Tryz.zeroCells410 = Z at hz hzs
 have HU := Lib.hid hu
 go_loopw [1, 13] (fun x y wr => ∃ (j X : Nat) (cur : Array Value), X = u / 16 ^ j ∧ x = .int .u64 (X : Int) ∧ y = .int .i64 ((65 - j : Nat) : Int) ∧ j ≤ 15 ∧ wr.heap[w.heap.size]? = some (.cells cur 410 (0, 0)) ∧ cur.size = 65 ∧ cur.toList.drop (65 - j) = cs (hexP j u) ∧ Below w.heap.size w wr) (fun x _ _ => (intOf x).toNat)
 case atStart => exact ⟨0, u, Z, by simp, rfl, rfl, by omega, hz, hzs, by simp [hexP, cs, hzs], hb0⟩
 case round =>
  obtain ⟨j, X, cur, hX, rfl, rfl, hj, hg, hcs, hdr, hbr⟩ := hrel
  have hXl : X < 18446744073709551616 := by rw [hX]; exact Nat.lt_of_le_of_lt (Nat.div_le_self _ _) hu
  have hlt := (Array.getElem?_eq_some_iff.1 hg).1
  have hfz := frozen_row0 (i := 65 - j - 1) hg
  have e1 : ((65 - j : Nat) : Int) - 1 = ((65 - j - 1 : Nat) : Int) := by omega
  obtain ⟨v, hv⟩ : ∃ v, wr.cell? ⟨w.heap.size, 65 - j - 1, none⟩ = some v := by
   rw [cell_of_row wr w.heap.size _ _ _ _ hg]
   exact ⟨_, Array.getElem?_eq_getElem (by omega)⟩
  have HX := Lib.hid hX
  have HG := Lib.hid hg
  have HD := Lib.hid hdr
  have HB := Lib.hid hbr
  have fin : ∀ (d : Nat), d < 16 → d = X % 16 → (wr.setCell ⟨w.heap.size, 65 - j - 1, none⟩ (.int .u8 ((hexD d).toNat : Int))).heap[w.heap.size]? = some (.cells (cur.setIfInBounds (65 - j - 1) (.int .u8 ((hexD d).toNat : Int))) 410 (0, 0)) ∧
    (cur.setIfInBounds (65 - j - 1) (.int .u8 ((hexD d).toNat : Int))).size = 65 ∧ (cur.setIfInBounds (65 - j - 1) (.int .u8 ((hexD d).toNat : Int))).toList.drop (65 - (j + 1)) = cs (hexP (j + 1) u) ∧ Below w.heap.size w (wr.setCell ⟨w.heap.size, 65 - j - 1, none⟩ (.int .u8 ((hexD d).toNat : Int))) := by
   intro d hd hdX
   refine ⟨heapSame HG.out, by simp [hcs], ?_, HB.out.setCell (by simp) _⟩
   have hlen : 65 - j - 1 < cur.toList.length := by rw [Array.length_toList, hcs]; omega
   have hd' : cur.toList.drop (65 - j - 1 + 1) = cs (hexP j u) := by rw [show 65 - j - 1 + 1 = 65 - j by omega]; exact HD.out
   rw [Array.toList_setIfInBounds, show 65 - (j + 1) = 65 - j - 1 by omega, drop_set _ _ hlen hd', hexP_cons, hdX, HX.out]
   simp [cs]
  have FIN := Lib.hid fin
  clear hX hg hdr hu hbr fin
  by_cases h16 : X < 16
  ·have hidx := fun (W : World) => hsl W .u64 X h16
   have hc16 : decide ((16 : Int) ≤ (X : Int)) = false := by simp; omega
   have hmod : X = X % 16 := (Nat.mod_eq_of_lt h16).symm
   obtain ⟨f1, f2, f3, f4⟩ := FIN.out X h16 hmod
   have hu16 : u < 16 ^ (j + 1) := by
    have := HX.out
    rw [this, Nat.div_lt_iff_lt_mul (Nat.pow_pos (by omega))] at h16
    rw [Nat.pow_succ, Nat.mul_comm]
    exact h16
   have hsee := hex_shows f1 (i := 65 - j - 1) (l := hexP (j + 1) u) (by rw [← f3, show 65 - (j + 1) = 65 - j - 1 by omega])
   rw [hexP_length] at hsee
   have hstr := hsee.string (P := Tryz.prog) (j + 1) (t := 28) (s := 9) (e := 5) Tryz.underlying28 Tryz.underlying5 Tryz.underlying9
   have H := Lib.hid (And.intro hu16 f4)
   have hsa := fun (W : World) => slice_65 W w.heap.size (65 - j - 1) (j + 1) (by omega) (by omega)
   have hj1 : j + 1 ≤ 16 := by omega
   clear f1 f2 f3 f4 hsee hmod hsl hu16 h16 T hz hb0
   go_wp2
   go_ret2
   exact ⟨j + 1, by omega, hj1, H.out.1, rfl, H.out.2⟩
  ·have hc16 : decide ((16 : Int) ≤ (X : Int)) = true := by simp; omega
   obtain ⟨y, hy⟩ : ∃ y, y = X % 16 := ⟨_, rfl⟩
   have hy16 : y < 16 := by omega
   have hand : bits .and .u64 (X : Int) 15 = (y : Int) := by rw [hy]; exact and_15 X hXl
   have hidx := fun (W : World) => hsl W .u64 y hy16
   obtain ⟨f1, f2, f3, f4⟩ := FIN.out y hy16 hy
   have hj2 : j + 1 ≤ 15 := by
    rcases Nat.lt_or_ge (j + 1) 16 with h | h
    ·omega
    ·exfalso
     have h1 : 16 ^ 16 ≤ 16 ^ (j + 1) := Nat.pow_le_pow_right (by omega) h
     have h2 : 16 * 16 ^ j ≤ u := by
      have h3 : 16 ≤ u / 16 ^ j := by rw [← HX.out]; omega
      exact (Nat.le_div_iff_mul_le (Nat.pow_pos (by omega))).1 h3
     rw [Nat.pow_succ, Nat.mul_comm] at h1
     have := HU.out
     omega
   have hX2 : X / 16 = u / 16 ^ (j + 1) := by rw [HX.out, Nat.div_div_eq_div_mul, Nat.pow_succ]
   have H := Lib.hid (And.intro f1 (And.intro f2 (And.intro f3 f4)))
   have HX2 := Lib.hid hX2
   have H16 := Lib.hid h16
   clear f1 f2 f3 f4 hsl hX2 hy T hz hb0 h16
   go_wp2
   go_roundw
   case rel => exact ⟨j + 1, X / 16, _, HX2.out, by simp, by rw [show 65 - (j + 1) = 65 - j - 1 by omega], hj2, H.out.1, H.out.2.1, H.out.2.2.1, H.out.2.2.2⟩
   case measure => have := H16.out; simp [intOf]; omega
theorem formatUint_16 (u : Nat) (hu : u < 18446744073709551616) (w : World) (T : STabs w) :
  Calls Tryz.prog 193 #[.int .u64 (u : Int), .int .i64 16] w fun e w' => ∃ m, 1 ≤ m ∧ m ≤ 16 ∧ u < 16 ^ m ∧ e = .returned (.string ⟨(hexP m u).toArray⟩) ∧ Below w.heap.size w w' := by
 have h1 : Calls Tryz.prog 256 #[.int .u64 (u : Int), .int .i64 16] w fun e w' => ∃ m, 1 ≤ m ∧ m ≤ 16 ∧ u < 16 ^ m ∧ e = .returned (.string ⟨(hexP m u).toArray⟩) ∧ Below w.heap.size w w' := by
  go_enter Tryz.func256, Tryz.ntmps256
  go_wp2_with fail
  refine (bits_16 u hu w T).mono ?_
  rintro e w1 ⟨m, h1, h2, h3, rfl, hb⟩
  have H := Lib.hid h3
  clear h3
  go_wp2
  go_ret
  exact ⟨m, h1, h2, H.out, rfl, hb⟩
 go_enter Tryz.func193, Tryz.ntmps193
 go_wp2_with fail
 refine h1.mono ?_
 rintro e w1 ⟨m, h1, h2, h3, rfl, hb⟩
 have H := Lib.hid h3
 clear h3
 go_wp2
 go_ret
 exact ⟨m, h1, h2, H.out, rfl, hb⟩
theorem ba_append (a b : List UInt8) : (⟨a.toArray⟩ : ByteArray) ++ ⟨b.toArray⟩ = ⟨(a ++ b).toArray⟩ := by
 apply ByteArray.ext
 simp
theorem below_grown (w : World) (k : Nat) (os : Array Obj) : Below w.heap.size w (Go.Sort.grow (w.drewN k) os) :=
 ⟨rfl, rfl, rfl, by simp [Go.Sort.grow], fun i hi => by
  show (w.heap ++ os)[i]? = _
  rw [Array.getElem?_append_left hi]⟩
theorem nDigits_le : ∀ (k u : Nat), u < 10 ^ (k + 1) → Lib.nDigits u ≤ k + 1
 | 0, u, h => by rw [Lib.nDigits_small (by simpa using h)]; exact Nat.le_refl _
 | k + 1, u, h => by
   by_cases h10 : u < 10
   ·rw [Lib.nDigits_small h10]; omega
   ·rw [Lib.nDigits_big h10]
    have := nDigits_le k (u / 10) (by rw [Nat.pow_succ] at h; omega)
    omega
theorem itoa_len (x : Int) (h0 : -9223372036854775808 ≤ x) (h1 : x ≤ 9223372036854775807) : (Lib.itoa x).length ≤ 20 := by
 unfold Lib.itoa
 split
 ·have := nDigits_le 18 x.natAbs (by omega)
  rw [List.length_cons, Lib.decDigits_length]; omega
 ·have := nDigits_le 18 x.toNat (by omega)
  rw [Lib.decDigits_length]; omega
theorem zeros_cut (k m : Nat) (hm : m ≤ k) : (⟨(List.replicate k 48).toArray⟩ : ByteArray).extract 0 m = ⟨(List.replicate m 48).toArray⟩ := by
 apply ByteArray.ext
 simp [hm]
theorem begin_any (x : Int) (h0 : -9223372036854775808 ≤ x) (h1 : x ≤ 9223372036854775807) (w : World) (T : STabs w) :
  Calls Tryz.prog 194 #[.int .i64 x] w fun e w' => e = .returned (.string ⟨(beginL x).toArray⟩) ∧ Below w.heap.size w w' := by
 go_enter Tryz.func194, Tryz.ntmps194
 go_wp2_with fail
 refine (Tryz.strconv_Itoa x h0 h1 w T.pows).mono ?_
 rintro e w1 ⟨rfl, k, os, rfl⟩
 have hb := below_grown w k os
 have hl := itoa_len x h0 h1
 have hl1 : ¬ 9223372036854775807 < 5 + (Lib.itoa x).length := by omega
 have hl2 : ¬ 9223372036854775807 < 5 + (Lib.itoa x).length + 1 := by omega
 go_wp2
 go_ret
 refine ⟨?_, hb⟩
 rw [show (⟨#[102, 101, 101, 100, 45]⟩ : ByteArray) = ⟨[102, 101, 101, 100, 45].toArray⟩ from rfl, show (⟨#[45]⟩ : ByteArray) = ⟨[45].toArray⟩ from rfl, ba_append, ba_append, List.append_assoc]
 rfl
set_option maxHeartbeats 1000000 in
theorem repeat_zero (m : Nat) (hm : m ≤ 15) (w : World) :
  Calls Tryz.prog 195 #[.string ⟨#[48]⟩, .int .i64 (m : Int)] w fun e w' => e = .returned (.string ⟨(List.replicate m 48).toArray⟩) ∧ w' = w := by
 rcases (show m = 0 ∨ m = 1 ∨ 2 ≤ m by omega) with rfl | rfl | h2
 ·go_enter Tryz.func195, Tryz.ntmps195
  go_wp2
  go_ret
  exact ⟨rfl, rfl⟩
 ·go_enter Tryz.func195, Tryz.ntmps195
  go_wp2
  go_ret
  exact ⟨rfl, rfl⟩
 ·go_enter Tryz.func195, Tryz.ntmps195
  go_wp2_with fail
  refine (Tryz.bits_Mul 1 m (by omega) (by omega) w).mono ?_
  rintro e w1 ⟨rfl, rfl⟩
  rw [Nat.one_mul, Nat.div_eq_of_lt (by omega), Nat.mod_eq_of_lt (by omega)]
  go_wp2_with fail
  refine (Tryz.strings_HasPrefix _ _ _).mono ?_
  rintro e w2 ⟨rfl, rfl⟩
  generalize hB : Lib.hasPrefix _ _ = B
  obtain rfl : B = false := by rw [← hB]; decide +kernel
  clear hB
  go_wp2_with fail
  refine (Tryz.strings_HasPrefix _ _ _).mono ?_
  rintro e w2 ⟨rfl, rfl⟩
  generalize hB : Lib.hasPrefix _ _ = B
  obtain rfl : B = false := by rw [← hB]; decide +kernel
  clear hB
  go_wp2_with fail
  refine (Tryz.strings_HasPrefix _ _ _).mono ?_
  rintro e w2 ⟨rfl, rfl⟩
  generalize hB : Lib.hasPrefix _ _ = B
  obtain rfl : B = true := by rw [← hB]; decide +kernel
  clear hB
  go_wp2
  go_ret
  refine ⟨?_, rfl⟩
  rw [← zeros_cut 64 m (by omega)]
  rfl
set_option maxHeartbeats 1000000 in
theorem name_any (x : Int) (u : Nat) (h0 : -9223372036854775808 ≤ x) (h1 : x ≤ 9223372036854775807) (hu : u < 18446744073709551616) (w : World) (T : STabs w) :
  Calls Tryz.prog 128 #[.int .i64 x, .int .u64 (u : Int)] w fun e w' => e = .returned (.string ⟨(nameL x u).toArray⟩) ∧ Below w.heap.size w w' := by
 have hl := itoa_len x h0 h1
 have hbl : (beginL x).length ≤ 26 := by simp only [beginL, List.length_append, List.length_cons, List.length_nil]; omega
 go_enter Tryz.func128, Tryz.ntmps128
 go_wp2_with fail
 refine (formatUint_16 u hu w T).mono ?_
 rintro e w1 ⟨m, hm1, hm2, hm3, rfl, hb1⟩
 obtain ⟨H, hH⟩ : ∃ H, H = hexP m u := ⟨_, rfl⟩
 have hHl : H.length = m := by rw [hH, hexP_length]
 rw [← hH]
 obtain ⟨B, hB⟩ : ∃ B, B = beginL x := ⟨_, rfl⟩
 have hbeg := begin_any x h0 h1 w1 (T.below hb1)
 rw [← hB] at hbeg hbl
 have HH := Lib.hid (And.intro hm3 (And.intro hH hB))
 clear hm3 hH hB
 go_wp2_with fail
 refine hbeg.mono ?_
 rintro e w2 ⟨rfl, hb2⟩
 clear hbeg
 have hsub : ((16 : Int) - (m : Int)) = ((16 - m : Nat) : Int) := by omega
 go_wp2_with fail
 obtain ⟨Z, hZ⟩ : ∃ Z : List UInt8, Z = List.replicate (16 - m) 48 := ⟨_, rfl⟩
 have hZl : Z.length = 16 - m := by rw [hZ, List.length_replicate]
 have hrep := repeat_zero (16 - m) (by omega) w2
 rw [← hZ] at hrep
 have HZ := Lib.hid hZ
 clear hZ
 refine hrep.mono ?_
 rintro e w3 ⟨rfl, rfl⟩
 clear hrep
 have hl1 : ¬ 9223372036854775807 < B.length + (16 - m) := by omega
 have hl2 : ¬ 9223372036854775807 < B.length + (16 - m) + m := by omega
 have HB := Lib.hid (hb1.trans (hb2.mono hb1.size))
 clear hb1 hb2 hsub
 go_wp2
 go_ret
 refine ⟨?_, HB.out⟩
 obtain ⟨g1, g2, g3⟩ := HH.out
 rw [ba_append, ba_append, g3, g2, HZ.out, List.append_assoc, ← hexP_pad m (16 - m) u g1, show 16 - m + m = 16 by omega]
 rfl
end Go.Proofs.YtinjbdgjcadodaaGreatDoor.Seg
