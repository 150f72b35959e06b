/- Texts of the law ReplicaNil, put together. -/
import Derived.Maps.AppendAt
import Derived.Test.YtinjbdgjcadodaaGreatDoorRNp27
set_option linter.unusedVariables false
set_option linter.unusedSimpArgs false
set_option maxRecDepth 100000
namespace Go.Proofs.YtinjbdgjcadodaaGreatDoor.Fd
open Go Go.RowKit Words Enc Evt Go.Proofs.YtinjbdgjcadodaaGreatDoor.Made Dsk Sht Seg
theorem hexD_inj : ∀ a b : Fin 16, hexD a = hexD b → a = b := by decide
theorem hexP_inj : ∀ (k u v : Nat), u < 16 ^ k → v < 16 ^ k → hexP k u = hexP k v → u = v
 | 0, u, v, hu, hv, _ => by simp at hu hv; omega
 | k + 1, u, v, hu, hv, h => by
   have h2 := List.append_inj' (show hexP k (u / 16) ++ [hexD (u % 16)] = hexP k (v / 16) ++ [hexD (v % 16)] from h) rfl
   have h3 := hexP_inj k (u / 16) (v / 16) (by rw [Nat.pow_succ] at hu; omega) (by rw [Nat.pow_succ] at hv; omega) h2.1
   have h4 := hexD_inj ⟨u % 16, Nat.mod_lt _ (by decide)⟩ ⟨v % 16, Nat.mod_lt _ (by decide)⟩ (by simpa using h2.2)
   have h5 : u % 16 = v % 16 := by simpa using h4
   omega
theorem nameL_inj {x : Int} {u v : Nat} (hu : u < 18446744073709551616) (hv : v < 18446744073709551616) (h : nameL x u = nameL x v) : u = v := by
 unfold nameL at h
 exact hexP_inj 16 u v (by simpa using hu) (by simpa using hv) (List.append_cancel_left h)
def Rise (P : List Part) : Prop := P.Pairwise (fun p q => p.u < q.u) ∧ ∀ p ∈ P, p.u < 18446744073709551616
theorem rise_eq : ∀ {P : List Part} {p q : Part}, Rise P → p ∈ P → q ∈ P → p.u = q.u → p = q
 | [], p, q, _, hp, _, _ => by cases hp
 | a :: r, p, q, h, hp, hq, he => by
   have h1 := List.pairwise_cons.1 h.1
   have h2 : Rise r := ⟨h1.2, fun b hb => h.2 b (List.mem_cons_of_mem _ hb)⟩
   rcases List.mem_cons.1 hp with e1 | m1
   ·rcases List.mem_cons.1 hq with e2 | m2
    ·rw [e1, e2]
    ·have := h1.1 q m2; rw [← e1] at this; omega
   ·rcases List.mem_cons.1 hq with e2 | m2
    ·have := h1.1 p m1; rw [← e2] at this; omega
    ·exact rise_eq h2 m1 m2 he
theorem look_part {x : Nat} {P : List Part} (h : Rise P) {p : Part} (hp : p ∈ P) : lookA (nameL (x : Int) p.u) (P.map (Part.file x)) = some (p.file x) := by
 induction P with
 | nil => cases hp
 | cons a r ih =>
   have h1 := List.pairwise_cons.1 h.1
   unfold lookA at ih ⊢
   rw [List.map_cons, List.find?_cons]
   by_cases he : (a.file x).name = nameL (x : Int) p.u
   ·have := nameL_inj (h.2 a (by simp)) (h.2 p hp) he
    have : a = p := rise_eq h (by simp) hp this
    subst this
    simp [Part.file]
   ·rw [decide_eq_false he]
    rcases List.mem_cons.1 hp with rfl | hp
    ·exact absurd rfl he
    ·exact ih ⟨h1.2, fun b hb => h.2 b (List.mem_cons_of_mem _ hb)⟩ hp
theorem files_map (x : Nat) (R : List SegS) : (R.map fun r => r.p.file x) = (R.map SegS.p).map (Part.file x) := by rw [List.map_map]; rfl
theorem infoG : (Tryz.prog.info? 134).map (fun i => (i.zero, i.size, i.bytes)) = some (some zeroSeg, 4, 48) := by kernel_rfl
theorem zeroSeg_cells : zeroSeg.cells.size = 4 := by kernel_rfl
def loB (x : Nat) (r : SegS) : Bool := decide (r.p.N < r.p.z x)
def looseL (x : Nat) (R : List SegS) (safe : Nat) : List SegS := (R.drop safe).filter (loB x)
def LooseGives (x : Nat) (T : List SegS) (w : World) (e : Ending) (w' : World) : Prop :=
 ∃ A n c, e = .returned (.slice A n c) ∧ n = T.length ∧ w'.ownsRow w.heap.size 134 4 (.slice A n c) n (rowsS x T) ∧ Below w.heap.size w w'
set_option maxHeartbeats 1000000 in
theorem loose_at [Inhabited XS] (d f x : Nat) (sz : Int) (floor time : Nat) (R : List SegS) (safe : Nat) (A : Option Addr) (c : Nat) (S : List Nat) (h : Hd) (w : World) (F : FeedAt w d f x sz floor time R safe A c S h) (T : STabs w) (hR : Rise (R.map SegS.p)) (hx : x < 64) (hn : R.length ≤ 1000) (hsf : safe ≤ R.length) :
  Calls Tryz.prog 70 #[.pointer (some ⟨f, 0, none⟩)] w (LooseGives x (looseL x R safe) w) := by
 obtain ⟨i, hi, hz, hsz, hby⟩ := info_parts infoG
 have hcap := F.cap
 obtain ⟨c0, _, _, _, _, c5, c6⟩ := F.cells
 have hsc : safe ≤ c := by omega
 go_enter Tryz.func70, Tryz.ntmps70
 go_wp2_with fail
 go_quiet (fail)
 have hA2 : safe < R.length → ∀ b, A = some ⟨b, 0, none⟩ → (if c = safe then A else Option.map (fun x => x.add (safe * 4)) A) = some ⟨b, safe * 4, none⟩ := fun hl b e => by rw [if_neg (by omega)]; subst e; simp [add_plain]
 have HA2 := Lib.hid hA2
 clear hA2
 generalize (if c = safe then A else Option.map (fun x => x.add (safe * 4)) A) = A2 at HA2 ⊢
 have hb1 : Below w.heap.size w (w.drewN nq) := below_drewN' w nq
 have hz1 : (w.drewN nq).heap.size = w.heap.size := rfl
 have F1 := F.below hb1
 have HB1 := Lib.hid hb1
 generalize w.drewN nq = w1 at F1 HB1 hz1 ⊢
 have HZ1 := Lib.hid hz1
 have HCAP := Lib.hid hcap
 have HSC := Lib.hid hsc
 have HN := Lib.hid hn
 clear hb1 hz1 c0 c5 c6 F hcap hsc hn
 go_wp2
 go_loopw [3, 16] (fun v3 v16 wr => ∃ (j : Nat) (Al : Option Addr) (nl cl : Nat) (L : List SegS), v3 = .slice Al nl cl ∧ v16 = .int .i64 (j : Int) ∧ j ≤ R.length - safe ∧ Hid (wr.ownsRow w.heap.size 134 4 (.slice Al nl cl) nl (rowsS x L)) ∧ Hid (Below w.heap.size w wr) ∧ Hid (L = ((R.drop safe).take j).filter (loB x)) ∧ Hid (nl = L.length)) (fun _ v16 _ => (R.length - safe) - (intOf v16).toNat)
 case atStart => exact ⟨0, none, 0, 0, [], rfl, rfl, Nat.zero_le _, Lib.hid (World.ownsRow_nil _ _ _ _), HB1, Lib.hid (by simp), Lib.hid rfl⟩
 case round =>
  obtain ⟨j, Al, nl, cl, L, rfl, rfl, hj, HO, HB, HL, HNL⟩ := hrel
  have FW := F1.below (by rw [HZ1.out]; exact ⟨HB.out.os.trans HB1.out.os.symm, HB.out.tape.trans HB1.out.tape.symm, HB.out.output.trans HB1.out.output.symm, by rw [HZ1.out]; exact HB.out.size, fun k hk => (HB.out.block k hk).trans (HB1.out.block k hk).symm⟩)
  by_cases hlt : j < R.length - safe
  ·have hjR : safe + j < R.length := by omega
   obtain ⟨r, hr⟩ : ∃ r, R[safe + j]? = some r := ⟨_, List.getElem?_eq_getElem hjR⟩
   obtain ⟨g, hA, k0, k1, k2, k3⟩ := FW.at_ hr
   have hA2 := HA2.out (by omega) g hA
   rw [hA2]
   rw [Nat.add_mul] at k0 k1 k2 k3
   have hrm : r.p ∈ R.map SegS.p := List.mem_map_of_mem (List.mem_of_getElem? hr)
   have hru := hR.2 _ hrm
   have hlook := look_part (x := x) hR hrm
   rw [← files_map, ← look_xs] at hlook
   have CELLS := Lib.hid (fun W (hW : Below wr.heap.size wr W) => (FW.below hW).cells)
   have SAFE : ∀ W, Below wr.heap.size wr W → Hid (Calls Tryz.prog 126 #[.pointer (some ⟨d, 0, none⟩), .string ⟨(nameL (x : Int) r.p.u).toArray⟩] W fun e w' => e = .returned (.int .i64 (r.p.N : Int)) ∧ W = w') := fun W hW => Lib.hid (by
    have := safeC d S _ h (nameL (x : Int) r.p.u) W (FW.disk.below hW) (by have := name_len (n := x) (u := r.p.u) (by omega); omega)
    unfold safeN at this
    rw [hlook] at this
    exact this)
   have NAME : ∀ W, Below wr.heap.size wr W → Hid (Calls Tryz.prog 72 #[segV (x : Int) r.p.u r.A r.p.L.length r.p.L.length (r.p.z x)] W fun e w' => e = .returned (.string ⟨(nameL (x : Int) r.p.u).toArray⟩) ∧ Below W.heap.size W w') := fun W hW => Lib.hid (nameOf_any x r.p.u r.A r.p.L.length r.p.L.length (r.p.z x) W ((T.below HB.out).below hW) hx hru)
   unfold segV at NAME
   have hjn2 : j < R.length - safe := hlt
   have HRR := Lib.hid hr
   have hgl : g < wr.heap.size := FW.lt g (by simp [blk, hA])
   have g1 := heap_alloc_new wr (.cells #[.int .i64 0, .int .u64 0, .slice none 0 0, .int .i64 0] 134)
   have G1 := Lib.hid g1
   have HAG := Lib.hid hA
   clear g1 hA hA2 FW hr hlt hrm hru hlook hjR
   go_wp2_with (refine wpList_putRow rfl 134 (.tmp 5) (.tmp 19) rfl wr.heap.size 134 #[.int .i64 0, .int .u64 0, .slice none 0 0, .int .i64 0] #[.int .i64 (x : Int), .int .u64 (r.p.u : Int), .slice r.A r.p.L.length r.p.L.length, .int .i64 (r.p.z x : Int)] rfl rfl ?g1 (by kernel_rfl) rfl (by simp [Value.oneCell']) ?_)
   case g1 => exact G1.out
   intro W' hW' hbe
   obtain ⟨q0, q1, q2, q3⟩ := b4cells hW'
   have hbw : Below wr.heap.size wr W' := Below.beside ((Below.refl wr.heap.size wr).alloc (Nat.le_refl _) _) hbe (by simp) (by simp)
   obtain ⟨c0, _, _, _, _, _, _⟩ := CELLS.out W' hbw
   have HBW := Lib.hid hbw
   have HW := Lib.hid hW'
   have N1 : ∀ W, Below W'.heap.size W' W → Calls Tryz.prog 72 #[.agg #[.int .i64 (x : Int), .int .u64 (r.p.u : Int), .slice r.A r.p.L.length r.p.L.length, .int .i64 (r.p.z x : Int)]] W fun e w' => e = .returned (.string ⟨(nameL (x : Int) r.p.u).toArray⟩) ∧ Hid (Below W'.heap.size W' w') ∧ w'.cell? ⟨f, 0, none⟩ = some (.pointer (some ⟨d, 0, none⟩)) ∧ w'.cell? ⟨wr.heap.size, 0, none⟩ = some (.int .i64 (x : Int)) ∧ w'.cell? ⟨wr.heap.size, 1, none⟩ = some (.int .u64 (r.p.u : Int)) ∧ w'.cell? ⟨wr.heap.size, 2, none⟩ = some (.slice r.A r.p.L.length r.p.L.length) ∧ w'.cell? ⟨wr.heap.size, 3, none⟩ = some (.int .i64 (r.p.z x : Int)) := fun W hW => by
    refine (NAME W (HBW.out.trans (hW.mono HBW.out.size))).out.mono ?_
    rintro e w' ⟨rfl, hb⟩
    have hb' := hW.trans (hb.mono hW.size)
    have h4 := b4cells ((hb'.block wr.heap.size (Array.getElem?_eq_some_iff.1 HW.out).1).trans HW.out)
    exact ⟨rfl, Lib.hid hb', (CELLS.out w' (HBW.out.trans (hb'.mono HBW.out.size))).1, h4.1, h4.2.1, h4.2.2.1, h4.2.2.2⟩
   have S1 : ∀ W, Below W'.heap.size W' W → Calls Tryz.prog 126 #[.pointer (some ⟨d, 0, none⟩), .string ⟨(nameL (x : Int) r.p.u).toArray⟩] W fun e w' => e = .returned (.int .i64 (r.p.N : Int)) ∧ Hid (Below W'.heap.size W' w') ∧ w'.cell? ⟨f, 0, none⟩ = some (.pointer (some ⟨d, 0, none⟩)) ∧ w'.cell? ⟨wr.heap.size, 0, none⟩ = some (.int .i64 (x : Int)) ∧ w'.cell? ⟨wr.heap.size, 1, none⟩ = some (.int .u64 (r.p.u : Int)) ∧ w'.cell? ⟨wr.heap.size, 2, none⟩ = some (.slice r.A r.p.L.length r.p.L.length) ∧ w'.cell? ⟨wr.heap.size, 3, none⟩ = some (.int .i64 (r.p.z x : Int)) := fun W hW => by
    refine (SAFE W (HBW.out.trans (hW.mono HBW.out.size))).out.mono ?_
    rintro e w' ⟨rfl, rfl⟩
    have h4 := b4cells ((hW.block wr.heap.size (Array.getElem?_eq_some_iff.1 HW.out).1).trans HW.out)
    exact ⟨rfl, Lib.hid hW, (CELLS.out W (HBW.out.trans (hW.mono HBW.out.size))).1, h4.1, h4.2.1, h4.2.2.1, h4.2.2.2⟩
   clear hW' hbe hbw k0 k1 k2 k3 SAFE NAME
   go_wp2_with fail
   go_region_held3 (fun w' => w'.cell? ⟨f, 0, none⟩ = some (.pointer (some ⟨d, 0, none⟩)) ∧ w'.cell? ⟨wr.heap.size, 0, none⟩ = some (.int .i64 (x : Int)) ∧ w'.cell? ⟨wr.heap.size, 1, none⟩ = some (.int .u64 (r.p.u : Int)) ∧ w'.cell? ⟨wr.heap.size, 2, none⟩ = some (.slice r.A r.p.L.length r.p.L.length) ∧ w'.cell? ⟨wr.heap.size, 3, none⟩ = some (.int .i64 (r.p.z x : Int))) (go_keep)
    (first
     | (go_at_call 72
        refine (N1 _ ?h0).mono ?_
        case h0 => first | exact Below.refl _ _ | exact (Below.refl _ _).drew
        rintro e w6 ⟨rfl, HN1, c0, q0, q1, q2, q3⟩)
     | (go_at_call 126
        refine (S1 _ ?h1).mono ?_
        case h1 => exact HN1.out
        rintro e w7 ⟨rfl, HN2, c0, q0, q1, q2, q3⟩))
   have HB7 := Lib.hid (HBW.out.trans (HN2.out.mono HBW.out.size))
   have htk : ((R.drop safe).take (j + 1)) = ((R.drop safe).take j) ++ [r] := by rw [List.take_add_one, List.getElem?_drop, HRR.out]; rfl
   have hj1 : wrap64 ((j : Int) + 1) = ((j + 1 : Nat) : Int) := intWrap_small j (by have := HN.out; omega)
   have HJ1 := Lib.hid hj1
   by_cases hlo : r.p.N < r.p.z x
   ·have hLn : ((R.drop safe).take (j + 1)).filter (loB x) = L ++ [r] := by rw [htk, List.filter_append, ← HL.out]; simp [loB, hlo]
    have HLN := Lib.hid hLn
    have hown7 := own_below8 HO.out (HB7.out.trans ((((Below.refl w7.heap.size w7).alloc (Nat.le_refl _) (.cells (r.cells x).toArray 134))).mono HB7.out.size)) (Nat.le_refl _)
    have H7 := Lib.hid hown7
    have hLl : L.length ≤ 1000 := by rw [HL.out]; exact Nat.le_trans (List.length_filter_le _ _) (by rw [List.length_take, List.length_drop]; have := HN.out; omega)
    have HNLl := Lib.hid (show nl ≤ 1000 by have := HNL.out; omega)
    unfold SegS.cells at hown7
    clear hLn hLl hj1 htk
    go_wp2_with (first | (at_builtin; go_must (refine wpList_append_own _ rfl _ _ 130 rfl w.heap.size 134 i zeroSeg 4 48 Tryz.underlying130 hi hz hsz hby zeroSeg_cells (by decide) (.slice Al nl cl) nl (rowsS x L) rfl hown7 ⟨w7.heap.size, 0, none⟩ 1 1 (r.cells x) rfl rfl ?c1 ?c2 ?c3 ?c4 ?c5 ?_)))
    case c1 =>
     intro jj u hu
     have := heap_alloc_new w7 (.cells (r.cells x).toArray 134)
     unfold SegS.cells at this hu
     rw [Words.add_plain, cell_of_row _ w7.heap.size _ _ _ _ this]
     simpa using hu
    case c2 => intro u hu; exact rowsS_one x [r] u (by simpa [rowsS] using hu)
    case c3 => unfold maxLen; have := HNLl.out; omega
    case c4 => have := HNLl.out; omega
    case c5 => simp; have := HB.out.size; have := HB7.out.size; omega
    intro v' w8 hown8 hgrow _
    obtain ⟨A8, c8, rfl, _⟩ := own_shape8 hown8
    have hb8 : Below w.heap.size (w7.alloc (.cells (r.cells x).toArray 134)) w8 := (Below.refl _ _).grown hgrow (by simp; have := HB.out.size; have := HB7.out.size; omega) (fun k hk => (HO.out.lt k hk).1)
    have HB8 := Lib.hid ((((HB.out.trans (HB7.out.mono HB.out.size)).alloc (by have := HB.out.size; have := HB7.out.size; omega) (.cells (r.cells x).toArray 134))).trans hb8)
    clear hb8 hgrow hown7
    go_wp2
    go_roundw
    case rel =>
     refine ⟨j + 1, A8, _, c8, L ++ [r], rfl, by rw [HJ1.out], by omega, Lib.hid ?_, HB8, Lib.hid HLN.out.symm, Lib.hid (by rw [HNL.out]; simp)⟩
     rw [rowsS_append]
     simpa [rowsS] using hown8
    case measure => rw [HJ1.out]; simp [intOf]; omega
   ·have hLn : ((R.drop safe).take (j + 1)).filter (loB x) = L := by rw [htk, List.filter_append, ← HL.out]; simp [loB, hlo]
    have HLN := Lib.hid hLn
    clear hLn hj1 htk
    go_wp2
    go_roundw
    case rel => exact ⟨j + 1, Al, _, cl, L, rfl, by rw [HJ1.out], by omega, Lib.hid (own_below8 HO.out HB7.out (Nat.le_refl _)), Lib.hid (HB.out.trans (HB7.out.mono HB.out.size)), Lib.hid HLN.out.symm, HNL⟩
    case measure => rw [HJ1.out]; simp [intOf]; omega
  ·have hjl : ¬ j < R.length - safe := hlt
   have hje : j = R.length - safe := by omega
   have hLL : L = looseL x R safe := by rw [HL.out, List.take_of_length_le (by rw [List.length_drop]; omega)]; rfl
   clear hje hlt FW F1
   go_wp2
   go_ret
   exact ⟨Al, nl, cl, rfl, by rw [← hLL]; exact HNL.out, by rw [← hLL]; exact HO.out, HB.out⟩
def hdA [Inhabited XS] (acts : Nat) : Hd := ⟨((xsC : Nat) : Int), acts, -1, 0, false⟩
theorem hdA_act [Inhabited XS] (acts : Nat) : (hdA acts).act = hdA (acts + 1) := by simp [hdA, Hd.act]
theorem hdA_may [Inhabited XS] (acts : Nat) : (hdA acts).may = true := by simp [hdA, Hd.may]
theorem hdA_fits [Inhabited XS] {acts : Nat} (h : acts ≤ 100000) : (hdA acts).fits := by
 have hc := xs_cap
 refine hd_fits5 ?_ ?_ ?_ (by simp [hdA]) (by simp [hdA]) (by simp [hdA]) (by simp [hdA])
 ·show _ ≤ ((xsC : Nat) : Int); omega
 ·show ((xsC : Nat) : Int) ≤ _; omega
 ·show acts ≤ _; omega
def Part.full (x : Nat) (p : Part) : Part := ⟨p.u, p.L, p.z x⟩
theorem full_file (x : Nat) (p : Part) : (p.full x).file x = syncG (p.file x) := by
 simp [Part.full, Part.file, syncG, Part.z, List.length_append]
def setU (x : Nat) (U : List Nat) (R : List SegS) : List SegS := R.map fun r => if r.p.u ∈ U then ⟨r.p.full x, r.A⟩ else r
theorem setU_len (x : Nat) (U : List Nat) (R : List SegS) : (setU x U R).length = R.length := by simp [setU]
theorem setU_rows (x : Nat) (U : List Nat) : ∀ R : List SegS, rowsS x (setU x U R) = rowsS x R
 | [] => rfl
 | r :: R => by
   have := setU_rows x U R
   unfold setU at this ⊢
   rw [List.map_cons, rowsS, rowsS, this]
   congr 1
   split <;> rfl
theorem setU_upd {x v : Nat} {U : List Nat} {R : List SegS} (hv : v < 18446744073709551616) (hR : ∀ r ∈ R, r.p.u < 18446744073709551616) :
  upd (nameL (x : Int) v) syncG ((setU x U R).map fun r => r.p.file x) = (setU x (U ++ [v]) R).map fun r => r.p.file x := by
 unfold upd setU
 rw [List.map_map, List.map_map, List.map_map]
 refine List.map_congr_left fun r hr => ?_
 have hu := hR r hr
 simp only [Function.comp]
 have hmem : r.p.u ∈ U ++ [v] ↔ r.p.u ∈ U ∨ r.p.u = v := by simp
 by_cases h1 : r.p.u ∈ U
 ·rw [if_pos h1, if_pos (hmem.2 (.inl h1))]
  by_cases h2 : r.p.u = v
  ·rw [if_pos (show (Part.file x (Part.full x r.p)).name = nameL (x : Int) v by rw [← h2]; rfl), full_file]
   simp [syncG]
  ·rw [if_neg (fun h : (Part.file x (Part.full x r.p)).name = nameL (x : Int) v => h2 (nameL_inj hu hv h))]
 ·rw [if_neg h1]
  by_cases h2 : r.p.u = v
  ·rw [if_pos (show (Part.file x r.p).name = nameL (x : Int) v by rw [← h2]; rfl), if_pos (hmem.2 (.inr h2)), full_file]
  ·rw [if_neg (fun h : (Part.file x r.p).name = nameL (x : Int) v => h2 (nameL_inj hu hv h)), if_neg (fun h => (hmem.1 h).elim h1 h2)]
theorem setU_setU (x v : Nat) (U : List Nat) (R : List SegS) : setU x [v] (setU x U R) = setU x (U ++ [v]) R := by
 unfold setU
 rw [List.map_map]
 refine List.map_congr_left fun r hr => ?_
 have hmem : r.p.u ∈ U ++ [v] ↔ r.p.u ∈ U ∨ r.p.u = v := by simp
 simp only [Function.comp]
 by_cases h1 : r.p.u ∈ U
 ·rw [if_pos h1, if_pos (hmem.2 (.inl h1))]
  split <;> rfl
 ·rw [if_neg h1]
  by_cases h2 : r.p.u = v
  ·rw [if_pos (by simp [h2]), if_pos (hmem.2 (.inr h2))]
  ·rw [if_neg (by simp [h2]), if_neg (fun h => (hmem.1 h).elim h1 h2)]
theorem sumA_files (x : Nat) : ∀ R : List SegS, sumA (R.map fun r => r.p.file x) = ((R.map SegS.p).map (Part.z x)).sum
 | [] => rfl
 | r :: R => by
   have := sumA_files x R
   simp only [List.map_cons, sumA, List.sum_cons, this]
   simp [Part.file, Part.z, List.length_append]
theorem setU_z (x : Nat) (U : List Nat) (R : List SegS) : ((setU x U R).map SegS.p).map (Part.z x) = (R.map SegS.p).map (Part.z x) := by
 unfold setU
 rw [List.map_map, List.map_map, List.map_map]
 refine List.map_congr_left fun r hr => ?_
 simp only [Function.comp]
 split <;> rfl
theorem setU_rise {x : Nat} {U : List Nat} {R : List SegS} (h : Rise (R.map SegS.p)) : Rise ((setU x U R).map SegS.p) := by
 obtain ⟨h1, h2⟩ := h
 have e : ∀ r : SegS, (if r.p.u ∈ U then (⟨r.p.full x, r.A⟩ : SegS) else r).p.u = r.p.u := fun r => by split <;> rfl
 constructor
 ·unfold setU
  rw [List.pairwise_map] at h1
  rw [List.map_map, List.pairwise_map]
  exact h1.imp fun {a b} hab => by simp only [Function.comp, e]; exact hab
 ·intro p hp
  unfold setU at hp
  rw [List.map_map] at hp
  obtain ⟨r, hr, rfl⟩ := List.mem_map.1 hp
  simp only [Function.comp, e]
  exact h2 _ (List.mem_map_of_mem hr)
theorem blk_lt [Inhabited XS] {w : World} {d f x : Nat} {sz : Int} {floor time : Nat} {R : List SegS} {safe : Nat} {A : Option Addr} {c : Nat} {S : List Nat} {h : Hd} (F : FeedAt w d f x sz floor time R safe A c S h) : ∀ g ∈ f :: blk A, g < w.heap.size ∧ g ∉ S := fun g hg =>
 ⟨F.lt g (List.mem_append.2 (.inr hg)), by
  rcases List.mem_cons.1 hg with rfl | hg
  ·exact F.fS
  ·exact (F.aS g hg).1⟩
theorem FeedAt.turn [Inhabited XS] {w w' : World} {d f x : Nat} {sz : Int} {floor time : Nat} {R : List SegS} {safe : Nat} {A : Option Addr} {c : Nat} {S S' : List Nat} {h h' : Hd} {U : List Nat} (F : FeedAt w d f x sz floor time R safe A c S h)
  (hd : Disk w' d S' (xsO x ++ (setU x U R).map fun r => r.p.file x) h') (hb : Beside S w w') (hs : ∀ k ∈ S', k ∈ S ∨ w.heap.size ≤ k) : FeedAt w' d f x sz floor time (setU x U R) safe A c S' h' := by
 have hk := blk_lt F
 have hS' : ∀ g ∈ f :: blk A, g ∉ S' := fun g hg hm => (hs g hm).elim (hk g hg).2 (fun h => by have := (hk g hg).1; omega)
 refine ⟨hd, ?_, ?_, ?_, hS' f (by simp), fun g hg => ⟨hS' g (by simp [hg]), (F.aS g hg).2⟩, fun k hk => Nat.lt_of_lt_of_le (F.xl k hk) hb.size⟩
 ·rw [setU_len]
  exact (hb.block f (hk f (by simp)).1 (hk f (by simp)).2).trans F.box
 ·rw [setU_len, setU_rows]
  exact own_kept F.row fun g hg => hb.block g (hk g (by simp [hg])).1 (hk g (by simp [hg])).2
 ·intro r hr
  unfold setU at hr
  obtain ⟨r0, h0, rfl⟩ := List.mem_map.1 hr
  have := (F.evs r0 h0).next (B' := S' ++ bx f A) (hb.wider fun k hk => .inl (List.mem_append.2 (.inl hk))) (fun k hk => by
   rcases List.mem_append.1 hk with hk | hk
   ·exact (hs k hk).imp (fun h => List.mem_append.2 (.inl h)) id
   ·exact .inl (List.mem_append.2 (.inr hk)))
  split <;> exact this
theorem FeedAt.rebox [Inhabited XS] {w w' : World} {d f x : Nat} {sz : Int} {floor time floor' time' : Nat} {R : List SegS} {safe safe' : Nat} {A : Option Addr} {c : Nat} {S : List Nat} {h : Hd} (F : FeedAt w d f x sz floor time R safe A c S h) (hb : Beside [f] w w')
  (hbox : w'.heap[f]? = some (.cells (Fd.cells d (x : Int) sz floor' time' (.slice A R.length c) (safe' : Int)) 132 (0, 0))) : FeedAt w' d f x sz floor' time' R safe' A c S h := by
 refine ⟨F.disk.beside hb (fun k hk hm => ?_), hbox, own_kept F.row fun g hg => hb.block g (own_blk F.row g hg).2 (fun hm => ?_), fun r hr => ?_, F.fS, F.aS, fun k hk => Nat.lt_of_lt_of_le (F.xl k hk) hb.size⟩
 ·simp at hk; subst hk; exact F.fS hm
 ·simp at hm; subst hm; exact (F.aS _ hg).2 rfl
 ·exact (F.evs r hr).next (hb.wider fun k hk => by simp at hk; subst hk; exact .inl (by simp [bx])) fun k hk => .inl hk
theorem setU_all {x : Nat} {R : List SegS} {safe : Nat} (hR : Rise (R.map SegS.p)) (h1 : ∀ r ∈ R, r.p.N ≤ r.p.z x) (h2 : ∀ r ∈ R.take safe, r.p.N = r.p.z x) : (setU x ((looseL x R safe).map fun r => r.p.u) R).map SegS.p = (R.map SegS.p).map (Part.full x) := by
 unfold setU
 rw [List.map_map, List.map_map]
 refine List.map_congr_left fun r hr => ?_
 simp only [Function.comp]
 split
 ·rfl
 ·rename_i hn
  have hN : r.p.N = r.p.z x := by
   rw [← List.take_append_drop safe R] at hr
   rcases List.mem_append.1 hr with hr | hr
   ·exact h2 r hr
   ·by_cases hlt : r.p.N < r.p.z x
    ·exact absurd (List.mem_map.2 ⟨r, by unfold looseL; exact List.mem_filter.2 ⟨hr, by simp [loB, hlt]⟩, rfl⟩) hn
    ·have := h1 r (List.mem_of_mem_drop hr); omega
  show r.p = Part.full x r.p
  unfold Part.full
  rw [← hN]
def FNext [Inhabited XS] (O : List Nat) (w : World) (d f x : Nat) (sz : Int) (floor time : Nat) (P : List Part) (safe acts : Nat) (w' : World) : Prop :=
 ∃ O', Feed w' d f x sz floor time P safe O' (hdA acts) ∧ Beside O w w' ∧ ∀ k ∈ O', k ∈ O ∨ w.heap.size ≤ k
theorem TabsOn.sub {S O : List Nat} {w : World} (T : TabsOn O w) (h : ∀ k ∈ S, k ∈ O) : TabsOn S w := fun W hW => T W (hW.wider fun k hk => .inl (h k hk))
set_option maxHeartbeats 1000000 in
theorem sync_at [Inhabited XS] (d f x : Nat) (sz : Int) (floor time : Nat) (R : List SegS) (safe acts : Nat) (A : Option Addr) (c : Nat) (S : List Nat) (w : World) (F : FeedAt w d f x sz floor time R safe A c S (hdA acts)) (T : TabsOn S w) (hR : Rise (R.map SegS.p)) (hx : x < 64) (hn : R.length ≤ 1000) (hsf : safe ≤ R.length) (hac : acts ≤ 50000) (hsum : ((R.map SegS.p).map (Part.z x)).sum ≤ 1000000) :
  Calls Tryz.prog 38 #[.pointer (some ⟨f, 0, none⟩)] w fun e w' => e = .returned (.int .i64 0) ∧ ∃ S', FeedAt w' d f x sz floor time (setU x ((looseL x R safe).map fun r => r.p.u) R) (R.length - 1) A c S' (hdA (acts + (looseL x R safe).length)) ∧ Beside (S ++ [f]) w w' ∧ ∀ k ∈ S', k ∈ S ∨ w.heap.size ≤ k := by
 have ST : STabs w := (T w (Beside.refl _ _)).2
 have HLO := Lib.hid (loose_at d f x sz floor time R safe A c S (hdA acts) w F ST hR hx hn hsf)
 have hll : (looseL x R safe).length ≤ 1000 := Nat.le_trans (List.length_filter_le _ _) (by rw [List.length_drop]; omega)
 have hmem : ∀ r ∈ looseL x R safe, r.p ∈ R.map SegS.p := fun r hr => List.mem_map_of_mem (List.mem_of_mem_drop (List.mem_filter.1 hr).1)
 have HMEM := Lib.hid hmem
 have hSlt := F.disk.lt
 generalize hL : looseL x R safe = L at HLO hll HMEM ⊢
 have HF := Lib.hid F
 have HR := Lib.hid hR
 clear hL hmem F hR ST
 go_enter Tryz.func38, Tryz.ntmps38
 go_wp2_with fail
 refine HLO.out.mono ?_
 rintro e w1 ⟨A1, n1, c1, rfl, hn1, hown1, hb1⟩
 have F1 := HF.out.below hb1
 have HO1 := Lib.hid hown1
 have HB1 := Lib.hid hb1
 have HN1 := Lib.hid hn1
 have HSL := Lib.hid hSlt
 clear hown1 hb1 hn1 hSlt HLO
 go_wp2
 go_loopw [11] (fun v wr => ∃ (j : Nat) (S' : List Nat), v = .int .i64 (j : Int) ∧ j ≤ n1 ∧ Hid (FeedAt wr d f x sz floor time (setU x ((L.take j).map fun r => r.p.u) R) safe A c S' (hdA (acts + j))) ∧ Hid (Beside S w1 wr) ∧ Hid (∀ k ∈ S', k ∈ S ∨ w1.heap.size ≤ k)) (fun v _ => n1 - (intOf v).toNat)
 case atStart =>
  refine ⟨0, S, rfl, Nat.zero_le _, Lib.hid ?_, Lib.hid (Beside.refl _ _), Lib.hid fun k hk => .inl hk⟩
  have : setU x ((L.take 0).map fun r => r.p.u) R = R := by simp [setU]
  rw [this]
  exact F1
 case round =>
  obtain ⟨j, S', rfl, hj, HFW, HBW, HSW⟩ := hrel
  by_cases hlt : j < n1
  ·obtain ⟨r, hr⟩ : ∃ r, L[j]? = some r := ⟨_, List.getElem?_eq_getElem (by have := HN1.out; omega)⟩
   have hrm := HMEM.out r (List.mem_of_getElem? hr)
   have hru := HR.out.2 _ hrm
   have hownW := own_beside8 HO1.out HBW.out HSL.out
   obtain ⟨g, hA, hge⟩ := own_at8 hownW (by omega)
   have hcells : ∀ k v, k < 4 → (r.cells x)[k]? = some v → wr.cell? ⟨g, j * 4 + k, none⟩ = some v := by
    intro k v hk hv
    rcases hownW.2 with ⟨hv0, h0⟩ | ⟨g', cap, cur, hv0, _, hh, _, _, _, ht⟩
    ·omega
    ·injection hv0 with h1
     rw [hA] at h1
     injection h1 with h1
     injection h1 with h1
     subst h1
     rw [cell_of_row wr g _ _ _ _ hh]
     have h4 := rowsS_get x L j k r hr hk
     rw [hv, ← ht, List.getElem?_take] at h4
     split at h4
     ·simpa using h4
     ·cases h4
   have k0 := hcells 0 _ (by omega) rfl
   have k1 := hcells 1 _ (by omega) rfl
   have k2 := hcells 2 _ (by omega) rfl
   have k3 := hcells 3 _ (by omega) rfl
   simp only [Nat.add_zero] at k0
   subst hA
   have hgl : g < wr.heap.size := World.block_lt_of_cell? _ _ k0
   have FW := HFW.out
   have CELLS := Lib.hid (fun W (hW : Below wr.heap.size wr W) => (FW.below hW).cells)
   have TW : STabs wr := (T wr ((Beside.of_below HB1.out S).trans HBW.out fun k hk => .inl hk)).2
   have hlook : lookA (nameL (x : Int) r.p.u) ((setU x ((L.take j).map fun r => r.p.u) R).map fun r => r.p.file x) ≠ none := by
    obtain ⟨r0, h0, e0⟩ := List.mem_map.1 hrm
    have h1 : (if r0.p.u ∈ ((L.take j).map fun r => r.p.u) then (⟨r0.p.full x, r0.A⟩ : SegS) else r0) ∈ setU x ((L.take j).map fun r => r.p.u) R := List.mem_map_of_mem h0
    have h2 := look_part (x := x) (setU_rise (x := x) (U := (L.take j).map fun r => r.p.u) HR.out) (List.mem_map_of_mem (f := SegS.p) h1)
    rw [files_map]
    have h3 : (if r0.p.u ∈ ((L.take j).map fun r => r.p.u) then (⟨r0.p.full x, r0.A⟩ : SegS) else r0).p.u = r.p.u := by rw [← e0]; split <;> rfl
    rw [h3] at h2
    rw [h2]
    simp
   have htk : (L.take (j + 1)).map (fun r => r.p.u) = ((L.take j).map fun r => r.p.u) ++ [r.p.u] := by rw [List.take_add_one, hr, List.map_append]; rfl
   have hRu : ∀ r ∈ R, r.p.u < 18446744073709551616 := fun r0 h0 => HR.out.2 _ (List.mem_map_of_mem h0)
   have hj1000 : j ≤ 1000 := by have := HN1.out; omega
   have SYNC : ∀ W, Below wr.heap.size wr W → Hid (Calls Tryz.prog 71 #[.pointer (some ⟨d, 0, none⟩), .string ⟨(nameL (x : Int) r.p.u).toArray⟩] W fun e w' => e = .returned (.int .i64 0) ∧ ∃ S'', FeedAt w' d f x sz floor time (setU x ((L.take (j + 1)).map fun r => r.p.u) R) safe A c S'' (hdA (acts + (j + 1))) ∧ Beside S' W w' ∧ ∀ k ∈ S'', k ∈ S' ∨ W.heap.size ≤ k) := fun W hW => Lib.hid (by
    have FX := FW.below hW
    have hs := syncC d S' _ (hdA (acts + j)) (nameL (x : Int) r.p.u) W FX.disk (hdA_fits (by omega)) (by have := name_len (n := x) (u := r.p.u) (by omega); omega) (by have hxf := xs_few x; have hxc := xs_cap; rw [sumA_append, sumA_files, setU_z]; omega)
    refine hs.mono ?_
    rintro e w' ⟨rfl, S'', hd, hb, hk⟩
    refine ⟨?_, S'', ?_, hb, hk⟩
    ·unfold thereE
     rw [hdA_may, if_pos rfl, look_xs, if_pos (Option.isSome_iff_ne_none.2 hlook)]
    ·unfold thereF at hd
     rw [hdA_may, if_pos rfl, hdA_act, upd_xs, setU_upd hru hRu, ← setU_setU] at hd
     have := FX.turn hd hb hk
     rw [setU_setU, ← htk] at this
     exact this)
   have NAME : ∀ W, Below wr.heap.size wr W → Hid (Calls Tryz.prog 72 #[segV (x : Int) r.p.u r.A r.p.L.length r.p.L.length (r.p.z x)] W fun e w' => e = .returned (.string ⟨(nameL (x : Int) r.p.u).toArray⟩) ∧ Below W.heap.size W w') := fun W hW => Lib.hid (nameOf_any x r.p.u r.A r.p.L.length r.p.L.length (r.p.z x) W (TW.below hW) hx hru)
   unfold segV at NAME
   have hjn2 : j < n1 := hlt
   have hS'l : ∀ k ∈ S', k < wr.heap.size := FW.disk.lt
   have hfS : f ∉ S' := FW.fS
   have hfl : f < wr.heap.size := FW.lt f (by simp)
   have g1 := heap_alloc_new wr (.cells #[.int .i64 0, .int .u64 0, .slice none 0 0, .int .i64 0] 134)
   have G1 := Lib.hid g1
   clear g1 hcells hownW hrm hlook htk FW hlt TW
   go_wp2_with (refine wpList_putRow rfl 134 (.tmp 4) (.tmp 14) rfl wr.heap.size 134 #[.int .i64 0, .int .u64 0, .slice none 0 0, .int .i64 0] #[.int .i64 (x : Int), .int .u64 (r.p.u : Int), .slice r.A r.p.L.length r.p.L.length, .int .i64 (r.p.z x : Int)] rfl rfl ?g1 (by kernel_rfl) rfl (by simp [Value.oneCell']) ?_)
   case g1 => exact G1.out
   intro W' hW' hbe
   obtain ⟨q0, q1, q2, q3⟩ := b4cells hW'
   have hbw : Below wr.heap.size wr W' := Below.beside ((Below.refl wr.heap.size wr).alloc (Nat.le_refl _) _) hbe (by simp) (by simp)
   obtain ⟨c0, _, _, _, _, _, _⟩ := CELLS.out W' hbw
   have HBW2 := Lib.hid hbw
   have HW := Lib.hid hW'
   have N1 : ∀ W, Below W'.heap.size W' W → Calls Tryz.prog 72 #[.agg #[.int .i64 (x : Int), .int .u64 (r.p.u : Int), .slice r.A r.p.L.length r.p.L.length, .int .i64 (r.p.z x : Int)]] W fun e w' => e = .returned (.string ⟨(nameL (x : Int) r.p.u).toArray⟩) ∧ Hid (Below W'.heap.size W' w') ∧ w'.cell? ⟨f, 0, none⟩ = some (.pointer (some ⟨d, 0, none⟩)) ∧ w'.cell? ⟨wr.heap.size, 0, none⟩ = some (.int .i64 (x : Int)) ∧ w'.cell? ⟨wr.heap.size, 1, none⟩ = some (.int .u64 (r.p.u : Int)) ∧ w'.cell? ⟨wr.heap.size, 2, none⟩ = some (.slice r.A r.p.L.length r.p.L.length) ∧ w'.cell? ⟨wr.heap.size, 3, none⟩ = some (.int .i64 (r.p.z x : Int)) := fun W hW => by
    refine (NAME W (HBW2.out.trans (hW.mono HBW2.out.size))).out.mono ?_
    rintro e w' ⟨rfl, hb⟩
    have hb' := hW.trans (hb.mono hW.size)
    have h4 := b4cells ((hb'.block wr.heap.size (Array.getElem?_eq_some_iff.1 HW.out).1).trans HW.out)
    exact ⟨rfl, Lib.hid hb', (CELLS.out w' (HBW2.out.trans (hb'.mono HBW2.out.size))).1, h4.1, h4.2.1, h4.2.2.1, h4.2.2.2⟩
   have S1 : ∀ W, Below W'.heap.size W' W → Calls Tryz.prog 71 #[.pointer (some ⟨d, 0, none⟩), .string ⟨(nameL (x : Int) r.p.u).toArray⟩] W fun e w' => e = .returned (.int .i64 0) ∧ Hid (∃ S'', FeedAt w' d f x sz floor time (setU x ((L.take (j + 1)).map fun r => r.p.u) R) safe A c S'' (hdA (acts + (j + 1))) ∧ Beside S' wr w' ∧ ∀ k ∈ S'', k ∈ S' ∨ wr.heap.size ≤ k) ∧ w'.cell? ⟨f, 0, none⟩ = some (.pointer (some ⟨d, 0, none⟩)) ∧ w'.cell? ⟨wr.heap.size, 0, none⟩ = some (.int .i64 (x : Int)) ∧ w'.cell? ⟨wr.heap.size, 1, none⟩ = some (.int .u64 (r.p.u : Int)) ∧ w'.cell? ⟨wr.heap.size, 2, none⟩ = some (.slice r.A r.p.L.length r.p.L.length) ∧ w'.cell? ⟨wr.heap.size, 3, none⟩ = some (.int .i64 (r.p.z x : Int)) := fun W hW => by
    have hbb := HBW2.out.trans (hW.mono HBW2.out.size)
    refine (SYNC W hbb).out.mono ?_
    rintro e w' ⟨rfl, S'', hF, hb, hk⟩
    have hbox := (hW.block wr.heap.size (Array.getElem?_eq_some_iff.1 HW.out).1).trans HW.out
    have h4 := b4cells ((hb.block wr.heap.size (Array.getElem?_eq_some_iff.1 hbox).1 (fun hm => by have := hS'l _ hm; omega)).trans hbox)
    exact ⟨rfl, Lib.hid ⟨S'', hF, (Beside.of_below hbb S').trans hb fun k hk => .inl hk, fun k hk' => (hk k hk').imp id (fun h => Nat.le_trans hbb.size h)⟩, hF.cells.1, h4.1, h4.2.1, h4.2.2.1, h4.2.2.2⟩
   clear hW' hbe hbw k0 k1 k2 k3 SYNC NAME
   go_wp2_with fail
   go_region_held3 (fun w' => w'.cell? ⟨f, 0, none⟩ = some (.pointer (some ⟨d, 0, none⟩)) ∧ w'.cell? ⟨wr.heap.size, 0, none⟩ = some (.int .i64 (x : Int)) ∧ w'.cell? ⟨wr.heap.size, 1, none⟩ = some (.int .u64 (r.p.u : Int)) ∧ w'.cell? ⟨wr.heap.size, 2, none⟩ = some (.slice r.A r.p.L.length r.p.L.length) ∧ w'.cell? ⟨wr.heap.size, 3, none⟩ = some (.int .i64 (r.p.z x : Int))) (go_keep)
    (first
     | (go_at_call 72
        refine (N1 _ ?h0).mono ?_
        case h0 => first | exact Below.refl _ _ | exact (Below.refl _ _).drew
        rintro e w6 ⟨rfl, HN1x, c0, q0, q1, q2, q3⟩)
     | (go_at_call 71
        refine (S1 _ ?h1).mono ?_
        case h1 => exact HN1x.out
        rintro e w7 ⟨rfl, HN2, c0, q0, q1, q2, q3⟩))
   obtain ⟨S'', hF7, hb7, hk7⟩ := HN2.out
   have HF7 := Lib.hid hF7
   have HB7 := Lib.hid hb7
   have HK7 := Lib.hid hk7
   clear hF7 hb7 hk7 c0 q0 q1 q2 q3 HN2 HN1x
   have hj1 : wrap64 ((j : Int) + 1) = ((j + 1 : Nat) : Int) := intWrap_small j (by have := HN1.out; omega)
   have HJ1 := Lib.hid hj1
   clear hj1
   go_wp2
   go_roundw
   case rel =>
    refine ⟨j + 1, S'', by first | rfl | rw [HJ1.out], by omega, HF7, Lib.hid (HBW.out.trans HB7.out HSW.out), Lib.hid fun k hk => ?_⟩
    rcases HK7.out k hk with h | h
    ·exact HSW.out k h
    ·exact .inr (Nat.le_trans HBW.out.size h)
   case measure => simp [intOf]; omega
  ·have hjl : ¬ j < n1 := hlt
   have hje : j = L.length := by have := HN1.out; omega
   have FW := HFW.out
   rw [hje, List.take_length] at FW
   obtain ⟨c0, _, _, _, _, c5, c6⟩ := FW.cells
   have y6 : wr.frozen? ⟨f, 6, none⟩ = false := frozen_row0 FW.box
   have hw1 : IntKind.i64.wrap ((((setU x (L.map fun r => r.p.u) R).length : Nat) : Int) - 1) = (R.length : Int) - 1 := by rw [setU_len, IntKind.wrap_i64]; omega
   have hmx : max (0 : Int) ((R.length : Int) - 1) = ((R.length - 1 : Nat) : Int) := by omega
   have hbs : Beside S w wr := (Beside.of_below HB1.out S).trans HBW.out fun k hk => .inl hk
   have hks : ∀ k ∈ S', k ∈ S ∨ w.heap.size ≤ k := fun k hk => (HSW.out k hk).imp id (fun h => Nat.le_trans HB1.out.size h)
   have HF2 := Lib.hid FW
   have HBS := Lib.hid hbs
   have HKS := Lib.hid hks
   have hfl : f < wr.heap.size := FW.lt f (by simp)
   generalize (setU x (L.map fun r => r.p.u) R).length = nr at c5 hw1
   obtain ⟨nr1, hnr1⟩ : ∃ nr1, nr1 = R.length - 1 := ⟨_, rfl⟩
   rw [← hnr1] at hmx
   have HNR := Lib.hid hnr1
   clear hnr1
   clear hje FW hlt F1 hbs hks
   go_wp2
   go_ret
   have hb6 : Beside [f] wr (wr.setCell ⟨f, 6, none⟩ (.int .i64 (nr1 : Int))) := (Beside.refl _ _).setCell (by simp) _
   refine ⟨rfl, S', ?_, ?_, HKS.out⟩
   ·have hbx := heapSame (i := 6) (v := .int .i64 (nr1 : Int)) HF2.out.box
    have := HF2.out.rebox (floor' := floor) (time' := time) (safe' := nr1) hb6 (hbx.trans rfl)
    rw [← HNR.out]
    exact this
   ·exact (HBS.out.wider (S1 := S ++ [f]) fun k hk => .inl (List.mem_append.2 (.inl hk))).trans hb6 fun k hk => .inl (List.mem_append.2 (.inr hk))
theorem sync_any [Inhabited XS] (d f x : Nat) (sz : Int) (floor time : Nat) (P : List Part) (safe acts : Nat) (O : List Nat) (w : World) (F : Feed w d f x sz floor time P safe O (hdA acts)) (T : TabsOn O w) (hR : Rise P) (hx : x < 64) (hn : P.length ≤ 1000) (hsf : safe ≤ P.length) (hac : acts ≤ 50000) (hsum : (P.map (Part.z x)).sum ≤ 1000000) (h1 : ∀ p ∈ P, p.N ≤ p.z x) (h2 : ∀ p ∈ P.take safe, p.N = p.z x) :
  Calls Tryz.prog 38 #[.pointer (some ⟨f, 0, none⟩)] w fun e w' => e = .returned (.int .i64 0) ∧ ∃ acts', acts' ≤ acts + P.length ∧ FNext O w d f x sz floor time (P.map (Part.full x)) (P.length - 1) acts' w' := by
 obtain ⟨R, A, c, S, hRP, hO, F⟩ := F
 subst hRP
 have hfO : f ∈ O := by rw [hO]; simp
 have hSO : ∀ k ∈ S, k ∈ O := fun k hk => by rw [hO]; exact List.mem_append.2 (.inl hk)
 rw [List.length_map] at hn hsf ⊢
 have hll : (looseL x R safe).length ≤ R.length := Nat.le_trans (List.length_filter_le _ _) (by rw [List.length_drop]; omega)
 refine (sync_at d f x sz floor time R safe acts A c S w F (TabsOn.sub T hSO) hR hx hn hsf hac hsum).mono ?_
 rintro e w' ⟨rfl, S', F', hb, hk⟩
 refine ⟨rfl, _, Nat.add_le_add_left hll acts, S' ++ f :: blk A, ⟨_, A, c, S', setU_all hR (fun r hr => h1 _ (List.mem_map_of_mem hr)) (fun r hr => h2 _ (by rw [← List.map_take]; exact List.mem_map_of_mem hr)), rfl, F'⟩, hb.wider fun k hk => ?_, fun k hk' => ?_⟩
 ·rcases List.mem_append.1 hk with h | h
  ·exact .inl (hSO k h)
  ·simp at h; subst h; exact .inl hfO
 ·rcases List.mem_append.1 hk' with h | h
  ·exact (hk k h).imp (hSO k) id
  ·exact .inl (by rw [hO]; exact List.mem_append.2 (.inr h))
end Go.Proofs.YtinjbdgjcadodaaGreatDoor.Fd
