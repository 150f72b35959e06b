/- Order: the law OrderMerges. -/
import Derived.Test.YtlacihgoammjgaaOrdNw1
import Derived.Test.YtlacihgoammjgaaOrdLr
namespace Go.Proofs.Ytlacihgoammjgaa.Ord
open Go Go.RowKit Go.Proofs.Ytlacihgoammjgaa.Words Go.Proofs.Ytlacihgoammjgaa.Enc Go.Proofs.Ytlacihgoammjgaa.Evt Go.Proofs.Ytlacihgoammjgaa.Seg
set_option linter.unusedVariables false
set_option linter.unusedSimpArgs false

/-- An event without where it lies. -/
def mkB (e : Ev) : EvS := ⟨e, none, 0, 0⟩
theorem rises_bare {l : List EvS} (h : Rises l) : Rises ((l.map EvS.e).map mkB) := by
  unfold Rises at *
  rw [List.map_map, List.pairwise_map]
  exact h.imp fun h => h
/-- What has been taken is what the document's list begins with. -/
theorem taken_e {R : List EvS} {hs rest : List HV} {rs : List EvS} (hR : Rises R) (hp : (R.map EvS.e).Perm ((flat hs).map EvS.e)) (anti : ∀ a b, a ∈ R → b ∈ R → evLe a b → evLe b a → a = b) (ht : Taken hs rs rest) : rs.map EvS.e = (R.map EvS.e).take rs.length := by
  have h := take_of_split (Q := (R.map EvS.e).map mkB) (rs := (rs.map EvS.e).map mkB) (rest := ((flat rest).map EvS.e).map mkB) (rises_bare hR) (by
    rw [← List.map_append, ← List.map_append]
    exact ((ht.perm.map EvS.e).trans hp.symm).map mkB) (rises_bare ht.rise) (fun a ha b hb => by
    obtain ⟨a1, ha1, rfl⟩ := List.mem_map.1 ha
    obtain ⟨a2, ha2, rfl⟩ := List.mem_map.1 ha1
    obtain ⟨b1, hb1, rfl⟩ := List.mem_map.1 hb
    obtain ⟨b2, hb2, rfl⟩ := List.mem_map.1 hb1
    exact ht.le a2 ha2 b2 hb2) (fun a b ha hb h1 h2 => by
    obtain ⟨a1, ha1, rfl⟩ := List.mem_map.1 ha
    obtain ⟨a2, ha2, rfl⟩ := List.mem_map.1 ha1
    obtain ⟨b1, hb1, rfl⟩ := List.mem_map.1 hb
    obtain ⟨b2, hb2, rfl⟩ := List.mem_map.1 hb1
    rw [anti a2 b2 ha2 hb2 h1 h2])
  rw [List.length_map, List.length_map] at h
  have h2 := congrArg (List.map EvS.e) h
  have key : ∀ l : List Ev, (l.map mkB).map EvS.e = l := fun l => by
    induction l with
    | nil => rfl
    | cons a t ih => rw [List.map_cons, List.map_cons, ih]; rfl
  rw [key, List.map_take, key] at h2
  exact h2
theorem riseB_of {S : List EvS} (h : Rises S) : riseB S = true := by
  unfold riseB
  rw [List.all_eq_true]
  intro k hk
  have hk2 : k < S.length - 1 := List.mem_range.1 hk
  have hle := rises_le h k (k + 1) (by omega) (by omega)
  cases hl : lessB (evAt S (k + 1)) (evAt S k) with
  | false => rfl
  | true =>
    exfalso
    unfold lessB at hl
    rw [decide_eq_true_eq, cmpS_lt] at hl
    unfold evLe at hle
    omega

set_option maxRecDepth 100000 in
set_option maxHeartbeats 8000000 in
theorem merges_law (A : Option Addr) (n c : Nat) (l : List Nat) (ws : Nat) (w : World) (h : SeesH w A n l) (hws : ws < 256) :
    Calls Try.prog 3 #[.slice A n c, .int .u8 (ws : Int)] w fun e w' => e = .returned (.bool true) ∧ Below w.heap.size w w' := by
  have AW := fun w => awake_yes w
  have hnot : ∀ (x : Bool) (w : World), (Op.unary .not (.bool x)).run Try.prog w = .ok (.bool (!x)) w := fun _ _ => rfl
  by_cases hbig : 60 < n
  · have zb : (60 : Int) < (n : Int) := by omega
    clear h
    go_enter Try.func3, Try.ntmps3
    go_wp2_with fail
    refine (AW w).mono ?_
    rintro e w2 ⟨rfl, hb2⟩
    go_wp2_with fail
    refine (AW w2).mono ?_
    rintro e w3 ⟨rfl, hb3⟩
    have HF := Lib.hid (hb2.trans (hb3.mono hb2.size))
    clear hb2 hb3
    go_wp2
    go_ret
    exact ⟨rfl, HF.out⟩
  · have zb : (n : Int) ≤ 60 := by omega
    obtain ⟨wn, hwn⟩ : ∃ wn, wn = 1 + ws % 6 := ⟨_, rfl⟩
    have zw : (1 : Int) + (ws : Int) % 6 = (wn : Int) := by omega
    have zw1 : 1 ≤ wn := by omega
    have zw6 : wn ≤ 6 := by omega
    have hn60 : n ≤ 60 := by omega
    have HSS := Lib.hid (fun W (hW : Below w.heap.size w W) => h.below hW)
    clear hwn hbig h
    go_enter Try.func3, Try.ntmps3
    go_wp2_with fail
    refine (AW w).mono ?_
    rintro e w3 ⟨rfl, hb3⟩
    have HB3 := Lib.hid hb3
    have HH3 := Lib.hid (HSS.out w3 hb3)
    clear hb3
    go_wp2_with fail
    refine (feeds_any A n c wn l w3 HH3.out (by omega) (by omega) (by omega)).mono ?_
    rintro e w4 ⟨L, T, rfl, FE⟩
    have hGL := feeds_good FE (by omega) (by omega)
    have hfl := FE.few
    have hLn := FE.lenL
    have HRT := Lib.hid (feeds_right FE (by omega) (by omega))
    have HAN := Lib.hid (feeds_anti FE)
    have HB4 := Lib.hid (HB3.out.trans (FE.below.mono HB3.out.size))
    have HGL := Lib.hid hGL
    obtain ⟨ob, hob⟩ : ∃ b, b = w3.heap.size := ⟨_, rfl⟩
    rw [← hob] at HGL ⊢
    have WH := refWhole_any (some ⟨ob, 0, none⟩) wn L w4 HGL.out.lists (Nat.le_refl _) (by omega) (by omega)
    rw [hLn] at WH
    have HWH := Lib.hid WH
    have HLN := Lib.hid hLn
    have HF0 := Lib.hid (show (flat L).length ≤ 60 by omega)
    clear WH hGL FE hLn hob hfl HH3 HB3 HSS
    clear T
    go_wp2_with fail
    refine HWH.out.mono ?_
    rintro e w5 ⟨AR, cR, R, rfl, hown, hperm, hrise, hb5⟩
    have hRl := hperm.length_eq
    have HRW := Lib.hid hown
    have HPR := Lib.hid (And.intro hperm (And.intro hrise hRl))
    have HB45 := Lib.hid hb5
    have HB5 := Lib.hid (HB4.out.trans (hb5.mono HB4.out.size))
    have NW := onew_any (some ⟨ob, 0, none⟩) wn L w5 (HGL.out.later hb5 hb5.size) (by rw [HLN.out]; omega) (by have := HF0.out; omega)
    rw [HLN.out] at NW
    have HNW := Lib.hid NW
    obtain ⟨F, hF⟩ : ∃ F, F = (flat L).length := ⟨_, rfl⟩
    rw [← hF] at HRW HF0 ⊢
    have HFF := Lib.hid hF
    clear hown hperm hrise hRl hb5 hF HWH HB4 NW
    go_wp2_with fail
    refine HNW.out.mono ?_
    rintro e w6 ⟨p, hs0, L1, rfl, hA0, hp0, hev, hL1, hevj, htx, hBp, hb6⟩
    obtain ⟨⟨A0, c0, hat0⟩, hheap0⟩ := hA0
    have hfp : (flat hs0).Perm (flat L1) := (flat_perm hp0).trans (by rw [flat_filter])
    have hpe : (R.map EvS.e).Perm ((flat hs0).map EvS.e) := ((HPR.out.1.map EvS.e).trans (by rw [← hev])).trans (hfp.map EvS.e).symm
    have hfl0 : (flat hs0).length = F := by have h1 := hpe.length_eq; rw [List.length_map, List.length_map, HPR.out.2.2, ← HFF.out] at h1; exact h1.symm
    have hris1 : ∀ x ∈ hs0, Rises x.S := fun x hx => by
      have hx1 := (List.mem_filter.1 (hp0.mem_iff.1 hx)).1
      obtain ⟨j, hj, hje⟩ := List.getElem_of_mem hx1
      have hjL : j < L.length := by rw [← hL1]; exact hj
      have h1 := hevj j hjL
      have h2 : HV.at_ L1 j = x := by simp [HV.at_, List.getD_eq_getElem?_getD, List.getElem?_eq_getElem hj, hje]
      have h3 : HV.at_ L j = L[j] := by simp [HV.at_, List.getD_eq_getElem?_getD, List.getElem?_eq_getElem hjL]
      rw [h2, h3] at h1
      have h4 := rises_bare (HGL.out.rise _ (List.getElem_mem hjL))
      rw [← h1] at h4
      unfold Rises at *
      rw [List.map_map, List.pairwise_map] at h4
      exact h4.imp fun h => h
    have hps : p < w6.heap.size := (Array.getElem?_eq_some_iff.1 hat0.box).1
    have hw5p : w5.heap.size ≤ p := hBp
    have HT0 := Lib.hid (And.intro (Taken.nil hheap0 hris1) (And.intro hat0 (And.intro hpe (And.intro hfl0 (fun r hr => htx r (hfp.mem_iff.1 hr) : ∀ r ∈ flat hs0, TextLow p w6 r)))))
    have HB56 := Lib.hid hb6
    have HB6 := Lib.hid (HB5.out.trans (hb6.mono HB5.out.size))
    clear hat0 hheap0 hfp hpe hfl0 hris1 hp0 hev hevj htx hb6 HNW hL1
    go_wp2_with fail
    go_loopw [8, 9, 10, 31, 32, 33, 34, 35, 36, 37, 38, 39, 40, 41, 42, 43, 44, 45, 46, 47, 48, 49, 50, 51, 52] (fun a8 a9 a10 a31 a32 a33 a34 a35 a36 a37 a38 a39 a40 a41 a42 a43 a44 a45 a46 a47 a48 a49 a50 a51 a52 wr => ∃ i : Nat, a8 = .int .i64 (i : Int) ∧ i ≤ F ∧ Hid (∃ rs hs, Taken hs0 rs hs ∧ rs.length = i ∧ HeadsAt p p 70 A0 c0 hs wr ∧ Below p w6 wr)) (fun a8 a9 a10 a31 a32 a33 a34 a35 a36 a37 a38 a39 a40 a41 a42 a43 a44 a45 a46 a47 a48 a49 a50 a51 a52 _ => F - (intOf a8).toNat)
    case atStart => exact ⟨0, rfl, Nat.zero_le _, Lib.hid ⟨[], hs0, HT0.out.1, rfl, HT0.out.2.1, Below.refl _ _⟩⟩
    case round =>
      obtain ⟨i, rfl, hi, HR⟩ := hrel
      by_cases hlt : i < F
      · obtain ⟨rs, hs, hTk, hrl, hat, hbr⟩ := HR.out
        have hfl : (flat hs).length = F - i := by
          have h1 := hTk.perm.length_eq
          rw [List.length_append, hrl, HT0.out.2.2.2.1] at h1
          omega
        have hn1 : 0 < hs.length := by
          rcases Nat.eq_zero_or_pos hs.length with h0 | h0
          · have e0 : (flat hs).length = 0 := by rw [List.eq_nil_of_length_eq_zero h0]; rfl
            omega
          · exact h0
        have hle1 := Heap.len_le hTk.heap.ne
        have NX := next_any hat hTk.heap hn1 (by have := HF0.out; omega)
        have hmem : (HV.at_ hs 0).one ∈ flat hs := List.mem_flatMap.2 ⟨_, at_mem hn1, one_mem (hTk.heap.ne _ (at_mem hn1))⟩
        have hmem0 := hTk.perm.mem_iff.1 (List.mem_append.2 (.inr hmem))
        have htl := HT0.out.2.2.2.2 _ (hTk.perm.mem_iff.1 (List.mem_append.2 (.inr hmem)))
        have hSTEP : ∀ hs2, Step1 hs hs2 → Taken hs0 (rs ++ [(HV.at_ hs 0).one]) hs2 := fun hs2 h2 => hTk.next h2 hn1
        have hiR : i < R.length := by rw [HPR.out.2.2, ← HFF.out]; exact hlt
        obtain ⟨r, hr⟩ : ∃ r, r = (HV.at_ hs 0).one := ⟨_, rfl⟩
        rw [← hr] at htl hSTEP
        unfold NextGives at NX
        rw [← hr] at NX
        have HEQ := Lib.hid (fun hs2 (h2 : Step1 hs hs2) => (by
          have h1 := taken_e HPR.out.2.1 HT0.out.2.2.1 (fun a b ha hb => HAN.out a b (HPR.out.1.mem_iff.1 ha) (HPR.out.1.mem_iff.1 hb)) (hSTEP hs2 h2)
          have h3 := congrArg (fun l => l[i]?) h1
          simp only [List.map_append, List.map_cons, List.map_nil, List.length_append, List.length_cons, List.length_nil, hrl] at h3
          rw [List.getElem?_append_right (by rw [List.length_map, hrl]; exact Nat.le_refl _), List.length_map, hrl, Nat.sub_self, List.getElem?_take, if_pos (by omega), List.getElem?_map, evAt_get hiR] at h3
          exact Option.some.inj h3 : r.e = (evAt R i).e))
        have HNX := Lib.hid NX
        have HSP := Lib.hid hSTEP
        have HTX := Lib.hid htl
        have HRL := Lib.hid hrl
        have HBR := Lib.hid hbr
        have hri : Right r.e ∧ r.e.num < 18446744073709551616 := by
          obtain ⟨r0, h1, h2⟩ := List.mem_map.1 (HT0.out.2.2.1.mem_iff.2 (List.mem_map.2 ⟨_, hmem0, rfl⟩))
          rw [hr, ← h2]
          exact HRT.out r0 (HPR.out.1.mem_iff.1 h1)
        have HRI := Lib.hid hri
        have zi : (i : Int) < (F : Int) := by omega
        have zi0 : (0 : Int) ≤ (i : Int) := by omega
        have zi60 : (i : Int) ≤ 60 := by have := HF0.out; omega
        clear hTk hrl hat hbr hfl hn1 hle1 NX hmem hmem0 htl hSTEP hiR hr hri
        go_wp2_with fail
        refine HNX.out.mono ?_
        rintro e w7 ⟨rfl, ⟨hs2, hat2, hst⟩, hb7, _⟩
        have he := HEQ.out hs2 hst
        have HS2 := Lib.hid (And.intro hat2 (HSP.out hs2 hst))
        have HB7 := Lib.hid hb7
        have HE := Lib.hid he
        have G3 := Lib.hid (show (w7.alloc (.cells zeroE 34)).heap[w7.heap.size]? = some (.cells zeroE 34 (0, 0)) from heap_alloc_new w7 _)
        clear hat2 hst hb7 he HEQ HSP HNX
        unfold zeroE at G3
        have hsf := store_float Try.prog
        go_wp2_with (first
          | (refine wpList_putRow rfl 34 (.tmp 9) (.tmp 40) rfl w7.heap.size 34 zeroE (r.e.row r.A r.n r.c) rfl rfl ?g1 (by kernel_rfl) rfl (by simp [Ev.row, Value.oneCell']) ?_))
        case g1 => exact G3.out
        intro W3 hW3 hbe3
        have hb3 : Below w7.heap.size w7 W3 := Below.beside ((Below.refl _ _).alloc (Nat.le_refl _) _) hbe3 (by simp) (by simp)
        obtain ⟨b9, hb9⟩ : ∃ b, b = w7.heap.size := ⟨_, rfl⟩
        rw [← hb9] at hW3 ⊢
        have hiR : i < R.length := by rw [HPR.out.2.2, ← HFF.out]; exact hlt
        have hpw : p ≤ w6.heap.size := Nat.le_of_lt hps
        have hb67 : Below p w6 w7 := HBR.out.trans HB7.out
        have hb63 : Below p w6 W3 := hb67.trans (hb3.mono (Nat.le_trans hpw hb67.size))
        have hb53 : Below w5.heap.size w5 W3 := HB56.out.trans (hb63.mono hw5p)
        have hraw : RawEv W3 AR R := RawEv.of_own (own_below8 HRW.out hb53 (Nat.le_refl _))
        obtain ⟨gR, hAR, _⟩ := own_at8 HRW.out (by omega)
        subst hAR
        obtain ⟨_, _, hAe, hcR⟩ := hraw (by omega)
        cases hAe
        have hx := RawEv.cells_at (w := W3) (b := gR) (o := 0) (S := R) (k := i) hcR hiR
        simp only [Nat.zero_add] at hx
        have hxm := HPR.out.1.mem_iff.1 (List.mem_of_getElem? (evAt_get hiR))
        have hxt : TextLow w4.heap.size w4 (evAt R i) := HGL.out.text _ hxm
        have hxt3 := (hxt.below (HB45.out.trans (hb53.mono HB45.out.size))).sees
        obtain ⟨x, hxd⟩ : ∃ x, x = evAt R i := ⟨_, rfl⟩
        have he := HE.out
        rw [← hxd] at hx hxt3 he
        rw [← he] at hx hxt3
        have hrt3 := (HTX.out.below hb63).sees
        obtain ⟨d0, d1, d2, d3, d4, d5, d6, d7⟩ := box8 hW3
        obtain ⟨e0, e1, e2, e3, e4, e5, e6, e7⟩ := hx
        have HC := Lib.hid (show ((W3.cell? ⟨b9, 0, none⟩ = some (.int .i64 r.e.writer) ∧ W3.cell? ⟨b9, 1, none⟩ = some (.int .u64 (r.e.seq : Int)) ∧ W3.cell? ⟨b9, 2, none⟩ = some (.int .u64 (r.e.time : Int)) ∧ W3.cell? ⟨b9, 3, none⟩ = some (.int .u8 (r.e.kind : Int)) ∧ W3.cell? ⟨b9, 4, none⟩ = some (.string r.e.key) ∧ W3.cell? ⟨b9, 5, none⟩ = some (.slice r.A r.n r.c) ∧ W3.cell? ⟨b9, 6, none⟩ = some (.float .f64 r.e.num) ∧ W3.cell? ⟨b9, 7, none⟩ = some (.int .i64 r.e.node)) ∧ (W3.cell? ⟨gR, i * 8, none⟩ = some (.int .i64 r.e.writer) ∧ W3.cell? ⟨gR, i * 8 + 1, none⟩ = some (.int .u64 (r.e.seq : Int)) ∧ W3.cell? ⟨gR, i * 8 + 2, none⟩ = some (.int .u64 (r.e.time : Int)) ∧ W3.cell? ⟨gR, i * 8 + 3, none⟩ = some (.int .u8 (r.e.kind : Int)) ∧ W3.cell? ⟨gR, i * 8 + 4, none⟩ = some (.string r.e.key) ∧ W3.cell? ⟨gR, i * 8 + 5, none⟩ = some (.slice x.A x.n x.c) ∧ W3.cell? ⟨gR, i * 8 + 6, none⟩ = some (.float .f64 r.e.num) ∧ W3.cell? ⟨gR, i * 8 + 7, none⟩ = some (.int .i64 r.e.node))) from ⟨⟨d0, d1, d2, d3, d4, d5, d6, d7⟩, e0, e1, e2, e3, e4, e5, e6, e7⟩)
        have SAME : ∀ w0, Below W3.heap.size W3 w0 → Calls Try.prog 12 #[.agg #[.int .i64 r.e.writer, .int .u64 (r.e.seq : Int), .int .u64 (r.e.time : Int), .int .u8 (r.e.kind : Int), .string r.e.key, .slice r.A r.n r.c, .float .f64 r.e.num, .int .i64 r.e.node], .agg #[.int .i64 r.e.writer, .int .u64 (r.e.seq : Int), .int .u64 (r.e.time : Int), .int .u8 (r.e.kind : Int), .string r.e.key, .slice x.A x.n x.c, .float .f64 r.e.num, .int .i64 r.e.node]] w0 fun e W => e = .returned (.bool true) ∧ Hid (Below W3.heap.size W3 W) ∧ ((W.cell? ⟨b9, 0, none⟩ = some (.int .i64 r.e.writer) ∧ W.cell? ⟨b9, 1, none⟩ = some (.int .u64 (r.e.seq : Int)) ∧ W.cell? ⟨b9, 2, none⟩ = some (.int .u64 (r.e.time : Int)) ∧ W.cell? ⟨b9, 3, none⟩ = some (.int .u8 (r.e.kind : Int)) ∧ W.cell? ⟨b9, 4, none⟩ = some (.string r.e.key) ∧ W.cell? ⟨b9, 5, none⟩ = some (.slice r.A r.n r.c) ∧ W.cell? ⟨b9, 6, none⟩ = some (.float .f64 r.e.num) ∧ W.cell? ⟨b9, 7, none⟩ = some (.int .i64 r.e.node)) ∧ (W.cell? ⟨gR, i * 8, none⟩ = some (.int .i64 r.e.writer) ∧ W.cell? ⟨gR, i * 8 + 1, none⟩ = some (.int .u64 (r.e.seq : Int)) ∧ W.cell? ⟨gR, i * 8 + 2, none⟩ = some (.int .u64 (r.e.time : Int)) ∧ W.cell? ⟨gR, i * 8 + 3, none⟩ = some (.int .u8 (r.e.kind : Int)) ∧ W.cell? ⟨gR, i * 8 + 4, none⟩ = some (.string r.e.key) ∧ W.cell? ⟨gR, i * 8 + 5, none⟩ = some (.slice x.A x.n x.c) ∧ W.cell? ⟨gR, i * 8 + 6, none⟩ = some (.float .f64 r.e.num) ∧ W.cell? ⟨gR, i * 8 + 7, none⟩ = some (.int .i64 r.e.node))) := fun w0 hW => by
          refine (refSame_any r.e r.e r.A x.A r.n r.c x.n x.c w0 (hrt3.below hW) (hxt3.below hW) HRI.out.2 HRI.out.2 HRI.out.1 HRI.out.1).mono ?_
          rintro e w' ⟨rfl, hb⟩
          have hb2 := hW.trans (hb.mono hW.size)
          have old : ∀ {q : Addr} {v : Value}, W3.cell? q = some v → w'.cell? q = some v := fun {q v} hq => by rw [hb2.cell (World.block_lt_of_cell? _ _ hq)]; exact hq
          obtain ⟨⟨d0, d1, d2, d3, d4, d5, d6, d7⟩, e0, e1, e2, e3, e4, e5, e6, e7⟩ := HC.out
          exact ⟨by simp, Lib.hid hb2, ⟨old d0, old d1, old d2, old d3, old d4, old d5, old d6, old d7⟩, old e0, old e1, old e2, old e3, old e4, old e5, old e6, old e7⟩
        have HSA := Lib.hid SAME
        have HNX := Lib.hid (fun W (hW : Below W3.heap.size W3 W) => (by
          have h1 : Below w7.heap.size w7 W := hb3.trans (hW.mono hb3.size)
          exact ⟨rs ++ [r], hs2, HS2.out.2, by rw [List.length_append, HRL.out]; rfl, HS2.out.1.below h1, hb67.trans (h1.mono (Nat.le_trans hpw hb67.size))⟩ : ∃ rs hs, Taken hs0 rs hs ∧ rs.length = i + 1 ∧ HeadsAt p p 70 A0 c0 hs W ∧ Below p w6 W))
        clear hW3 hbe3 hb3 hb9 hiR hb67 hb63 hb53 hraw hcR hxm hxt hxt3 hxd he hrt3 SAME G3 HE HRI HTX HS2 HB7 HBR HRL
        go_upto_region 10 with fail
        go_region_held3 (fun W => ((W.cell? ⟨b9, 0, none⟩ = some (.int .i64 r.e.writer) ∧ W.cell? ⟨b9, 1, none⟩ = some (.int .u64 (r.e.seq : Int)) ∧ W.cell? ⟨b9, 2, none⟩ = some (.int .u64 (r.e.time : Int)) ∧ W.cell? ⟨b9, 3, none⟩ = some (.int .u8 (r.e.kind : Int)) ∧ W.cell? ⟨b9, 4, none⟩ = some (.string r.e.key) ∧ W.cell? ⟨b9, 5, none⟩ = some (.slice r.A r.n r.c) ∧ W.cell? ⟨b9, 6, none⟩ = some (.float .f64 r.e.num) ∧ W.cell? ⟨b9, 7, none⟩ = some (.int .i64 r.e.node)) ∧ (W.cell? ⟨gR, i * 8, none⟩ = some (.int .i64 r.e.writer) ∧ W.cell? ⟨gR, i * 8 + 1, none⟩ = some (.int .u64 (r.e.seq : Int)) ∧ W.cell? ⟨gR, i * 8 + 2, none⟩ = some (.int .u64 (r.e.time : Int)) ∧ W.cell? ⟨gR, i * 8 + 3, none⟩ = some (.int .u8 (r.e.kind : Int)) ∧ W.cell? ⟨gR, i * 8 + 4, none⟩ = some (.string r.e.key) ∧ W.cell? ⟨gR, i * 8 + 5, none⟩ = some (.slice x.A x.n x.c) ∧ W.cell? ⟨gR, i * 8 + 6, none⟩ = some (.float .f64 r.e.num) ∧ W.cell? ⟨gR, i * 8 + 7, none⟩ = some (.int .i64 r.e.node)))) (first | exact ⟨⟨d0, d1, d2, d3, d4, d5, d6, d7⟩, e0, e1, e2, e3, e4, e5, e6, e7⟩ | go_keep | assumption)
          (first
            | (go_at_call 12
               refine (HSA.out _ ?h1).mono ?_
               case h1 => first | exact Below.refl _ _ | exact (Below.refl _ _).drew | exact Hid.out (by assumption)
               rintro e w9 ⟨rfl, hb9, ⟨q0, q1, q2, q3, q4, q5, q6, q7⟩, m0, m1, m2, m3, m4, m5, m6, m7⟩))
        have HN := Lib.hid (HNX.out w9 hb9.out)
        clear HNX hb9 q0 q1 q2 q3 q4 q5 q6 q7 m0 m1 m2 m3 m4 m5 m6 m7 d0 d1 d2 d3 d4 d5 d6 d7 e0 e1 e2 e3 e4 e5 e6 e7 HC HSA
        go_wp2
        go_roundw
        case rel => exact ⟨i + 1, by simp, by omega, HN⟩
        case measure => simp [intOf]; omega
      · obtain rfl : i = F := by omega
        obtain ⟨rs, hs, hTk, hrl, hat, hbr⟩ := HR.out
        have hfl : (flat hs).length = 0 := by
          have h1 := hTk.perm.length_eq
          rw [List.length_append, hrl, HT0.out.2.2.2.1] at h1
          omega
        have hle1 := Heap.len_le hTk.heap.ne
        have hhs : hs = [] := List.eq_nil_of_length_eq_zero (by omega)
        subst hhs
        have NX := next_none hat
        have HNX := Lib.hid NX
        have hpw : p ≤ w6.heap.size := Nat.le_of_lt hps
        have HBR := Lib.hid (And.intro hbr hpw)
        clear hTk hrl hat hbr hfl hle1 NX HR
        go_wp2_with fail
        refine HNX.out.mono ?_
        rintro e w7 ⟨rfl, hb7⟩
        have HB7 := Lib.hid hb7
        have G3 := Lib.hid (show (w7.alloc (.cells zeroE 34)).heap[w7.heap.size]? = some (.cells zeroE 34 (0, 0)) from heap_alloc_new w7 _)
        have hsf := store_float Try.prog
        clear hb7 HNX
        unfold zeroE at G3
        go_wp2_with (first
          | (refine wpList_putRow rfl 34 (.tmp 11) (.tmp 56) rfl w7.heap.size 34 zeroE zeroE rfl rfl ?g1 (by kernel_rfl) rfl (by simp [zeroE, Value.oneCell']) ?_))
        case g1 => exact G3.out
        intro W3 hW3 hbe3
        have hb3 : Below w7.heap.size w7 W3 := Below.beside ((Below.refl _ _).alloc (Nat.le_refl _) _) hbe3 (by simp) (by simp)
        have hb63 : Below p w6 W3 := HBR.out.1.trans ((HB7.out.trans (hb3.mono HB7.out.size)).mono (by have := HBR.out.2; have := HBR.out.1.size; omega))
        have hb53 : Below w5.heap.size w5 W3 := HB56.out.trans (hb63.mono hw5p)
        have hb43 : Below w4.heap.size w4 W3 := HB45.out.trans (hb53.mono HB45.out.size)
        have GL3 := HGL.out.later hb43 hb43.size
        have AL := all_any (some ⟨ob, 0, none⟩) wn L W3 GL3
        rw [HLN.out] at AL
        have SAM : ∀ g m S r0 W, S.length = m → RowAt g m S W → S.map EvS.e = r0.map EvS.e → r0.Perm (flat L) → Rises r0 → Below W3.heap.size W3 W →
            m = i ∧ Calls Try.prog 13 #[.slice (some ⟨g, 0, none⟩) i i, .slice AR i cR] W fun e w' => e = .returned (.bool true) ∧ Hid (Below W3.heap.size W3 w') := fun g m S r0 W h1 h2 h3 h4 h5 hW => by
          have hr0 : r0 = R := List.Perm.eq_of_pairwise (le := evLe) (fun a b ha hb h1 h2 => HAN.out a b (h4.mem_iff.1 ha) (HPR.out.1.mem_iff.1 hb) h1 h2) h5 HPR.out.2.1 (h4.trans HPR.out.1.symm)
          have hml : m = i := by
            rw [← h1, ← List.length_map (f := EvS.e), h3, List.length_map, hr0, HPR.out.2.2, HFF.out]
          refine ⟨hml, ?_⟩
          have hbW := hb53.trans (hW.mono hb53.size)
          refine (sameAllR_any (some ⟨g, 0, none⟩) AR i i cR S R W ⟨h2.raw, fun r hr => (h2.text r hr).sees⟩ ⟨RawEv.of_own (own_below8 HRW.out hbW (Nat.le_refl _)), fun r hr => ((GL3.text r (HPR.out.1.mem_iff.1 hr)).below hW).sees⟩ (by rw [h1, hml]) (by rw [HPR.out.2.2, HFF.out]) (by rw [h3, hr0]) (fun r hr => ?_) (by have := HF0.out; omega)).mono ?_
          · have hre : r.e ∈ r0.map EvS.e := by rw [← h3]; exact List.mem_map.2 ⟨r, hr, rfl⟩
            obtain ⟨r', hr', he'⟩ := List.mem_map.1 hre
            rw [← he']
            exact HRT.out r' (h4.mem_iff.1 hr')
          · rintro e w' ⟨rfl, hb⟩
            exact ⟨rfl, Lib.hid (hW.trans (hb.mono hW.size))⟩
        have RI : ∀ W, Below W3.heap.size W3 W → Calls Try.prog 15 #[.slice AR i cR] W fun e w' => e = .returned (.bool true) ∧ Hid (Below w.heap.size w w') := fun W hW => by
          have hbW := hb53.trans (hW.mono hb53.size)
          have h1 := oright_any AR cR R W (RawEv.of_own (own_below8 HRW.out hbW (Nat.le_refl _))) (by rw [HPR.out.2.2]; have := HF0.out; rw [← HFF.out]; omega)
          rw [HPR.out.2.2, ← HFF.out, riseB_of HPR.out.2.1] at h1
          refine h1.mono ?_
          rintro e w' ⟨rfl, hb⟩
          exact ⟨rfl, Lib.hid (HB6.out.trans ((hb63.trans ((hW.trans (hb.mono hW.size)).mono (Nat.le_trans HBR.out.2 hb63.size))).mono (by have := HB5.out.size; omega)))⟩
        have HAL := Lib.hid AL
        have HSA := Lib.hid SAM
        have HRI := Lib.hid RI
        clear hW3 hbe3 hb3 hb63 hb53 hb43 GL3 AL SAM RI G3 HB7 HBR HB6 HB56 HT0 HGL
        go_wp2_with fail
        refine HAL.out.mono ?_
        rintro e w8 ⟨g, m, S, r0, rfl, r1, r2, r3, r4, ⟨r5, r6⟩, hb8⟩
        obtain ⟨hmi, HS8⟩ := HSA.out g m S r0 w8 r1 r2 r4 r5 r6 hb8
        subst hmi
        have HS9 := Lib.hid HS8
        clear r1 r2 r3 r4 r5 r6 hb8 HAL HSA HS8
        go_wp2_with fail
        refine HS9.out.mono ?_
        rintro e w9 ⟨rfl, H9⟩
        have HR9 := Lib.hid (HRI.out w9 H9.out)
        clear HS9 HRI
        go_wp2_with fail
        refine HR9.out.mono ?_
        rintro e w10 ⟨rfl, H10⟩
        go_wp2
        go_ret
        exact ⟨rfl, H10.out⟩
end Go.Proofs.Ytlacihgoammjgaa.Ord
