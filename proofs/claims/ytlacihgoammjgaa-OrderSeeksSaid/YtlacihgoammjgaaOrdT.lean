/- Order: the document's Whole; two lists of the same events are told as the same. -/
import Derived.Test.YtlacihgoammjgaaOrdS1
import Derived.Deep.RegionWith
namespace Go.Proofs.Ytlacihgoammjgaa.Ord
open Go Go.RowKit Go.Proofs.Ytlacihgoammjgaa.Words Go.Proofs.Ytlacihgoammjgaa.Enc Go.Proofs.Ytlacihgoammjgaa.Evt Go.Proofs.Ytlacihgoammjgaa.Seg
set_option linter.unusedVariables false
set_option linter.unusedSimpArgs false

theorem flat_take_succ {L : List HV} {i : Nat} (hi : i < L.length) : flat (L.take (i + 1)) = flat (L.take i) ++ L[i].S := by
  unfold flat
  rw [← List.take_append_getElem hi, List.flatMap_append]
  simp
theorem flat_take_le (L : List HV) (i : Nat) : (flat (L.take i)).length ≤ (flat L).length := by
  unfold flat
  conv => rhs; rw [← List.take_append_drop i L]
  rw [List.flatMap_append, List.length_append]
  omega

set_option maxRecDepth 100000 in
set_option maxHeartbeats 4000000 in
theorem refWhole_any {B : Nat} (Al : Option Addr) (cl : Nat) (L : List HV) (w : World) (h : Lists B w Al L) (hB : B ≤ w.heap.size) (hn : L.length ≤ 1000) (hf : (flat L).length ≤ 1000) :
    Calls Try.prog 9 #[.slice Al L.length cl] w fun e w' => ∃ A' c' R, e = .returned (.slice A' (flat L).length c') ∧ w'.ownsRow w.heap.size 34 8 (.slice A' (flat L).length c') (flat L).length (rowsL R) ∧ R.Perm (flat L) ∧ Rises R ∧ Below w.heap.size w w' := by
  obtain ⟨N, hN⟩ : ∃ N, N = L.length := ⟨_, rfl⟩
  have HH := Lib.hid (And.intro h hN)
  rw [← hN] at hn ⊢
  have SO := fun (A' : Option Addr) (c' : Nat) (W : World) (hA : W.ownsRow w.heap.size 34 8 (.slice A' (flat L).length c') (flat L).length (rowsL (flat L))) (hW : Below w.heap.size w W) => (by
    refine (refSort_any A' c' (flat L) W (RawEv.of_own hA) hf).mono ?_
    rintro e w' ⟨A2, c2, R, rfl, h1, h2, h3, h4⟩
    refine ⟨A2, c2, R, rfl, Lib.hid ⟨⟨h1.1, ?_⟩, h2, h3, hW.trans (h4.mono hW.size)⟩⟩
    rcases h1.2 with hn | ⟨g, cap, cur, hv, hg, hh, r⟩
    · exact .inl hn
    · exact .inr ⟨g, cap, cur, hv, Nat.le_trans hW.size hg, hh, r⟩ : Calls Try.prog 25 #[.slice A' (flat L).length c'] W fun e w' => ∃ A2 c2 R, e = .returned (.slice A2 (flat L).length c2) ∧ Hid (w'.ownsRow w.heap.size 34 8 (.slice A2 (flat L).length c2) (flat L).length (rowsL R) ∧ R.Perm (flat L) ∧ Rises R ∧ Below w.heap.size w w'))
  have HSO := Lib.hid SO
  have HF := Lib.hid hf
  obtain ⟨F, hF⟩ : ∃ F, F = (flat L).length := ⟨_, rfl⟩
  rw [← hF] at HSO ⊢
  have HFL := Lib.hid hF
  clear h hN SO hf hF
  obtain ⟨ie, hie, hze, hsze, hbye⟩ := info_parts infoEv
  go_enter Try.func9, Try.ntmps9
  go_wp2_with fail
  go_loopw [3, 4] (fun ov iv W => ∃ (i m : Nat) (A' : Option Addr) (c' : Nat), iv = .int .i64 (i : Int) ∧ ov = .slice A' m c' ∧ i ≤ N ∧ Hid (m = (flat (L.take i)).length ∧ W.ownsRow w.heap.size 34 8 (.slice A' m c') m (rowsL (flat (L.take i))) ∧ Below w.heap.size w W)) (fun _ iv _ => N - (intOf iv).toNat)
  case atStart => exact ⟨0, 0, none, 0, rfl, rfl, Nat.zero_le _, Lib.hid ⟨by simp [flat], by simpa [flat] using own_nil8 _ _ _, Below.refl _ _⟩⟩
  case round =>
    obtain ⟨i, m, A', c', rfl, rfl, hi, HR⟩ := hrel
    by_cases hlt : i < N
    · have hiL : i < L.length := by rw [← HH.out.2]; exact hlt
      have hLL := HH.out.1
      obtain ⟨b, o, hb, rfl, hrow⟩ := hLL.row (by omega)
      have hx0 := hrow i L[i] (List.getElem?_eq_getElem hiL)
      have hx := (HR.out.2.2.cell (p := ⟨b, o + i, none⟩) (by show b < _; omega)).trans hx0
      have hLi := (hLL.lie _ (List.getElem_mem hiL)).below (HR.out.2.2.mono hB)
      have HXR := Lib.hid (show RawEv wr L[i].A L[i].S from fun h0 => by
        obtain ⟨b1, o1, h1, h2, h3⟩ := hLi.2 h0
        exact ⟨b1, o1, h2, h3⟩)
      have HT1 := Lib.hid (flat_take_succ hiL)
      have HTL := Lib.hid (flat_take_le L (i + 1))
      generalize L[i] = x at hx HXR HT1
      unfold HV.val at hx
      have zi : (i : Int) < (N : Int) := by omega
      clear hx0 hLi hrow hLL
      go_wp2_with (first | (refine wpList_appE rfl (.tmp 11) (.tmp 15) 26 rfl w.heap.size 34 ie zeroEV Try.underlying26 hie hze hsze hbye rfl A' m c' (flat (L.take i)) ?hs ?hown x.A x.S.length x.c x.S ?hx ?hl ?hq ?h63 ?hbase ?h))
      case hs => rfl
      case hown => exact HR.out.2.1
      case hx => rfl
      case hl => rfl
      case hq => exact HXR.out
      case h63 => have h1 := HTL.out; rw [HT1.out, List.length_append] at h1; have := HR.out.1; have := HF.out; omega
      case hbase => exact HR.out.2.2.size
      intro A2 c2 wa own2 hba
      have HR2 := Lib.hid (show m + x.S.length = (flat (L.take (i + 1))).length ∧ wa.ownsRow w.heap.size 34 8 (.slice A2 (m + x.S.length) c2) (m + x.S.length) (rowsL (flat (L.take (i + 1)))) ∧ Below w.heap.size w wa from ⟨by rw [HT1.out, List.length_append, ← HR.out.1], by rw [HT1.out]; exact own2, HR.out.2.2.trans hba⟩)
      clear own2 hba HT1 HXR HTL HR
      generalize m + x.S.length = m2 at HR2 ⊢
      go_wp2
      go_roundw
      case rel => exact ⟨i + 1, m2, A2, c2, by simp, rfl, by omega, HR2⟩
      case measure => simp [intOf]; omega
    · obtain rfl : i = N := by omega
      have htk : L.take i = L := List.take_of_length_le (by rw [← HH.out.2]; exact Nat.le_refl _)
      have hown := HR.out.2.1
      have hm := HR.out.1
      rw [htk] at hown hm
      have hmF : m = F := by rw [hm, HFL.out]
      subst hmF
      have SO2 := HSO.out A' c' wr hown HR.out.2.2
      clear hown hm htk HSO HR
      go_wp2_with fail
      refine SO2.mono ?_
      rintro e w5 ⟨A2, c2, R, rfl, H5⟩
      clear SO2
      go_wp2
      go_ret
      exact ⟨A2, c2, R, rfl, H5.out.1, H5.out.2.1, H5.out.2.2.1, H5.out.2.2.2⟩

/-- Two lists of the same events. -/
structure SameR (w : World) (A : Option Addr) (S : List EvS) : Prop where
  raw : RawEv w A S
  text : ∀ r ∈ S, Sees w r.A r.n r.e.text
theorem SameR.below {w w' : World} {A : Option Addr} {S : List EvS} (h : SameR w A S) (hb : Below w.heap.size w w') : SameR w' A S :=
  ⟨fun h0 => by
    obtain ⟨b, o, h1, h2⟩ := h.raw h0
    exact ⟨b, o, h1, fun j v hv => by rw [hb.cell (World.block_lt_of_cell? _ _ (h2 j v hv))]; exact h2 j v hv⟩, fun r hr => (h.text r hr).below hb⟩
set_option maxRecDepth 100000 in
set_option maxHeartbeats 2000000 in
theorem sameAllR_any (A1 A2 : Option Addr) (n c1 c2 : Nat) (S1 S2 : List EvS) (w : World) (h1 : SameR w A1 S1) (h2 : SameR w A2 S2) (hl1 : S1.length = n) (hl2 : S2.length = n) (he : S1.map EvS.e = S2.map EvS.e) (hr : ∀ r ∈ S1, Right r.e ∧ r.e.num < 18446744073709551616) (hn : n ≤ 1000000) :
    Calls Try.prog 13 #[.slice A1 n c1, .slice A2 n c2] w fun e w' => e = .returned (.bool true) ∧ Below w.heap.size w w' := by
  have HL := Lib.hid (And.intro hl1 hl2)
  have HE := Lib.hid he
  clear hl1 hl2 he
  go_enter Try.func13, Try.ntmps13
  go_wp2_with fail
  go_loopw [5] (fun i W => ∃ j : Nat, i = .int .i64 (j : Int) ∧ j ≤ n ∧ Hid (Below w.heap.size w W)) (fun i _ => n - (intOf i).toNat)
  case atStart => exact ⟨0, rfl, Nat.zero_le _, Lib.hid (Below.refl _ _)⟩
  case round =>
    obtain ⟨j, rfl, hj, HB⟩ := hrel
    by_cases hlt : j < n
    · have hj1 : j < S1.length := by rw [HL.out.1]; exact hlt
      have hj2 : j < S2.length := by rw [HL.out.2]; exact hlt
      obtain ⟨b1, o1, rfl, k0, k1, k2, k3, k4, k5, k6, k7⟩ := RawEv.at_ (h1.below HB.out).raw (List.getElem?_eq_getElem hj1)
      obtain ⟨b2, o2, rfl, m0, m1, m2, m3, m4, m5, m6, m7⟩ := RawEv.at_ (h2.below HB.out).raw (List.getElem?_eq_getElem hj2)
      have ht1 := (h1.below HB.out).text _ (List.getElem_mem hj1)
      have ht2 := (h2.below HB.out).text _ (List.getElem_mem hj2)
      have hre := hr _ (List.getElem_mem hj1)
      have he : (S2[j]).e = (S1[j]).e := by
        have h3 := congrArg (fun l => l[j]?) HE.out
        simp only [List.getElem?_map, List.getElem?_eq_getElem hj1, List.getElem?_eq_getElem hj2, Option.map_some] at h3
        exact (Option.some.inj h3).symm
      generalize S1[j] = r1 at *
      generalize S2[j] = r2 at *
      rw [he] at ht2 m0 m1 m2 m3 m4 m6 m7
      have SAME : ∀ W, Below wr.heap.size wr W → Calls Try.prog 12 #[r1.e.val r1.A r1.n r1.c, r1.e.val r2.A r2.n r2.c] W fun e w' => e = .returned (.bool true) ∧ Hid (Below w.heap.size w w') := fun W hW => by
        refine (refSame_any r1.e r1.e r1.A r2.A r1.n r1.c r2.n r2.c W (ht1.below hW) (ht2.below hW) hre.2 hre.2 hre.1 hre.1).mono ?_
        rintro e w' ⟨rfl, hb⟩
        exact ⟨by simp, Lib.hid ((HB.out.trans (hW.mono HB.out.size)).trans (hb.mono (Nat.le_trans HB.out.size hW.size)))⟩
      have hjn : (j : Int) < (n : Int) := by omega
      have hj0 : (0 : Int) ≤ (j : Int) := by omega
      rw [Nat.mul_comm 8 j] at k0 k1 k2 k3 k4 k5 k6 k7 m0 m1 m2 m3 m4 m5 m6 m7
      clear ht1 ht2 hre he hr h1 h2 hj1 hj2
      go_wp2_with fail
      go_region_with (first
        | (go_at_call 12
           refine (SAME _ ?h1).mono ?_
           case h1 => first | exact Below.refl _ _ | exact (Below.refl _ _).drew | exact (Below.refl _ _).drew.drew
           rintro e w7 ⟨rfl, HB7⟩))
      all_goals go_wp2
      all_goals go_roundw
      all_goals first | exact ⟨j + 1, rfl, by omega, HB7⟩ | (simp [intOf]; omega)
    · have hjn : j = n := by omega
      subst hjn
      go_wp2
      go_ret
      exact ⟨rfl, HB.out⟩
end Go.Proofs.Ytlacihgoammjgaa.Ord
