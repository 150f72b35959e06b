/- Order: Range. -/
import Derived.Test.YtlacihgoammjgaaOrdSl
import Derived.Test.YtlacihgoammjgaaOrdX
namespace Go.Proofs.Ytlacihgoammjgaa.Ord
open Go Go.RowKit Go.Proofs.Ytlacihgoammjgaa.Words Go.Proofs.Ytlacihgoammjgaa.Enc Go.Proofs.Ytlacihgoammjgaa.Evt Go.Proofs.Ytlacihgoammjgaa.Seg
set_option linter.unusedVariables false
set_option linter.unusedSimpArgs false

theorem Lists.wide {B B' : Nat} {w : World} {Al : Option Addr} {L : List HV} (h : Lists B w Al L) (hB : B ≤ B') : Lists B' w Al L :=
  ⟨fun hn => by
    obtain ⟨b, o, h1, h2⟩ := h.row hn
    exact ⟨b, o, by omega, h2⟩, fun x hx => (h.lie x hx).wide hB⟩
theorem TextLow.wide {B B' : Nat} {w : World} {r : EvS} (h : TextLow B w r) (hB : B ≤ B') : TextLow B' w r := ⟨h.sees, h.few, fun h0 a ha => by have := h.low h0 a ha; omega⟩
theorem flat_len {hs : List HV} (h : ∀ x ∈ hs, x.S ≠ []) : hs.length ≤ (flat hs).length := Heap.len_le h
/-- What Range makes: copies of the first m events behind the place. -/
def RangeGives (B : Nat) (L : List HV) (st : Nat) (sw : Int) (m : Nat) (w : World) (e : Ending) (w' : World) : Prop :=
  ∃ g S rs rest, e = .returned (.slice (some ⟨g, 0, none⟩) m m) ∧ S.length = m ∧ RowAt g m S w' ∧ B ≤ g ∧ S.map EvS.e = rs.map EvS.e ∧ (rs ++ rest).Perm ((flat L).filter (aftB st sw)) ∧ Rises rs ∧ (∀ r ∈ rs, ∀ e ∈ rest, evLe r e) ∧ rs.length = m ∧ Below B w w'

set_option maxRecDepth 100000 in
set_option maxHeartbeats 4000000 in
theorem range_any (Al : Option Addr) (cl : Nat) (L : List HV) (w : World) (h : GoodLists w.heap.size w Al L) (hn : L.length ≤ 1000) (hf : (flat L).length ≤ 1000) (st : Nat) (sw : Int) (most : Int) (hm0 : -9223372036854775808 ≤ most) (hm1 : most ≤ 9223372036854775807) (m : Nat) (hm : (m : Int) = max 0 (min most (((flat L).filter (aftB st sw)).length : Int))) :
    Calls Try.prog 19 #[.slice Al L.length cl, .agg #[.int .u64 (st : Int), .int .i64 sw], .int .i64 most] w (RangeGives w.heap.size L st sw m w) := by
  obtain ⟨u, hu⟩ : ∃ u, u = w.alloc (.cells #[.int .u64 (st : Int), .int .i64 sw] 42) := ⟨_, rfl⟩
  have bu : Below w.heap.size w u := by rw [hu]; exact (Below.refl _ _).alloc (Nat.le_refl _) _
  have hsz : u.heap.size = w.heap.size + 1 := by rw [hu]; simp
  have g0 : u.heap[w.heap.size]? = some (.cells #[.int .u64 (st : Int), .int .i64 sw] 42 (0, 0)) := by rw [hu]; exact heap_alloc_new w _
  have OV := over_any Al cl L u ((h.lists.below bu).wide bu.size) (by omega)
  have SK : ∀ hs W, HeapAt u.heap.size u.heap.size 70 hs W → hs.Perm (L.filter hasEv) → Below u.heap.size u W →
      Calls Try.prog 18 #[.pointer (some ⟨u.heap.size, 0, none⟩), .agg #[.int .u64 (st : Int), .int .i64 sw]] W fun e w' => ∃ hs' v, e = .returned (.int .i64 v) ∧ Hid (HeapAt u.heap.size u.heap.size 70 hs' w' ∧ (flat hs').Perm ((flat L).filter (aftB st sw)) ∧ (∀ x ∈ hs', Rises x.S) ∧ Below u.heap.size u w') := fun hs W hA hp hb => by
    obtain ⟨⟨A, c, hat⟩, hH⟩ := hA
    have hfl : (flat hs).Perm (flat L) := (flat_perm hp).trans (by rw [flat_filter])
    have hlen := hfl.length_eq
    have hne := Heap.len_le hH.ne
    refine (seek_any hat (fun x hx => h.rise x (List.mem_filter.1 (hp.mem_iff.1 hx)).1) (by omega) (by omega) st sw).mono ?_
    rintro e w' ⟨hs', rfl, h1, h2, h3, h4, h5, _⟩
    exact ⟨hs', _, rfl, Lib.hid ⟨h1, h2.trans (hfl.filter _), h3, hb.trans h5⟩⟩
  have TK : ∀ hs W, HeapAt u.heap.size u.heap.size 70 hs W → (flat hs).Perm ((flat L).filter (aftB st sw)) → (∀ x ∈ hs, Rises x.S) → Below u.heap.size u W →
      Calls Try.prog 32 #[.pointer (some ⟨u.heap.size, 0, none⟩), .int .i64 most] W (RangeGives w.heap.size L st sw m w) := fun hs W hA hp hr hb => by
    obtain ⟨⟨A, c, hat⟩, hH⟩ := hA
    have hlen := hp.length_eq
    have hle := List.length_filter_le (aftB st sw) (flat L)
    have hbw := bu.trans (hb.mono bu.size)
    refine (ctake_any hat hH hr (by omega) (fun r hr' => ((h.text r (List.mem_filter.1 (hp.mem_iff.1 hr')).1).below hbw).wide bu.size) most hm0 hm1 m (by rw [hlen]; exact hm)).mono ?_
    rintro e w' ⟨g, rfl, hg, ⟨⟨rs, hs', S, t1, t2, t3, t4, t5⟩, t6, t7⟩⟩
    have hSl : S.length = m := by rw [← t2, ← List.length_map (f := EvS.e), t3, List.length_map]
    exact ⟨g, S, rs, flat hs', rfl, hSl, t5, by have := hb.size; have := bu.size; omega, t3, t1.perm.trans hp, t1.rise, t1.le, t2, hbw.trans (t6.mono bu.size)⟩
  have HOV := Lib.hid OV
  have HSK := Lib.hid SK
  have HTK := Lib.hid TK
  have HU := Lib.hid hu
  have HG := Lib.hid (And.intro g0 hsz)
  clear OV SK TK hu bu hsz g0 h hm
  obtain ⟨N, hN⟩ : ∃ N, L.length = N := ⟨_, rfl⟩
  rw [hN] at HOV hn ⊢
  clear hN
  go_enter Try.func19, Try.ntmps19
  go_upto_region 1 with fail
  rw [← HU.out]
  go_wp2_with fail
  refine HOV.out.mono ?_
  rintro e w1 ⟨hs, rfl, h1, h2, h3⟩
  have HS := Lib.hid (HSK.out hs w1 h1 h2 h3)
  have s0 : w1.cell? ⟨w.heap.size, 0, none⟩ = some (.int .u64 (st : Int)) := by rw [cell_of_row w1 _ 0 _ _ _ ((h3.block _ (by rw [HG.out.2]; omega)).trans HG.out.1)]; rfl
  have s1 : w1.cell? ⟨w.heap.size, 1, none⟩ = some (.int .i64 sw) := by rw [cell_of_row w1 _ 1 _ _ _ ((h3.block _ (by rw [HG.out.2]; omega)).trans HG.out.1)]; rfl
  obtain ⟨p, hp⟩ : ∃ p, p = u.heap.size := ⟨_, rfl⟩
  rw [← hp] at HS HTK ⊢
  clear h1 h2 h3 HSK HOV hp
  go_wp2_with fail
  refine HS.out.mono ?_
  rintro e w2 ⟨hs2, v, rfl, H2⟩
  have HT := Lib.hid (HTK.out hs2 w2 H2.out.1 H2.out.2.1 H2.out.2.2.1 H2.out.2.2.2)
  clear HS HTK s0 s1 H2
  go_wp2_with fail
  refine HT.out.mono ?_
  rintro e w3 ⟨g, S, rs, rest, rfl, hrest⟩
  have HR := Lib.hid hrest
  clear hrest HT
  go_wp2
  go_ret
  exact ⟨g, S, rs, rest, rfl, HR.out⟩

/-- The first of a list that rises are those ahead of the others. -/
theorem take_of_split {Q rs rest : List EvS} (hq : Rises Q) (hp : (rs ++ rest).Perm Q) (hr : Rises rs) (hle : ∀ r ∈ rs, ∀ e ∈ rest, evLe r e) (anti : ∀ a b, a ∈ Q → b ∈ Q → evLe a b → evLe b a → a = b) : rs = Q.take rs.length := by
  let le : EvS → EvS → Bool := fun a b => decide (a.e.time < b.e.time ∨ (a.e.time = b.e.time ∧ a.e.writer ≤ b.e.writer))
  have hms := List.pairwise_mergeSort (le := le) (fun a b c h1 h2 => by
    have h1 := of_decide_eq_true h1; have h2 := of_decide_eq_true h2
    exact decide_eq_true (evLe_trans a b c h1 h2)) (fun a b => by
    rcases evLe_total a b with h | h
    · simp [le]; unfold evLe at h; omega
    · simp [le]; unfold evLe at h; omega) rest
  have hmp : (rest.mergeSort le).Perm rest := List.mergeSort_perm rest le
  have hm : Rises (rest.mergeSort le) := hms.imp fun h => of_decide_eq_true h
  have hall : Rises (rs ++ rest.mergeSort le) := List.pairwise_append.2 ⟨hr, hm, fun a ha b hb => hle a ha b (hmp.mem_iff.1 hb)⟩
  have hpp : (rs ++ rest.mergeSort le).Perm Q := (hmp.append_left rs).trans hp
  have e : rs ++ rest.mergeSort le = Q := List.Perm.eq_of_pairwise (le := evLe) (fun a b ha hb h1 h2 => anti a b (hpp.mem_iff.1 ha) hb h1 h2) hall hq hpp
  rw [← e, List.take_left]
end Go.Proofs.Ytlacihgoammjgaa.Ord
