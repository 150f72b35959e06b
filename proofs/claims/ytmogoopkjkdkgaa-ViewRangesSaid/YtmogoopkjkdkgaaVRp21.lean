/- Order: upto, Seek. Order: Seek. Order: Range. -/
import Derived.Test.YtmogoopkjkdkgaaVRp15
import Derived.Test.YtmogoopkjkdkgaaVRp16
import Derived.Test.YtmogoopkjkdkgaaVRp18
namespace Go.Proofs.Ytmogoopkjkdkgaa.Ord
open Go Go.RowKit Go.Proofs.Ytmogoopkjkdkgaa.Words Go.Proofs.Ytmogoopkjkdkgaa.Enc Go.Proofs.Ytmogoopkjkdkgaa.Evt Go.Proofs.Ytmogoopkjkdkgaa.Seg
set_option linter.unusedVariables false
set_option linter.unusedSimpArgs false

/-- Does an event stand behind a place? -/
def aftB (st : Nat) (sw : Int) (e : EvS) : Bool := decide (cmpS st sw e.e.time e.e.writer < 0)
theorem aft_iff {st : Nat} {sw : Int} {e : EvS} : aftB st sw e = true ↔ st < e.e.time ∨ st = e.e.time ∧ sw < e.e.writer := by
  unfold aftB
  rw [decide_eq_true_eq, cmpS_lt]
theorem aft_gt (st : Nat) (sw : Int) (e : EvS) : decide (0 < cmpS e.e.time e.e.writer st sw) = aftB st sw e := by
  rw [Bool.eq_iff_iff, decide_eq_true_eq, cmpS_gt, aft_iff]
theorem aft_mono {st : Nat} {sw : Int} {a b : EvS} (h : evLe a b) (ha : aftB st sw a = true) : aftB st sw b = true := by
  rw [aft_iff] at *
  unfold evLe at h
  omega
theorem split_aft (st : Nat) (sw : Int) : ∀ S : List EvS, Rises S → S.drop (S.countP fun e => !aftB st sw e) = S.filter (aftB st sw)
  | [], _ => rfl
  | a :: t, h => by
    obtain ⟨h1, h2⟩ := List.pairwise_cons.1 h
    have ih := split_aft st sw t h2
    by_cases ha : aftB st sw a = true
    · have hall : ∀ b ∈ t, aftB st sw b = true := fun b hb => aft_mono (h1 b hb) ha
      have h0 : t.countP (fun e => !aftB st sw e) = 0 := List.countP_eq_zero.2 fun b hb => by simp [hall b hb]
      rw [List.countP_cons_of_neg (by simp [ha]), h0, List.filter_cons_of_pos ha, List.filter_eq_self.2 hall, List.drop_zero]
    · rw [List.countP_cons_of_pos (by simp [ha]), List.filter_cons_of_neg ha, List.drop_succ_cons]
      exact ih
theorem evs_map (S : List EvS) : (List.range S.length).map (evAt S) = S := by
  refine List.ext_getElem (by simp) fun i h1 h2 => ?_
  rw [List.getElem_map, List.getElem_range]
  have := evAt_get (S := S) (k := i) h2
  rw [List.getElem?_eq_getElem h2] at this
  exact (Option.some.inj this).symm
theorem misses_aft (st : Nat) (sw : Int) (S : List EvS) : misses (fun i => aftB st sw (evAt S i)) S.length = S.countP fun e => !aftB st sw e := by
  unfold misses
  conv => rhs; rw [← evs_map S]
  rw [List.countP_map]
  rfl
set_option maxRecDepth 100000 in
set_option maxHeartbeats 4000000 in
theorem after_any (bl bs b o n c i : Nat) (r : EvS) (st : Nat) (sw : Int) (W : World) (hi : i < n) (hn : n ≤ 1000000000) (h1 : W.cell? ⟨bl, 0, none⟩ = some (.slice (some ⟨b, o, none⟩) n c)) (h2 : W.cell? ⟨bs, 0, none⟩ = some (.int .u64 (st : Int))) (h3 : W.cell? ⟨bs, 1, none⟩ = some (.int .i64 sw))
    (f : W.cell? ⟨b, o + i * 8, none⟩ = some (.int .i64 r.e.writer) ∧ W.cell? ⟨b, o + i * 8 + 1, none⟩ = some (.int .u64 (r.e.seq : Int)) ∧ W.cell? ⟨b, o + i * 8 + 2, none⟩ = some (.int .u64 (r.e.time : Int)) ∧ W.cell? ⟨b, o + i * 8 + 3, none⟩ = some (.int .u8 (r.e.kind : Int)) ∧ W.cell? ⟨b, o + i * 8 + 4, none⟩ = some (.string r.e.key) ∧ W.cell? ⟨b, o + i * 8 + 5, none⟩ = some (.slice r.A r.n r.c) ∧ W.cell? ⟨b, o + i * 8 + 6, none⟩ = some (.float .f64 r.e.num) ∧ W.cell? ⟨b, o + i * 8 + 7, none⟩ = some (.int .i64 r.e.node)) :
    Calls Try.prog 76 #[.int .i64 (i : Int), .pointer (some ⟨bl, 0, none⟩), .pointer (some ⟨bs, 0, none⟩)] W fun e w' => e = .returned (.bool (aftB st sw r)) ∧ Below W.heap.size W w' := by
  have HF := Lib.hid (And.intro h1 (And.intro h2 (And.intro h3 f)))
  obtain ⟨z, hz⟩ : ∃ z, z = cmpS r.e.time r.e.writer st sw := ⟨_, rfl⟩
  have hag := aft_gt st sw r
  rw [← hz] at hag
  have HAG := Lib.hid hag
  have keep : ∀ w', Below W.heap.size W w' → w'.cell? ⟨bl, 0, none⟩ = some (.slice (some ⟨b, o, none⟩) n c) ∧ w'.cell? ⟨bs, 0, none⟩ = some (.int .u64 (st : Int)) ∧ w'.cell? ⟨bs, 1, none⟩ = some (.int .i64 sw) ∧ w'.cell? ⟨b, o + i * 8, none⟩ = some (.int .i64 r.e.writer) ∧ w'.cell? ⟨b, o + i * 8 + 1, none⟩ = some (.int .u64 (r.e.seq : Int)) ∧ w'.cell? ⟨b, o + i * 8 + 2, none⟩ = some (.int .u64 (r.e.time : Int)) ∧ w'.cell? ⟨b, o + i * 8 + 3, none⟩ = some (.int .u8 (r.e.kind : Int)) ∧ w'.cell? ⟨b, o + i * 8 + 4, none⟩ = some (.string r.e.key) ∧ w'.cell? ⟨b, o + i * 8 + 5, none⟩ = some (.slice r.A r.n r.c) ∧ w'.cell? ⟨b, o + i * 8 + 6, none⟩ = some (.float .f64 r.e.num) ∧ w'.cell? ⟨b, o + i * 8 + 7, none⟩ = some (.int .i64 r.e.node) := fun w' hb2 => by
    have old : ∀ {q : Addr} {v : Value}, W.cell? q = some v → w'.cell? q = some v := fun {q v} hq => by rw [hb2.cell (World.block_lt_of_cell? _ _ hq)]; exact hq
    obtain ⟨m1, m2, m3, e0, e1, e2, e3, e4, e5, e6, e7⟩ := HF.out
    exact ⟨old m1, old m2, old m3, old e0, old e1, old e2, old e3, old e4, old e5, old e6, old e7⟩
  have HAT : ∀ (w0 : World), Below W.heap.size W w0 → Calls Try.prog 30 #[.agg #[.int .i64 r.e.writer, .int .u64 (r.e.seq : Int), .int .u64 (r.e.time : Int), .int .u8 (r.e.kind : Int), .string r.e.key, .slice r.A r.n r.c, .float .f64 r.e.num, .int .i64 r.e.node]] w0 fun e w' => e = .returned (.agg #[.int .u64 (r.e.time : Int), .int .i64 r.e.writer]) ∧ Hid (Below W.heap.size W w') ∧ w'.cell? ⟨bl, 0, none⟩ = some (.slice (some ⟨b, o, none⟩) n c) ∧ w'.cell? ⟨bs, 0, none⟩ = some (.int .u64 (st : Int)) ∧ w'.cell? ⟨bs, 1, none⟩ = some (.int .i64 sw) ∧ w'.cell? ⟨b, o + i * 8, none⟩ = some (.int .i64 r.e.writer) ∧ w'.cell? ⟨b, o + i * 8 + 1, none⟩ = some (.int .u64 (r.e.seq : Int)) ∧ w'.cell? ⟨b, o + i * 8 + 2, none⟩ = some (.int .u64 (r.e.time : Int)) ∧ w'.cell? ⟨b, o + i * 8 + 3, none⟩ = some (.int .u8 (r.e.kind : Int)) ∧ w'.cell? ⟨b, o + i * 8 + 4, none⟩ = some (.string r.e.key) ∧ w'.cell? ⟨b, o + i * 8 + 5, none⟩ = some (.slice r.A r.n r.c) ∧ w'.cell? ⟨b, o + i * 8 + 6, none⟩ = some (.float .f64 r.e.num) ∧ w'.cell? ⟨b, o + i * 8 + 7, none⟩ = some (.int .i64 r.e.node) := fun w0 hW => by
    refine (at_any r.e r.A r.n r.c w0).mono ?_
    rintro e w' ⟨rfl, hb⟩
    have hb2 := hW.trans (hb.mono hW.size)
    exact ⟨rfl, Lib.hid hb2, keep _ hb2⟩
  have HCM : ∀ (w0 : World), Below W.heap.size W w0 → Calls Try.prog 20 #[.agg #[.int .u64 (r.e.time : Int), .int .i64 r.e.writer], .agg #[.int .u64 (st : Int), .int .i64 sw]] w0 fun e w' => e = .returned (.int .i64 z) ∧ Hid (Below W.heap.size W w') ∧ w'.cell? ⟨bl, 0, none⟩ = some (.slice (some ⟨b, o, none⟩) n c) ∧ w'.cell? ⟨bs, 0, none⟩ = some (.int .u64 (st : Int)) ∧ w'.cell? ⟨bs, 1, none⟩ = some (.int .i64 sw) ∧ w'.cell? ⟨b, o + i * 8, none⟩ = some (.int .i64 r.e.writer) ∧ w'.cell? ⟨b, o + i * 8 + 1, none⟩ = some (.int .u64 (r.e.seq : Int)) ∧ w'.cell? ⟨b, o + i * 8 + 2, none⟩ = some (.int .u64 (r.e.time : Int)) ∧ w'.cell? ⟨b, o + i * 8 + 3, none⟩ = some (.int .u8 (r.e.kind : Int)) ∧ w'.cell? ⟨b, o + i * 8 + 4, none⟩ = some (.string r.e.key) ∧ w'.cell? ⟨b, o + i * 8 + 5, none⟩ = some (.slice r.A r.n r.c) ∧ w'.cell? ⟨b, o + i * 8 + 6, none⟩ = some (.float .f64 r.e.num) ∧ w'.cell? ⟨b, o + i * 8 + 7, none⟩ = some (.int .i64 r.e.node) := fun w0 hW => by
    rw [hz]
    refine (compare_any r.e.time r.e.writer st sw w0).mono ?_
    rintro e w' ⟨rfl, hb⟩
    have hb2 := hW.trans (hb.mono hW.size)
    exact ⟨rfl, Lib.hid hb2, keep _ hb2⟩
  rw [← hag]
  clear hag hz keep
  obtain ⟨e0, e1, e2, e3, e4, e5, e6, e7⟩ := f
  have zi : (i : Int) < (n : Int) := by omega
  have zi0 : (0 : Int) ≤ (i : Int) := by omega
  go_enter Try.func76, Try.ntmps76
  go_wp2_with fail
  go_region_held3 (fun w' => w'.cell? ⟨bl, 0, none⟩ = some (.slice (some ⟨b, o, none⟩) n c) ∧ w'.cell? ⟨bs, 0, none⟩ = some (.int .u64 (st : Int)) ∧ w'.cell? ⟨bs, 1, none⟩ = some (.int .i64 sw) ∧ w'.cell? ⟨b, o + i * 8, none⟩ = some (.int .i64 r.e.writer) ∧ w'.cell? ⟨b, o + i * 8 + 1, none⟩ = some (.int .u64 (r.e.seq : Int)) ∧ w'.cell? ⟨b, o + i * 8 + 2, none⟩ = some (.int .u64 (r.e.time : Int)) ∧ w'.cell? ⟨b, o + i * 8 + 3, none⟩ = some (.int .u8 (r.e.kind : Int)) ∧ w'.cell? ⟨b, o + i * 8 + 4, none⟩ = some (.string r.e.key) ∧ w'.cell? ⟨b, o + i * 8 + 5, none⟩ = some (.slice r.A r.n r.c) ∧ w'.cell? ⟨b, o + i * 8 + 6, none⟩ = some (.float .f64 r.e.num) ∧ w'.cell? ⟨b, o + i * 8 + 7, none⟩ = some (.int .i64 r.e.node)) (go_keep)
    (first
      | (go_at_call 30
         refine (HAT _ ?h1).mono ?_
         case h1 => first | exact Below.refl _ _ | exact (Below.refl _ _).drew | exact Hid.out (by assumption)
         rintro e w' ⟨rfl, hb, q0, q1, q2, q3, q4, q5, q6, q7, q8, q9, q10⟩)
      | (go_at_call 20
         refine (HCM _ ?h1).mono ?_
         case h1 => first | exact Below.refl _ _ | exact (Below.refl _ _).drew | exact Hid.out (by assumption)
         rintro e w' ⟨rfl, hb, q0, q1, q2, q3, q4, q5, q6, q7, q8, q9, q10⟩))
  all_goals go_wp2
  all_goals go_ret
  all_goals exact ⟨rfl, Hid.out (by assumption)⟩

set_option maxRecDepth 100000 in
set_option maxHeartbeats 4000000 in
theorem upto_any (A : Option Addr) (c : Nat) (S : List EvS) (st : Nat) (sw : Int) (w : World) (h : RawEv w A S) (hr : Rises S) (hn : S.length ≤ 1000000000) :
    Calls Try.prog 58 #[.slice A S.length c, .agg #[.int .u64 (st : Int), .int .i64 sw]] w fun e w' => e = .returned (.int .i64 ((S.countP fun e => !aftB st sw e : Nat) : Int)) ∧ Below w.heap.size w w' := by
  obtain ⟨u0, hu0⟩ : ∃ u, u = w.alloc (.cells #[.slice A S.length c] 27) := ⟨_, rfl⟩
  obtain ⟨u, hu⟩ : ∃ u, u = u0.alloc (.cells #[.int .u64 (st : Int), .int .i64 sw] 25) := ⟨_, rfl⟩
  have b0 : Below w.heap.size w u0 := by rw [hu0]; exact (Below.refl _ _).alloc (Nat.le_refl _) _
  have hsz : u0.heap.size = w.heap.size + 1 := by rw [hu0]; simp
  have b1 : Below u0.heap.size u0 u := by rw [hu]; exact (Below.refl _ _).alloc (Nat.le_refl _) _
  have g0 : u.heap[w.heap.size]? = some (.cells #[.slice A S.length c] 27 (0, 0)) := (b1.block _ (by omega)).trans (by rw [hu0]; exact heap_alloc_new w _)
  have g1 : u.heap[w.heap.size + 1]? = some (.cells #[.int .u64 (st : Int), .int .i64 sw] 25 (0, 0)) := by rw [hu, ← hsz]; exact heap_alloc_new u0 _
  have bu : Below w.heap.size w u := b0.trans (b1.mono b0.size)
  have eg : ∀ args w, (callFunc 76 args).run Try.prog w = .ok (.enter 76 args) w := fun _ _ => by kernel_rfl
  have SE : Calls Try.prog 75 #[.int .i64 (S.length : Int), .func (.func 76) #[] #[.pointer (some ⟨w.heap.size, 0, none⟩), .pointer (some ⟨w.heap.size + 1, 0, none⟩)]] u fun e w' => e = .returned (.int .i64 ((S.countP fun e => !aftB st sw e : Nat) : Int)) ∧ Hid (Below w.heap.size w w') := by
    refine (search_any _ _ S.length (fun i => aftB st sw (evAt S i)) u eg hn (fun W i hW hi => ?_) (fun a b hab hb ha => aft_mono (by
      have := List.pairwise_iff_getElem.1 hr
      have ea : ∀ k (hk : k < S.length), evAt S k = S[k] := fun k hk => by have := evAt_get hk; rw [List.getElem?_eq_getElem hk] at this; exact (Option.some.inj this).symm
      rw [ea a (by omega), ea b hb]
      rcases Nat.lt_or_eq_of_le hab with h1 | rfl
      · exact this a b (by omega) hb h1
      · exact evLe_refl _) ha)).mono ?_
    · obtain ⟨b, o, hA, hc⟩ := h (by omega)
      have c1 : W.cell? ⟨w.heap.size, 0, none⟩ = some (.slice (some ⟨b, o, none⟩) S.length c) := by
        rw [cell_of_row W _ 0 _ _ _ ((hW.block _ (Array.getElem?_eq_some_iff.1 g0).1).trans g0), ← hA]; rfl
      have hg1 := (hW.block _ (Array.getElem?_eq_some_iff.1 g1).1).trans g1
      have c2 : W.cell? ⟨w.heap.size + 1, 0, none⟩ = some (.int .u64 (st : Int)) := by rw [cell_of_row W _ 0 _ _ _ hg1]; rfl
      have c3 : W.cell? ⟨w.heap.size + 1, 1, none⟩ = some (.int .i64 sw) := by rw [cell_of_row W _ 1 _ _ _ hg1]; rfl
      have hcW : ∀ j v, (rowsL S)[j]? = some v → W.cell? ⟨b, o + j, none⟩ = some v := fun j v hv => by
        rw [((bu.trans (hW.mono bu.size)).cell (World.block_lt_of_cell? _ _ (hc j v hv)))]; exact hc j v hv
      exact after_any w.heap.size (w.heap.size + 1) b o S.length c i (evAt S i) st sw W hi hn c1 c2 c3 (RawEv.cells_at hcW hi)
    · rintro e w' ⟨rfl, hb⟩
      rw [misses_aft]
      exact ⟨rfl, Lib.hid (bu.trans (hb.mono bu.size))⟩
  have HSE := Lib.hid SE
  have HU0 := Lib.hid hu0
  have HU := Lib.hid hu
  have hmf : ∀ (fn : Fn) (first cap : Array Value) (w : World), (Instr.makeFunc fn first cap).run Try.prog w = .ok (.func fn first cap) w := fun _ _ _ _ => rfl
  clear SE hu0 hu b0 b1 g0 g1 bu eg hsz h hr
  generalize S.length = n at *
  generalize (S.countP fun e => !aftB st sw e) = q at *
  go_enter Try.func58, Try.ntmps58
  go_wp2_with fail
  rw [← HU0.out, ← HU.out]
  refine HSE.out.mono ?_
  rintro e w3 ⟨rfl, HB⟩
  go_wp2
  go_ret
  exact ⟨rfl, HB.out⟩
end Go.Proofs.Ytmogoopkjkdkgaa.Ord
namespace Go.Proofs.Ytmogoopkjkdkgaa.Ord
open Go Go.RowKit Go.Proofs.Ytmogoopkjkdkgaa.Words Go.Proofs.Ytmogoopkjkdkgaa.Enc Go.Proofs.Ytmogoopkjkdkgaa.Evt Go.Proofs.Ytmogoopkjkdkgaa.Seg
set_option linter.unusedVariables false
set_option linter.unusedSimpArgs false

/-- What the lists of hs are behind a place. -/
structure Past (B : Nat) (w : World) (st : Nat) (sw : Int) (hs0 : List HV) (k : Nat) (hs : List HV) : Prop where
  flat_ : (flat hs).Perm ((flat (hs0.take k)).filter (aftB st sw))
  each : ∀ x ∈ hs, Lies B w x ∧ Rises x.S
  few : hs.length ≤ k
theorem flat_snoc (hs : List HV) (x : HV) : flat (hs ++ [x].filter hasEv) = flat hs ++ x.S := by
  have : flat ([x].filter hasEv) = x.S := by
    rw [flat_filter]
    simp [flat]
  unfold flat at *
  rw [List.flatMap_append, this]
theorem Past.add {B : Nat} {w : World} {st : Nat} {sw : Int} {hs0 : List HV} {k : Nat} {hs hs' : List HV} (h : Past B w st sw hs0 k hs) (hk : k < hs0.length) (x : HV) (hx : x.S = (HV.at_ hs0 k).S.filter (aftB st sw)) (hl : Lies B w x) (hr : Rises x.S) (hp : hs'.Perm (hs ++ [x].filter hasEv)) : Past B w st sw hs0 (k + 1) hs' := by
  refine ⟨?_, fun y hy => ?_, ?_⟩
  · have h1 := flat_perm hp
    rw [flat_snoc] at h1
    refine h1.trans ?_
    have h2 : flat (hs0.take (k + 1)) = flat (hs0.take k) ++ (HV.at_ hs0 k).S := by
      have : HV.at_ hs0 k = hs0[k] := by simp [HV.at_, List.getD_eq_getElem?_getD, List.getElem?_eq_getElem hk]
      rw [this]
      unfold flat
      rw [← List.take_append_getElem hk, List.flatMap_append]
      simp
    rw [h2, List.filter_append, hx]
    exact h.flat_.append_right _
  · rcases List.mem_append.1 (hp.mem_iff.1 hy) with h1 | h1
    · exact h.each y h1
    · obtain rfl := List.mem_singleton.1 (List.mem_filter.1 h1).1
      exact ⟨hl, hr⟩
  · have h1 := hp.length_eq
    have h2 : ([x].filter hasEv).length ≤ 1 := List.length_filter_le _ _
    rw [List.length_append] at h1
    have := h.few
    omega
theorem flat_upto (hs0 : List HV) {k : Nat} (hk : k < hs0.length) : flat (hs0.take (k + 1)) = flat (hs0.take k) ++ (HV.at_ hs0 k).S := by
  have : HV.at_ hs0 k = hs0[k] := by simp [HV.at_, List.getD_eq_getElem?_getD, List.getElem?_eq_getElem hk]
  rw [this]
  unfold flat
  rw [← List.take_append_getElem hk, List.flatMap_append]
  simp
theorem flat_take_le2 (L : List HV) (i : Nat) : (flat (L.take i)).length ≤ (flat L).length := by
  unfold flat
  conv => rhs; rw [← List.take_append_drop i L]
  rw [List.flatMap_append, List.length_append]
  omega

theorem lies_drop {B : Nat} {w : World} {x : HV} (h : Lies B w x) {q : Nat} (hq : q ≤ x.S.length) (A5 : Option Addr) (hA : ∀ b o, q < x.S.length → x.S.length ≤ x.c → x.A = some ⟨b, o, none⟩ → A5 = some ⟨b, o + q * 8, none⟩) : Lies B w ⟨A5, x.c - q, x.S.drop q⟩ := by
  refine ⟨⟨by show (x.S.drop q).length ≤ x.c - q; rw [List.length_drop]; have := h.1.1; omega, by show x.c - q ≤ _; have := h.1.2; omega⟩, fun h0 => ?_⟩
  have h0' : q < x.S.length := by have h1 : 0 < (x.S.drop q).length := h0; rw [List.length_drop] at h1; omega
  obtain ⟨b, o, h1, h2, h3⟩ := h.2 (by omega)
  obtain ⟨b', o', h4, h5⟩ := RawEv.drop (w := w) (b := b) (o := o) (S := x.S) (fun _ => ⟨b, o, rfl, h3⟩) q h0' h0
  cases h4
  exact ⟨b, o + q * 8, h1, hA b o h0' h.1.1 h2, h5⟩
theorem Lies.wide {B B' : Nat} {w : World} {x : HV} (h : Lies B w x) (hB : B ≤ B') : Lies B' w x := ⟨h.1, fun h0 => by
  obtain ⟨b, o, h1, h2⟩ := h.2 h0
  exact ⟨b, o, by omega, h2⟩⟩
set_option maxRecDepth 100000 in
set_option maxHeartbeats 4000000 in
theorem seek_any {B p : Nat} {T : TypeId} {A : Option Addr} {c : Nat} {hs : List HV} {w : World} (h : HeadsAt B p T A c hs w) (hr : ∀ x ∈ hs, Rises x.S) (hn : hs.length ≤ 1000) (hf : (flat hs).length ≤ 1000) (st : Nat) (sw : Int) :
    Calls Try.prog 38 #[.pointer (some ⟨p, 0, none⟩), .agg #[.int .u64 (st : Int), .int .i64 sw]] w fun e w' => ∃ hs', e = .returned (.int .i64 (((flat hs).countP fun e => !aftB st sw e : Nat) : Int)) ∧ HeapAt B p T hs' w' ∧ (flat hs').Perm ((flat hs).filter (aftB st sw)) ∧ (∀ x ∈ hs', Rises x.S) ∧ hs'.length ≤ hs.length ∧ Below B w w' ∧ Beside [p] w w' := by
  obtain ⟨u0, hu0⟩ : ∃ u, u = w.alloc (.cells #[.int .u64 (st : Int), .int .i64 sw] 25) := ⟨_, rfl⟩
  obtain ⟨u, hu⟩ : ∃ u, u = u0.alloc (.cells #[.slice none 0 0] 84) := ⟨_, rfl⟩
  have b0 : Below w.heap.size w u0 := by rw [hu0]; exact (Below.refl _ _).alloc (Nat.le_refl _) _
  have hsz : u0.heap.size = w.heap.size + 1 := by rw [hu0]; simp
  have b1 : Below u0.heap.size u0 u := by rw [hu]; exact (Below.refl _ _).alloc (Nat.le_refl _) _
  have g0 : u.heap[w.heap.size]? = some (.cells #[.int .u64 (st : Int), .int .i64 sw] 25 (0, 0)) := (b1.block _ (by omega)).trans (by rw [hu0]; exact heap_alloc_new w _)
  have bu : Below w.heap.size w u := b0.trans (b1.mono b0.size)
  obtain ⟨rb, hrb⟩ : ∃ rb, rb = w.heap.size + 1 := ⟨_, rfl⟩
  have g1 : u.heap[rb]? = some (.cells #[.slice none 0 0] 84 (0, 0)) := by rw [hu, hrb, ← hsz]; exact heap_alloc_new u0 _
  have hus : u.heap.size = rb + 1 := by rw [hu, World.size_alloc, hsz, hrb]
  have H0 : HeapAt rb rb 84 [] u := ⟨⟨none, 0, g1, World.ownsRow_nil _ _ _ 1, fun a ha => (by cases ha), Nat.le_refl _, fun x hx => (by cases hx)⟩, fun k h1 h2 => by simp at h2, fun x hx => by cases hx⟩
  have hps := (Array.getElem?_eq_some_iff.1 h.box).1
  obtain ⟨N, hN⟩ : ∃ N, N = hs.length := ⟨_, rfl⟩
  have HH := Lib.hid (And.intro h (And.intro hr hN))
  have HB := Lib.hid (And.intro bu (And.intro g0 (And.intro hus hps)))
  have HRB := Lib.hid hrb
  have hc0 := (bu.cell (p := ⟨p, 0, none⟩) hps).trans h.cell
  have HF := Lib.hid hf
  have HN := Lib.hid hN
  rw [← hN] at hn hc0 ⊢
  have HU0 := Lib.hid hu0
  have HU := Lib.hid hu
  have HH0 := Lib.hid H0
  have hp0 : p < rb := by omega
  have HLOW := Lib.hid h.low
  clear hu0 hu hsz b0 b1 g0 bu g1 hus H0 hps hN h hr hrb hf
  obtain ⟨F, hF⟩ : ∃ F, F = (flat hs).countP fun e => !aftB st sw e := ⟨_, rfl⟩
  rw [← hF]
  have HFF := Lib.hid hF
  clear hF
  go_enter Try.func38, Try.ntmps38
  go_upto_region 5 with fail
  rw [← HU0.out, ← HU.out]
  try rw [← HRB.out]
  go_wp2_with fail
  go_loopw [5, 8, 9, 17, 18, 19, 20, 21, 22, 23, 24, 25, 26, 27, 28, 29, 30, 31] (fun a5 a8 a9 a17 a18 a19 a20 a21 a22 a23 a24 a25 a26 a27 a28 a29 a30 a31 wr => ∃ k P : Nat, a17 = .int .i64 (k : Int) ∧ a5 = .int .i64 (P : Int) ∧ k ≤ N ∧ Hid (P = (flat (hs.take k)).countP fun e => !aftB st sw e) ∧ Hid (∃ hs1, HeapAt rb rb 84 hs1 wr ∧ Past B w st sw hs k hs1 ∧ Below rb u wr)) (fun a5 a8 a9 a17 a18 a19 a20 a21 a22 a23 a24 a25 a26 a27 a28 a29 a30 a31 _ => N - (intOf a17).toNat)
  case atStart => exact ⟨0, 0, rfl, rfl, Nat.zero_le _, Lib.hid (by simp [flat]), Lib.hid ⟨[], HH0.out, ⟨by simp [flat], fun x hx => (by cases hx), Nat.zero_le _⟩, Below.refl _ _⟩⟩
  case round =>
    obtain ⟨k, P, rfl, rfl, hk, HP, HR⟩ := hrel
    by_cases hlt : k < N
    · obtain ⟨hs1, hA1, hPa, hb1⟩ := HR.out
      have hkh : k < hs.length := by rw [← HN.out]; exact hlt
      obtain ⟨g, rfl, hg, hgp, hcells⟩ := HH.out.1.get (by omega)
      have hck := hcells k hkh
      have hgw : g < w.heap.size := World.block_lt_of_cell? _ _ hck
      have hbw : Below w.heap.size w wr := HB.out.1.trans (hb1.mono (by rw [HRB.out]; omega))
      have hcx := (hbw.cell (p := ⟨g, k, none⟩) hgw).trans hck
      have hxm := at_mem hkh
      have hlie := HH.out.1.lie _ hxm
      have hris := HH.out.2.1 _ hxm
      have hBw : B ≤ w.heap.size := by have := HLOW.out; have := HB.out.2.2.2; omega
      have hlr := hlie.below (hbw.mono hBw)
      have hPk := HP.out
      have hcnt : (flat (hs.take (k + 1))).countP (fun e => !aftB st sw e) = P + (HV.at_ hs k).S.countP (fun e => !aftB st sw e) := by
        rw [flat_upto hs hkh, List.countP_append, ← hPk]
      have hPle : P + (HV.at_ hs k).S.countP (fun e => !aftB st sw e) ≤ 1000 := by
        rw [← hcnt]
        exact Nat.le_trans List.countP_le_length (Nat.le_trans (flat_take_le2 hs (k + 1)) HF.out)
      have hSle : (HV.at_ hs k).S.length ≤ 1000 := by
        have h1 := flat_take_le2 hs (k + 1)
        rw [flat_upto hs hkh, List.length_append] at h1
        have := HF.out
        omega
      have hdrop := split_aft st sw (HV.at_ hs k).S hris
      have hq : (HV.at_ hs k).S.countP (fun e => !aftB st sw e) ≤ (HV.at_ hs k).S.length := List.countP_le_length
      have UP := upto_any (HV.at_ hs k).A (HV.at_ hs k).c (HV.at_ hs k).S st sw wr (fun h0 => by
        obtain ⟨b, o, h1, h2, h3⟩ := hlr.2 h0
        exact ⟨b, o, h2, h3⟩) hris (by omega)
      obtain ⟨s0, s1⟩ : wr.cell? ⟨w.heap.size, 0, none⟩ = some (.int .u64 (st : Int)) ∧ wr.cell? ⟨w.heap.size, 1, none⟩ = some (.int .i64 sw) := by
        have := (hb1.block w.heap.size (by rw [HRB.out]; omega)).trans HB.out.2.1
        exact ⟨by rw [cell_of_row wr _ 0 _ _ _ this]; rfl, by rw [cell_of_row wr _ 1 _ _ _ this]; rfl⟩
      have HST := Lib.hid (And.intro hA1 (And.intro hPa (And.intro hb1 (And.intro hlie hris))))
      have HD := Lib.hid hdrop
      have HCN := Lib.hid hcnt
      unfold HV.val at hcx
      have HX := Lib.hid (show HV.at_ hs k = HV.at_ hs k from rfl)
      have hcap : (HV.at_ hs k).S.length ≤ (HV.at_ hs k).c ∧ (HV.at_ hs k).c ≤ 9223372036854775807 := hlie.1
      obtain ⟨x, hx⟩ : ∃ x, x = HV.at_ hs k := ⟨_, rfl⟩
      rw [← hx] at hcx UP HST HD HCN hq hPle hSle hcap
      obtain ⟨q, hqe⟩ : ∃ q, q = x.S.countP (fun e => !aftB st sw e) := ⟨_, rfl⟩
      rw [← hqe] at UP HD HCN hq hPle
      obtain ⟨m, hme⟩ : ∃ m, m = x.S.length := ⟨_, rfl⟩
      rw [← hme] at hcx UP hq hSle hcap
      have HXE := Lib.hid (And.intro hx (And.intro hqe hme))
      have HUP := Lib.hid UP
      have zk : (k : Int) < (N : Int) := by omega
      have zk0 : (0 : Int) ≤ (k : Int) := by omega
      clear hx hqe hme hA1 hPa hb1 hcells hck hbw hxm hlie hris hlr hPk hcnt hdrop UP hkh HX
      go_wp2_with fail
      refine HUP.out.mono ?_
      rintro e w3 ⟨rfl, hb3⟩
      have HB3 := Lib.hid hb3
      clear hb3 HUP s0 s1
      go_wp2_with (first | (refine wpList_sliceL rfl 27 (.tmp 27) (.tmp 28) rfl x.A m x.c q 8 rfl rfl hq elemEv sizeEv ?_))
      intro A5 hA5
      rw [show (P : Int) + (q : Int) = ((P + q : Nat) : Int) by omega]
      obtain ⟨PQ, hPQ⟩ : ∃ PQ, PQ = P + q := ⟨_, rfl⟩
      rw [← hPQ]
      have HPQ := Lib.hid hPQ
      obtain ⟨hA1, hPa, hb1, hlie, hris⟩ := HST.out
      obtain ⟨hxe, hqe, hme⟩ := HXE.out
      have hld := lies_drop hlie (by rw [← hme]; exact hq) A5 (by rw [← hme]; exact fun b o h1 _ h2 => hA5 b o h1 h2)
      have hrs : rb < wr.heap.size := by obtain ⟨⟨A8, c8, h8⟩, _⟩ := hA1; exact (Array.getElem?_eq_some_iff.1 h8.box).1
      have hbw3 : Below rb u w3 := hb1.trans (HB3.out.mono (by omega))
      have hwB : Below w.heap.size w w3 := HB.out.1.trans (hbw3.mono (by rw [HRB.out]; omega))
      have hBw : B ≤ w.heap.size := by have := HLOW.out; have := HB.out.2.2.2; omega
      have hA3 : HeapAt rb rb 84 hs1 w3 := by obtain ⟨⟨A8, c8, h8⟩, h9⟩ := hA1; exact ⟨⟨A8, c8, h8.below HB3.out⟩, h9⟩
      have AD := add_any hA3 (Nat.le_of_lt (Nat.lt_of_lt_of_le hrs HB3.out.size)) ⟨A5, x.c - q, x.S.drop q⟩ ((hld.below (hwB.mono hBw)).wide (by rw [HRB.out]; omega)) (by have := hPa.few; omega)
      have hval : HV.val ⟨A5, x.c - q, x.S.drop q⟩ = .slice A5 (m - q) (x.c - q) := by unfold HV.val; rw [List.length_drop, hme]
      rw [hval] at AD
      have HAD := Lib.hid AD
      have NEXT : Hid (∀ W, (∃ hs', HeapAt rb rb 84 hs' W ∧ hs'.Perm (hs1 ++ [(⟨A5, x.c - q, x.S.drop q⟩ : HV)].filter hasEv)) → Below rb w3 W → Hid (PQ = (flat (hs.take (k + 1))).countP fun e => !aftB st sw e) ∧ Hid (∃ hs1, HeapAt rb rb 84 hs1 W ∧ Past B w st sw hs (k + 1) hs1 ∧ Below rb u W)) := Lib.hid fun W hW hbW => by
        obtain ⟨hs', h1, h2⟩ := hW
        refine ⟨Lib.hid (by rw [hPQ, HCN.out]), Lib.hid ⟨hs', h1, hPa.add (by rw [← HN.out]; exact hlt) _ (by rw [← hxe]; exact HD.out) hld (hris.sublist (List.drop_sublist _ _)) h2, hbw3.trans hbW⟩⟩
      clear hA1 hPa hb1 hlie hris hxe hqe hme hld hrs hbw3 hwB hBw hA3 AD hval hA5 HST HXE HD HCN HB3 HR HP hPQ hq hPle hSle hcap
      go_wp2_with fail
      refine HAD.out.mono ?_
      rintro e w4 ⟨rfl, h4, hb4⟩
      obtain ⟨N1, N2⟩ := NEXT.out w4 h4 hb4
      clear h4 hb4 HAD NEXT
      go_wp2
      go_roundw
      case rel => exact ⟨k + 1, PQ, by simp, rfl, by omega, N1, N2⟩
      case measure => simp [intOf]; omega
    · obtain rfl : k = N := by omega
      obtain ⟨hs1, ⟨⟨A2, c2, hat⟩, hheap⟩, hPa, hb1⟩ := HR.out
      have htk : hs.take k = hs := List.take_of_length_le (by rw [← HN.out]; exact Nat.le_refl _)
      have hPF : P = F := by rw [HP.out, HFF.out, htk]
      have hrbw : rb < wr.heap.size := (Array.getElem?_eq_some_iff.1 hat.box).1
      have hcr := hat.cell
      have hbw : Below w.heap.size w wr := HB.out.1.trans (hb1.mono (by rw [HRB.out]; omega))
      have hbox := (hbw.block p HB.out.2.2.2).trans HH.out.1.box
      have hfp : wr.frozen? ⟨p, 0, none⟩ = false := frozen_row0 hbox
      have hcp : wr.cell? ⟨p, 0, none⟩ = some (.slice A k c) := by rw [cell_of_row wr p _ _ _ _ hbox, ← HN.out]; rfl
      have hBw : B ≤ w.heap.size := by have := HLOW.out; have := HB.out.2.2.2; omega
      have hbf : Below B w (wr.setCell ⟨p, 0, none⟩ (.slice A2 hs1.length c2)) := (hbw.mono hBw).setCell (p := ⟨p, 0, none⟩) HLOW.out _
      have hbsd : Beside [p] w (wr.setCell ⟨p, 0, none⟩ (.slice A2 hs1.length c2)) := (Beside.of_below hbw [p]).setCell (p := ⟨p, 0, none⟩) (by simp) _
      have hFIN : HeapAt B p T hs1 (wr.setCell ⟨p, 0, none⟩ (.slice A2 hs1.length c2)) := by
        refine ⟨⟨A2, c2, ⟨?_, ⟨hat.own.1, ?_⟩, fun a ha => ?_, HLOW.out, fun x hx => ((hPa.each x hx).1).below hbf⟩⟩, hheap⟩
        · rw [heapSame hbox]; rfl
        · rcases hat.own.2 with hn | ⟨g, cap, cur, hv, hg, hh, r⟩
          · exact .inl hn
          · exact .inr ⟨g, cap, cur, hv, by have := HRB.out; omega, (heapOther (by omega)).trans hh, r⟩
        · rcases hat.own.2 with ⟨hv, _⟩ | ⟨g, cap, cur, hv, hg, _⟩
          · rw [ha] at hv; cases hv
          · rw [ha] at hv
            injection hv with h1
            injection h1 with h1
            subst h1
            show g ≠ p
            omega
      have hpm := hPa.flat_
      rw [htk] at hpm
      have HFI := Lib.hid (And.intro hFIN (And.intro hpm (And.intro (fun x hx => (hPa.each x hx).2 : ∀ x ∈ hs1, Rises x.S) (And.intro hPa.few (And.intro hbf hbsd)))))
      have hne : ¬ p = rb := by omega
      have hne2 : ¬ rb = p := by omega
      subst hPF
      clear hat hPa hb1 htk hbox hFIN hpm hbf hbsd HR HP HH
      go_wp2
      go_ret
      exact ⟨hs1, rfl, HFI.out.1, HFI.out.2.1, HFI.out.2.2.1, HFI.out.2.2.2.1, HFI.out.2.2.2.2⟩
end Go.Proofs.Ytmogoopkjkdkgaa.Ord
namespace Go.Proofs.Ytmogoopkjkdkgaa.Ord
open Go Go.RowKit Go.Proofs.Ytmogoopkjkdkgaa.Words Go.Proofs.Ytmogoopkjkdkgaa.Enc Go.Proofs.Ytmogoopkjkdkgaa.Evt Go.Proofs.Ytmogoopkjkdkgaa.Seg
set_option linter.unusedVariables false
set_option linter.unusedSimpArgs false

theorem Lists.wide {B B' : Nat} {w : World} {Al : Option Addr} {L : List HV} (h : Lists B w Al L) (hB : B ≤ B') : Lists B' w Al L :=
  ⟨fun hn => by
    obtain ⟨b, o, h1, h2⟩ := h.row hn
    exact ⟨b, o, by omega, h2⟩, fun x hx => (h.lie x hx).wide hB⟩
theorem TextLow.wide {B B' : Nat} {w : World} {r : EvS} (h : TextLow B w r) (hB : B ≤ B') : TextLow B' w r := ⟨h.sees, h.few, fun h0 a ha => by have := h.low h0 a ha; omega⟩
/-- What Range makes: copies of the first m events behind the place. -/
def RangeGives (B : Nat) (L : List HV) (st : Nat) (sw : Int) (m : Nat) (w : World) (e : Ending) (w' : World) : Prop :=
  ∃ g S rs rest, e = .returned (.slice (some ⟨g, 0, none⟩) m m) ∧ S.length = m ∧ RowAt g m S w' ∧ B ≤ g ∧ S.map EvS.e = rs.map EvS.e ∧ (rs ++ rest).Perm ((flat L).filter (aftB st sw)) ∧ Rises rs ∧ (∀ r ∈ rs, ∀ e ∈ rest, evLe r e) ∧ rs.length = m ∧ Below B w w'

set_option maxRecDepth 100000 in
set_option maxHeartbeats 4000000 in
theorem range_any (Al : Option Addr) (cl : Nat) (L : List HV) (w : World) (h : GoodLists w.heap.size w Al L) (hn : L.length ≤ 1000) (hf : (flat L).length ≤ 1000) (st : Nat) (sw : Int) (most : Int) (hm0 : -9223372036854775808 ≤ most) (hm1 : most ≤ 9223372036854775807) (m : Nat) (hm : (m : Int) = max 0 (min most (((flat L).filter (aftB st sw)).length : Int))) :
    Calls Try.prog 22 #[.slice Al L.length cl, .agg #[.int .u64 (st : Int), .int .i64 sw], .int .i64 most] w (RangeGives w.heap.size L st sw m w) := by
  obtain ⟨u, hu⟩ : ∃ u, u = w.alloc (.cells #[.int .u64 (st : Int), .int .i64 sw] 25) := ⟨_, rfl⟩
  have bu : Below w.heap.size w u := by rw [hu]; exact (Below.refl _ _).alloc (Nat.le_refl _) _
  have hsz : u.heap.size = w.heap.size + 1 := by rw [hu]; simp
  have g0 : u.heap[w.heap.size]? = some (.cells #[.int .u64 (st : Int), .int .i64 sw] 25 (0, 0)) := by rw [hu]; exact heap_alloc_new w _
  have OV := over_any Al cl L u ((h.lists.below bu).wide bu.size) (by omega)
  have SK : ∀ hs W, HeapAt u.heap.size u.heap.size 86 hs W → hs.Perm (L.filter hasEv) → Below u.heap.size u W →
      Calls Try.prog 38 #[.pointer (some ⟨u.heap.size, 0, none⟩), .agg #[.int .u64 (st : Int), .int .i64 sw]] W fun e w' => ∃ hs' v, e = .returned (.int .i64 v) ∧ Hid (HeapAt u.heap.size u.heap.size 86 hs' w' ∧ (flat hs').Perm ((flat L).filter (aftB st sw)) ∧ (∀ x ∈ hs', Rises x.S) ∧ Below u.heap.size u w') := fun hs W hA hp hb => by
    obtain ⟨⟨A, c, hat⟩, hH⟩ := hA
    have hfl : (flat hs).Perm (flat L) := (flat_perm hp).trans (by rw [flat_filter])
    have hlen := hfl.length_eq
    have hne := Heap.len_le hH.ne
    refine (seek_any hat (fun x hx => h.rise x (List.mem_filter.1 (hp.mem_iff.1 hx)).1) (by omega) (by omega) st sw).mono ?_
    rintro e w' ⟨hs', rfl, h1, h2, h3, h4, h5, _⟩
    exact ⟨hs', _, rfl, Lib.hid ⟨h1, h2.trans (hfl.filter _), h3, hb.trans h5⟩⟩
  have TK : ∀ hs W, HeapAt u.heap.size u.heap.size 86 hs W → (flat hs).Perm ((flat L).filter (aftB st sw)) → (∀ x ∈ hs, Rises x.S) → Below u.heap.size u W →
      Calls Try.prog 28 #[.pointer (some ⟨u.heap.size, 0, none⟩), .int .i64 most] W (RangeGives w.heap.size L st sw m w) := fun hs W hA hp hr hb => by
    obtain ⟨⟨A, c, hat⟩, hH⟩ := hA
    have hlen := hp.length_eq
    have hle := List.length_filter_le (aftB st sw) (flat L)
    have hbw := bu.trans (hb.mono bu.size)
    refine (ctake_any hat hH hr (by omega) (fun r hr' => ((h.text r (List.mem_filter.1 (hp.mem_iff.1 hr')).1).below hbw).wide bu.size) most hm0 hm1 m (by rw [hlen]; exact hm)).mono ?_
    rintro e w' ⟨g, rfl, hg, ⟨⟨rs, hs', S, t1, t2, t3, t4, t5⟩, t6, t7⟩⟩
    have hSl : S.length = m := by rw [← t2, ← List.length_map (f := EvS.e), t3, List.length_map]
    exact ⟨g, S, rs, flat hs', rfl, hSl, t5, by have := hb.size; have := bu.size; omega, t3, t1.perm.trans hp, t1.rise, t1.le, t2, hbw.trans (t6.mono bu.size)⟩
  have HOV := Lib.hid OV
  have HSK := Lib.hid SK
  have HTK := Lib.hid TK
  have HU := Lib.hid hu
  have HG := Lib.hid (And.intro g0 hsz)
  clear OV SK TK hu bu hsz g0 h hm
  obtain ⟨N, hN⟩ : ∃ N, L.length = N := ⟨_, rfl⟩
  rw [hN] at HOV hn ⊢
  clear hN
  go_enter Try.func22, Try.ntmps22
  go_upto_region 1 with fail
  rw [← HU.out]
  go_wp2_with fail
  refine HOV.out.mono ?_
  rintro e w1 ⟨hs, rfl, h1, h2, h3⟩
  have HS := Lib.hid (HSK.out hs w1 h1 h2 h3)
  have s0 : w1.cell? ⟨w.heap.size, 0, none⟩ = some (.int .u64 (st : Int)) := by rw [cell_of_row w1 _ 0 _ _ _ ((h3.block _ (by rw [HG.out.2]; omega)).trans HG.out.1)]; rfl
  have s1 : w1.cell? ⟨w.heap.size, 1, none⟩ = some (.int .i64 sw) := by rw [cell_of_row w1 _ 1 _ _ _ ((h3.block _ (by rw [HG.out.2]; omega)).trans HG.out.1)]; rfl
  obtain ⟨p, hp⟩ : ∃ p, p = u.heap.size := ⟨_, rfl⟩
  rw [← hp] at HS HTK ⊢
  clear h1 h2 h3 HSK HOV hp
  go_wp2_with fail
  refine HS.out.mono ?_
  rintro e w2 ⟨hs2, v, rfl, H2⟩
  have HT := Lib.hid (HTK.out hs2 w2 H2.out.1 H2.out.2.1 H2.out.2.2.1 H2.out.2.2.2)
  clear HS HTK s0 s1 H2
  go_wp2_with fail
  refine HT.out.mono ?_
  rintro e w3 ⟨g, S, rs, rest, rfl, hrest⟩
  have HR := Lib.hid hrest
  clear hrest HT
  go_wp2
  go_ret
  exact ⟨g, S, rs, rest, rfl, HR.out⟩

end Go.Proofs.Ytmogoopkjkdkgaa.Ord
