/- Order: upto, Seek. -/
import Derived.Test.YtlacihgoammjgaaOrdU
import Derived.Test.YtlacihgoammjgaaOrdS0
import Derived.Test.YtlacihgoammjgaaOrdN
namespace Go.Proofs.Ytlacihgoammjgaa.Ord
open Go Go.RowKit Go.Proofs.Ytlacihgoammjgaa.Words Go.Proofs.Ytlacihgoammjgaa.Enc Go.Proofs.Ytlacihgoammjgaa.Evt Go.Proofs.Ytlacihgoammjgaa.Seg
set_option linter.unusedVariables false
set_option linter.unusedSimpArgs false

/-- Does an event stand behind a place? -/
def aftB (st : Nat) (sw : Int) (e : EvS) : Bool := decide (cmpS st sw e.e.time e.e.writer < 0)
theorem aft_iff {st : Nat} {sw : Int} {e : EvS} : aftB st sw e = true ↔ st < e.e.time ∨ st = e.e.time ∧ sw < e.e.writer := by
  unfold aftB
  rw [decide_eq_true_eq, cmpS_lt]
theorem aft_gt (st : Nat) (sw : Int) (e : EvS) : decide (0 < cmpS e.e.time e.e.writer st sw) = aftB st sw e := by
  rw [Bool.eq_iff_iff, decide_eq_true_eq, cmpS_gt, aft_iff]
theorem aft_mono {st : Nat} {sw : Int} {a b : EvS} (h : evLe a b) (ha : aftB st sw a = true) : aftB st sw b = true := by
  rw [aft_iff] at *
  unfold evLe at h
  omega
theorem split_aft (st : Nat) (sw : Int) : ∀ S : List EvS, Rises S → S.drop (S.countP fun e => !aftB st sw e) = S.filter (aftB st sw)
  | [], _ => rfl
  | a :: t, h => by
    obtain ⟨h1, h2⟩ := List.pairwise_cons.1 h
    have ih := split_aft st sw t h2
    by_cases ha : aftB st sw a = true
    · have hall : ∀ b ∈ t, aftB st sw b = true := fun b hb => aft_mono (h1 b hb) ha
      have h0 : t.countP (fun e => !aftB st sw e) = 0 := List.countP_eq_zero.2 fun b hb => by simp [hall b hb]
      rw [List.countP_cons_of_neg (by simp [ha]), h0, List.filter_cons_of_pos ha, List.filter_eq_self.2 hall, List.drop_zero]
    · rw [List.countP_cons_of_pos (by simp [ha]), List.filter_cons_of_neg ha, List.drop_succ_cons]
      exact ih
theorem evs_map (S : List EvS) : (List.range S.length).map (evAt S) = S := by
  refine List.ext_getElem (by simp) fun i h1 h2 => ?_
  rw [List.getElem_map, List.getElem_range]
  have := evAt_get (S := S) (k := i) h2
  rw [List.getElem?_eq_getElem h2] at this
  exact (Option.some.inj this).symm
theorem misses_aft (st : Nat) (sw : Int) (S : List EvS) : misses (fun i => aftB st sw (evAt S i)) S.length = S.countP fun e => !aftB st sw e := by
  unfold misses
  conv => rhs; rw [← evs_map S]
  rw [List.countP_map]
  rfl
theorem count_two (st : Nat) (sw : Int) (S : List EvS) : (S.filter (aftB st sw)).length + (S.countP fun e => !aftB st sw e) = S.length := by
  induction S with
  | nil => rfl
  | cons a t ih =>
    by_cases ha : aftB st sw a = true
    · rw [List.filter_cons_of_pos ha, List.countP_cons_of_neg (by simp [ha]), List.length_cons, List.length_cons]; omega
    · rw [List.filter_cons_of_neg ha, List.countP_cons_of_pos (by simp [ha]), List.length_cons]; omega

set_option maxRecDepth 100000 in
set_option maxHeartbeats 4000000 in
theorem after_any (bl bs b o n c i : Nat) (r : EvS) (st : Nat) (sw : Int) (W : World) (hi : i < n) (hn : n ≤ 1000000000) (h1 : W.cell? ⟨bl, 0, none⟩ = some (.slice (some ⟨b, o, none⟩) n c)) (h2 : W.cell? ⟨bs, 0, none⟩ = some (.int .u64 (st : Int))) (h3 : W.cell? ⟨bs, 1, none⟩ = some (.int .i64 sw))
    (f : W.cell? ⟨b, o + i * 8, none⟩ = some (.int .i64 r.e.writer) ∧ W.cell? ⟨b, o + i * 8 + 1, none⟩ = some (.int .u64 (r.e.seq : Int)) ∧ W.cell? ⟨b, o + i * 8 + 2, none⟩ = some (.int .u64 (r.e.time : Int)) ∧ W.cell? ⟨b, o + i * 8 + 3, none⟩ = some (.int .u8 (r.e.kind : Int)) ∧ W.cell? ⟨b, o + i * 8 + 4, none⟩ = some (.string r.e.key) ∧ W.cell? ⟨b, o + i * 8 + 5, none⟩ = some (.slice r.A r.n r.c) ∧ W.cell? ⟨b, o + i * 8 + 6, none⟩ = some (.float .f64 r.e.num) ∧ W.cell? ⟨b, o + i * 8 + 7, none⟩ = some (.int .i64 r.e.node)) :
    Calls Try.prog 54 #[.int .i64 (i : Int), .pointer (some ⟨bl, 0, none⟩), .pointer (some ⟨bs, 0, none⟩)] W fun e w' => e = .returned (.bool (aftB st sw r)) ∧ Below W.heap.size W w' := by
  have HF := Lib.hid (And.intro h1 (And.intro h2 (And.intro h3 f)))
  obtain ⟨z, hz⟩ : ∃ z, z = cmpS r.e.time r.e.writer st sw := ⟨_, rfl⟩
  have hag := aft_gt st sw r
  rw [← hz] at hag
  have HAG := Lib.hid hag
  have keep : ∀ w', Below W.heap.size W w' → w'.cell? ⟨bl, 0, none⟩ = some (.slice (some ⟨b, o, none⟩) n c) ∧ w'.cell? ⟨bs, 0, none⟩ = some (.int .u64 (st : Int)) ∧ w'.cell? ⟨bs, 1, none⟩ = some (.int .i64 sw) ∧ w'.cell? ⟨b, o + i * 8, none⟩ = some (.int .i64 r.e.writer) ∧ w'.cell? ⟨b, o + i * 8 + 1, none⟩ = some (.int .u64 (r.e.seq : Int)) ∧ w'.cell? ⟨b, o + i * 8 + 2, none⟩ = some (.int .u64 (r.e.time : Int)) ∧ w'.cell? ⟨b, o + i * 8 + 3, none⟩ = some (.int .u8 (r.e.kind : Int)) ∧ w'.cell? ⟨b, o + i * 8 + 4, none⟩ = some (.string r.e.key) ∧ w'.cell? ⟨b, o + i * 8 + 5, none⟩ = some (.slice r.A r.n r.c) ∧ w'.cell? ⟨b, o + i * 8 + 6, none⟩ = some (.float .f64 r.e.num) ∧ w'.cell? ⟨b, o + i * 8 + 7, none⟩ = some (.int .i64 r.e.node) := fun w' hb2 => by
    have old : ∀ {q : Addr} {v : Value}, W.cell? q = some v → w'.cell? q = some v := fun {q v} hq => by rw [hb2.cell (World.block_lt_of_cell? _ _ hq)]; exact hq
    obtain ⟨m1, m2, m3, e0, e1, e2, e3, e4, e5, e6, e7⟩ := HF.out
    exact ⟨old m1, old m2, old m3, old e0, old e1, old e2, old e3, old e4, old e5, old e6, old e7⟩
  have HAT : ∀ (w0 : World), Below W.heap.size W w0 → Calls Try.prog 52 #[.agg #[.int .i64 r.e.writer, .int .u64 (r.e.seq : Int), .int .u64 (r.e.time : Int), .int .u8 (r.e.kind : Int), .string r.e.key, .slice r.A r.n r.c, .float .f64 r.e.num, .int .i64 r.e.node]] w0 fun e w' => e = .returned (.agg #[.int .u64 (r.e.time : Int), .int .i64 r.e.writer]) ∧ Hid (Below W.heap.size W w') ∧ w'.cell? ⟨bl, 0, none⟩ = some (.slice (some ⟨b, o, none⟩) n c) ∧ w'.cell? ⟨bs, 0, none⟩ = some (.int .u64 (st : Int)) ∧ w'.cell? ⟨bs, 1, none⟩ = some (.int .i64 sw) ∧ w'.cell? ⟨b, o + i * 8, none⟩ = some (.int .i64 r.e.writer) ∧ w'.cell? ⟨b, o + i * 8 + 1, none⟩ = some (.int .u64 (r.e.seq : Int)) ∧ w'.cell? ⟨b, o + i * 8 + 2, none⟩ = some (.int .u64 (r.e.time : Int)) ∧ w'.cell? ⟨b, o + i * 8 + 3, none⟩ = some (.int .u8 (r.e.kind : Int)) ∧ w'.cell? ⟨b, o + i * 8 + 4, none⟩ = some (.string r.e.key) ∧ w'.cell? ⟨b, o + i * 8 + 5, none⟩ = some (.slice r.A r.n r.c) ∧ w'.cell? ⟨b, o + i * 8 + 6, none⟩ = some (.float .f64 r.e.num) ∧ w'.cell? ⟨b, o + i * 8 + 7, none⟩ = some (.int .i64 r.e.node) := fun w0 hW => by
    refine (at_any r.e r.A r.n r.c w0).mono ?_
    rintro e w' ⟨rfl, hb⟩
    have hb2 := hW.trans (hb.mono hW.size)
    exact ⟨rfl, Lib.hid hb2, keep _ hb2⟩
  have HCM : ∀ (w0 : World), Below W.heap.size W w0 → Calls Try.prog 51 #[.agg #[.int .u64 (r.e.time : Int), .int .i64 r.e.writer], .agg #[.int .u64 (st : Int), .int .i64 sw]] w0 fun e w' => e = .returned (.int .i64 z) ∧ Hid (Below W.heap.size W w') ∧ w'.cell? ⟨bl, 0, none⟩ = some (.slice (some ⟨b, o, none⟩) n c) ∧ w'.cell? ⟨bs, 0, none⟩ = some (.int .u64 (st : Int)) ∧ w'.cell? ⟨bs, 1, none⟩ = some (.int .i64 sw) ∧ w'.cell? ⟨b, o + i * 8, none⟩ = some (.int .i64 r.e.writer) ∧ w'.cell? ⟨b, o + i * 8 + 1, none⟩ = some (.int .u64 (r.e.seq : Int)) ∧ w'.cell? ⟨b, o + i * 8 + 2, none⟩ = some (.int .u64 (r.e.time : Int)) ∧ w'.cell? ⟨b, o + i * 8 + 3, none⟩ = some (.int .u8 (r.e.kind : Int)) ∧ w'.cell? ⟨b, o + i * 8 + 4, none⟩ = some (.string r.e.key) ∧ w'.cell? ⟨b, o + i * 8 + 5, none⟩ = some (.slice r.A r.n r.c) ∧ w'.cell? ⟨b, o + i * 8 + 6, none⟩ = some (.float .f64 r.e.num) ∧ w'.cell? ⟨b, o + i * 8 + 7, none⟩ = some (.int .i64 r.e.node) := fun w0 hW => by
    rw [hz]
    refine (compare_any r.e.time r.e.writer st sw w0).mono ?_
    rintro e w' ⟨rfl, hb⟩
    have hb2 := hW.trans (hb.mono hW.size)
    exact ⟨rfl, Lib.hid hb2, keep _ hb2⟩
  rw [← hag]
  clear hag hz keep
  obtain ⟨e0, e1, e2, e3, e4, e5, e6, e7⟩ := f
  have zi : (i : Int) < (n : Int) := by omega
  have zi0 : (0 : Int) ≤ (i : Int) := by omega
  go_enter Try.func54, Try.ntmps54
  go_wp2_with fail
  go_region_held3 (fun w' => w'.cell? ⟨bl, 0, none⟩ = some (.slice (some ⟨b, o, none⟩) n c) ∧ w'.cell? ⟨bs, 0, none⟩ = some (.int .u64 (st : Int)) ∧ w'.cell? ⟨bs, 1, none⟩ = some (.int .i64 sw) ∧ w'.cell? ⟨b, o + i * 8, none⟩ = some (.int .i64 r.e.writer) ∧ w'.cell? ⟨b, o + i * 8 + 1, none⟩ = some (.int .u64 (r.e.seq : Int)) ∧ w'.cell? ⟨b, o + i * 8 + 2, none⟩ = some (.int .u64 (r.e.time : Int)) ∧ w'.cell? ⟨b, o + i * 8 + 3, none⟩ = some (.int .u8 (r.e.kind : Int)) ∧ w'.cell? ⟨b, o + i * 8 + 4, none⟩ = some (.string r.e.key) ∧ w'.cell? ⟨b, o + i * 8 + 5, none⟩ = some (.slice r.A r.n r.c) ∧ w'.cell? ⟨b, o + i * 8 + 6, none⟩ = some (.float .f64 r.e.num) ∧ w'.cell? ⟨b, o + i * 8 + 7, none⟩ = some (.int .i64 r.e.node)) (go_keep)
    (first
      | (go_at_call 52
         refine (HAT _ ?h1).mono ?_
         case h1 => first | exact Below.refl _ _ | exact (Below.refl _ _).drew | exact Hid.out (by assumption)
         rintro e w' ⟨rfl, hb, q0, q1, q2, q3, q4, q5, q6, q7, q8, q9, q10⟩)
      | (go_at_call 51
         refine (HCM _ ?h1).mono ?_
         case h1 => first | exact Below.refl _ _ | exact (Below.refl _ _).drew | exact Hid.out (by assumption)
         rintro e w' ⟨rfl, hb, q0, q1, q2, q3, q4, q5, q6, q7, q8, q9, q10⟩))
  all_goals go_wp2
  all_goals go_ret
  all_goals exact ⟨rfl, Hid.out (by assumption)⟩

set_option maxRecDepth 100000 in
set_option maxHeartbeats 4000000 in
theorem upto_any (A : Option Addr) (c : Nat) (S : List EvS) (st : Nat) (sw : Int) (w : World) (h : RawEv w A S) (hr : Rises S) (hn : S.length ≤ 1000000000) :
    Calls Try.prog 35 #[.slice A S.length c, .agg #[.int .u64 (st : Int), .int .i64 sw]] w fun e w' => e = .returned (.int .i64 ((S.countP fun e => !aftB st sw e : Nat) : Int)) ∧ Below w.heap.size w w' := by
  obtain ⟨u0, hu0⟩ : ∃ u, u = w.alloc (.cells #[.slice A S.length c] 26) := ⟨_, rfl⟩
  obtain ⟨u, hu⟩ : ∃ u, u = u0.alloc (.cells #[.int .u64 (st : Int), .int .i64 sw] 42) := ⟨_, rfl⟩
  have b0 : Below w.heap.size w u0 := by rw [hu0]; exact (Below.refl _ _).alloc (Nat.le_refl _) _
  have hsz : u0.heap.size = w.heap.size + 1 := by rw [hu0]; simp
  have b1 : Below u0.heap.size u0 u := by rw [hu]; exact (Below.refl _ _).alloc (Nat.le_refl _) _
  have g0 : u.heap[w.heap.size]? = some (.cells #[.slice A S.length c] 26 (0, 0)) := (b1.block _ (by omega)).trans (by rw [hu0]; exact heap_alloc_new w _)
  have g1 : u.heap[w.heap.size + 1]? = some (.cells #[.int .u64 (st : Int), .int .i64 sw] 42 (0, 0)) := by rw [hu, ← hsz]; exact heap_alloc_new u0 _
  have bu : Below w.heap.size w u := b0.trans (b1.mono b0.size)
  have eg : ∀ args w, (callFunc 54 args).run Try.prog w = .ok (.enter 54 args) w := fun _ _ => by kernel_rfl
  have SE : Calls Try.prog 53 #[.int .i64 (S.length : Int), .func (.func 54) #[] #[.pointer (some ⟨w.heap.size, 0, none⟩), .pointer (some ⟨w.heap.size + 1, 0, none⟩)]] u fun e w' => e = .returned (.int .i64 ((S.countP fun e => !aftB st sw e : Nat) : Int)) ∧ Hid (Below w.heap.size w w') := by
    refine (search_any _ _ S.length (fun i => aftB st sw (evAt S i)) u eg hn (fun W i hW hi => ?_) (fun a b hab hb ha => aft_mono (by
      have := List.pairwise_iff_getElem.1 hr
      have ea : ∀ k (hk : k < S.length), evAt S k = S[k] := fun k hk => by have := evAt_get hk; rw [List.getElem?_eq_getElem hk] at this; exact (Option.some.inj this).symm
      rw [ea a (by omega), ea b hb]
      rcases Nat.lt_or_eq_of_le hab with h1 | rfl
      · exact this a b (by omega) hb h1
      · exact evLe_refl _) ha)).mono ?_
    · obtain ⟨b, o, hA, hc⟩ := h (by omega)
      have c1 : W.cell? ⟨w.heap.size, 0, none⟩ = some (.slice (some ⟨b, o, none⟩) S.length c) := by
        rw [cell_of_row W _ 0 _ _ _ ((hW.block _ (Array.getElem?_eq_some_iff.1 g0).1).trans g0), ← hA]; rfl
      have hg1 := (hW.block _ (Array.getElem?_eq_some_iff.1 g1).1).trans g1
      have c2 : W.cell? ⟨w.heap.size + 1, 0, none⟩ = some (.int .u64 (st : Int)) := by rw [cell_of_row W _ 0 _ _ _ hg1]; rfl
      have c3 : W.cell? ⟨w.heap.size + 1, 1, none⟩ = some (.int .i64 sw) := by rw [cell_of_row W _ 1 _ _ _ hg1]; rfl
      have hcW : ∀ j v, (rowsL S)[j]? = some v → W.cell? ⟨b, o + j, none⟩ = some v := fun j v hv => by
        rw [((bu.trans (hW.mono bu.size)).cell (World.block_lt_of_cell? _ _ (hc j v hv)))]; exact hc j v hv
      exact after_any w.heap.size (w.heap.size + 1) b o S.length c i (evAt S i) st sw W hi hn c1 c2 c3 (RawEv.cells_at hcW hi)
    · rintro e w' ⟨rfl, hb⟩
      rw [misses_aft]
      exact ⟨rfl, Lib.hid (bu.trans (hb.mono bu.size))⟩
  have HSE := Lib.hid SE
  have HU0 := Lib.hid hu0
  have HU := Lib.hid hu
  have hmf : ∀ (fn : Fn) (first cap : Array Value) (w : World), (Instr.makeFunc fn first cap).run Try.prog w = .ok (.func fn first cap) w := fun _ _ _ _ => rfl
  clear SE hu0 hu b0 b1 g0 g1 bu eg hsz h hr
  generalize S.length = n at *
  generalize (S.countP fun e => !aftB st sw e) = q at *
  go_enter Try.func35, Try.ntmps35
  go_wp2_with fail
  rw [← HU0.out, ← HU.out]
  refine HSE.out.mono ?_
  rintro e w3 ⟨rfl, HB⟩
  go_wp2
  go_ret
  exact ⟨rfl, HB.out⟩
end Go.Proofs.Ytlacihgoammjgaa.Ord
