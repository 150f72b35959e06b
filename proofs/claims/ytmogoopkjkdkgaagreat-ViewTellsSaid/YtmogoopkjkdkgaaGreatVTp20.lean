/- Order: the document's Sort: the walk. Order: the document's Whole; two lists of the same events are told as the same. Layer 15: what events come to is a fold in its bounds. The document's fold: Find, put, drop. -/
import Derived.Deep.QuietTactic
import Derived.Deep.RegionWith
import Derived.Test.YtmogoopkjkdkgaaGreatVTp10
import Derived.Test.YtmogoopkjkdkgaaGreatVTp12
import Derived.Test.YtmogoopkjkdkgaaGreatVTp19
namespace Go.Proofs.YtmogoopkjkdkgaaGreat.Ord
open Go Go.RowKit Go.Proofs.YtmogoopkjkdkgaaGreat.Words Go.Proofs.YtmogoopkjkdkgaaGreat.Enc Go.Proofs.YtmogoopkjkdkgaaGreat.Evt Go.Proofs.YtmogoopkjkdkgaaGreat.Seg
set_option linter.unusedVariables false
set_option linter.unusedSimpArgs false

set_option maxRecDepth 100000 in
set_option maxHeartbeats 8000000 in
theorem refSort_any (A : Option Addr) (c : Nat) (S : List EvS) (w : World) (h : RawEv w A S) (hn : S.length ≤ 1000) :
    Calls Tryz.prog 18 #[.slice A S.length c] w fun e w' => ∃ A' c' R, e = .returned (.slice A' S.length c') ∧ w'.ownsRow w.heap.size 32 8 (.slice A' S.length c') S.length (rowsL R) ∧ R.Perm S ∧ Rises R ∧ Below w.heap.size w w' := by
  obtain ⟨n, hn'⟩ : ∃ n, n = S.length := ⟨_, rfl⟩
  rw [← hn'] at hn ⊢
  have HH := Lib.hid (And.intro h hn')
  clear h hn'
  go_enter Tryz.func18, Tryz.ntmps18
  go_wp2_with fail
  go_loopw [3, 4] (fun ov iv W => ∃ (i : Nat) (A' : Option Addr) (c' : Nat) (R : List EvS), iv = .int .i64 (i : Int) ∧ ov = .slice A' i c' ∧ i ≤ n ∧ Hid (W.ownsRow w.heap.size 32 8 (.slice A' i c') i (rowsL R) ∧ R.Perm (S.take i) ∧ Rises R ∧ Below w.heap.size w W)) (fun _ iv _ => n - (intOf iv).toNat)
  case atStart => exact ⟨0, none, 0, [], rfl, rfl, Nat.zero_le _, Lib.hid ⟨own_nil8 _ _ _, by simp, List.Pairwise.nil, Below.refl _ _⟩⟩
  case round =>
    obtain ⟨i, A', c', R, rfl, rfl, hi, HR⟩ := hrel
    by_cases hlt : i < n
    · have hRl : R.length = i := by
        have := HR.out.1.1
        rw [rowsL_len] at this
        omega
      obtain ⟨b, o, rfl, hc⟩ := HH.out.1 (by rw [← HH.out.2]; omega)
      have hiS : i < S.length := by rw [← HH.out.2]; exact hlt
      have hxg : S[i]? = some (evAt S i) := evAt_get hiS
      have HX := Lib.hid (And.intro hxg (And.intro hc hRl))
      generalize evAt S i = x at HX hxg
      have zin : (i : Int) < (n : Int) := by omega
      have zi0 : (0 : Int) ≤ (i : Int) := by omega
      clear hxg hc hRl
      have hnx : (x.e.val x.A x.n x.c) = x.e.val x.A x.n x.c := rfl
      clear hnx
      obtain ⟨wo, rfl⟩ : ∃ wo : World, wo = wr := ⟨_, rfl⟩
      go_wp2_with fail
      refine wp_thenB (K := fun a W => ∃ (k : Nat) (y15 y16 y17 y18 y19 y20 y21 y22 y23 y24 y25 y26 y27 y28 y29 y30 y31 y32 : Value), a = { tmps := #[Value.slice (some { block := b, off := o }) n c, undef, Value.slice none 0 0, Value.slice A' i c', Value.int IntKind.i64 (i : Int), Value.int IntKind.i64 (k : Int), u6, Value.int IntKind.i64 (i : Int), Value.slice (some { block := b, off := o }) n c, Value.int IntKind.i64 (n : Int), Value.bool true, u11, u12, Value.slice A' i c', Value.int IntKind.i64 (i : Int), y15, y16, y17, y18, y19, y20, y21, y22, y23, y24, y25, y26, y27, y28, y29, y30, y31, y32, u33, u34, u35, u36, u37, u38, u39, u40, u41, u42, u43, u44, u45, u46, u47, u48, u49, undef], defers := [] } ∧ k ≤ i ∧ Hid (Below wo.heap.size wo W ∧ (∀ j, j < k → evLe (evAt R j) x) ∧ ∀ j, k ≤ j → j < i → evLe x (evAt R j))) ?after ?loop
      case loop =>
        go_loopw [5] (fun kv W => ∃ k : Nat, kv = .int .i64 (k : Int) ∧ k ≤ i ∧ Hid (Below wo.heap.size wo W ∧ ∀ j, k ≤ j → j < i → evLe x (evAt R j))) (fun kv _ => (intOf kv).toNat)
        case atStart => exact ⟨i, rfl, Nat.le_refl _, Lib.hid ⟨Below.refl _ _, fun j h1 h2 => by omega⟩⟩
        case round =>
          obtain ⟨k, rfl, hk, HK⟩ := hrel
          by_cases hk0 : k = 0
          · subst hk0
            have zk1 : ¬ (0 : Int) < ((0 : Nat) : Int) := by decide
            go_wp2_with fail
            go_quiet (fail)
            go_wp2_with fail
            exact ⟨0, _, _, _, _, _, _, _, _, _, _, _, _, _, _, _, _, _, _, rfl, Nat.zero_le _, Lib.hid ⟨HK.out.1.trans ⟨rfl, rfl, rfl, Nat.le_refl _, fun _ _ => rfl⟩, fun j h => absurd h (by omega), HK.out.2⟩⟩
          · obtain ⟨q, hq⟩ : ∃ q, k = q + 1 := ⟨k - 1, by omega⟩
            have hqi : q < i := by omega
            have hrawR : RawEv wr A' R := RawEv.of_own (n := i) (c := c') (by exact own_below8 HR.out.1 HK.out.1 (Nat.le_refl _))
            obtain ⟨b2, o2, hA2, hc2⟩ := hrawR (by rw [HX.out.2.2]; omega)
            have ho2 : o2 = 0 := by
              obtain ⟨g, hg, _⟩ := own_at8 HR.out.1 (by omega)
              rw [hA2] at hg; cases hg; rfl
            subst ho2
            have hx := RawEv.cells_at (w := wr) (b := b) (o := o) (S := S) (k := i) (fun j v hv => by rw [(HR.out.2.2.2.trans (HK.out.1.mono HR.out.2.2.2.size)).cell (World.block_lt_of_cell? _ _ (HX.out.2.1 j v hv))]; exact HX.out.2.1 j v hv) (by rw [← HH.out.2]; exact hlt)
            have hxe : evAt S i = x := by have := evAt_get (S := S) (k := i) (by rw [← HH.out.2]; exact hlt); rw [HX.out.1] at this; exact (Option.some.inj this).symm
            rw [hxe] at hx
            have hy := RawEv.cells_at hc2 (k := q) (by rw [HX.out.2.2]; omega)
            simp only [Nat.zero_add] at hy
            subst hA2
            generalize hye : evAt R q = y at hy
            obtain ⟨lb, hlb⟩ : ∃ lb, lb = lessB x y := ⟨_, rfl⟩
            have HF := Lib.hid (And.intro hx hy)
            have HAT : ∀ (xw : Int) (sq tm kd : Nat) (key : ByteArray) (A : Option Addr) (n c num : Nat) (node : Int) (W : World), Below wr.heap.size wr W → Calls Tryz.prog 41 #[.agg #[.int .i64 xw, .int .u64 (sq : Int), .int .u64 (tm : Int), .int .u8 (kd : Int), .string key, .slice A n c, .float .f64 num, .int .i64 node]] W fun e w' => e = .returned (.agg #[.int .u64 (tm : Int), .int .i64 xw]) ∧ Hid (Below wr.heap.size wr w') ∧ (w'.cell? ⟨b, o + i * 8, none⟩ = some (.int .i64 x.e.writer) ∧ w'.cell? ⟨b, o + i * 8 + 1, none⟩ = some (.int .u64 (x.e.seq : Int)) ∧ w'.cell? ⟨b, o + i * 8 + 2, none⟩ = some (.int .u64 (x.e.time : Int)) ∧ w'.cell? ⟨b, o + i * 8 + 3, none⟩ = some (.int .u8 (x.e.kind : Int)) ∧ w'.cell? ⟨b, o + i * 8 + 4, none⟩ = some (.string x.e.key) ∧ w'.cell? ⟨b, o + i * 8 + 5, none⟩ = some (.slice x.A x.n x.c) ∧ w'.cell? ⟨b, o + i * 8 + 6, none⟩ = some (.float .f64 x.e.num) ∧ w'.cell? ⟨b, o + i * 8 + 7, none⟩ = some (.int .i64 x.e.node)) ∧ w'.cell? ⟨b2, q * 8, none⟩ = some (.int .i64 y.e.writer) ∧ w'.cell? ⟨b2, q * 8 + 1, none⟩ = some (.int .u64 (y.e.seq : Int)) ∧ w'.cell? ⟨b2, q * 8 + 2, none⟩ = some (.int .u64 (y.e.time : Int)) ∧ w'.cell? ⟨b2, q * 8 + 3, none⟩ = some (.int .u8 (y.e.kind : Int)) ∧ w'.cell? ⟨b2, q * 8 + 4, none⟩ = some (.string y.e.key) ∧ w'.cell? ⟨b2, q * 8 + 5, none⟩ = some (.slice y.A y.n y.c) ∧ w'.cell? ⟨b2, q * 8 + 6, none⟩ = some (.float .f64 y.e.num) ∧ w'.cell? ⟨b2, q * 8 + 7, none⟩ = some (.int .i64 y.e.node) := fun xw sq tm kd key A n c num node W hW => by
              refine (refAt_any ⟨xw, sq, tm, kd, key, [], num, node⟩ A n c W).mono ?_
              rintro e w' ⟨rfl, hb⟩
              have hb2 := hW.trans (hb.mono hW.size)
              have old : ∀ {q : Addr} {v : Value}, wr.cell? q = some v → w'.cell? q = some v := fun {q v} hq => by rw [hb2.cell (World.block_lt_of_cell? _ _ hq)]; exact hq
              obtain ⟨⟨e0, e1, e2, e3, e4, e5, e6, e7⟩, d0, d1, d2, d3, d4, d5, d6, d7⟩ := HF.out
              exact ⟨rfl, Lib.hid hb2, ⟨old e0, old e1, old e2, old e3, old e4, old e5, old e6, old e7⟩, old d0, old d1, old d2, old d3, old d4, old d5, old d6, old d7⟩
            have HAH : ∀ (W : World), Below wr.heap.size wr W → Calls Tryz.prog 40 #[.agg #[.int .u64 (x.e.time : Int), .int .i64 x.e.writer], .agg #[.int .u64 (y.e.time : Int), .int .i64 y.e.writer]] W fun e w' => e = .returned (.bool lb) ∧ Hid (Below wr.heap.size wr w') ∧ (w'.cell? ⟨b, o + i * 8, none⟩ = some (.int .i64 x.e.writer) ∧ w'.cell? ⟨b, o + i * 8 + 1, none⟩ = some (.int .u64 (x.e.seq : Int)) ∧ w'.cell? ⟨b, o + i * 8 + 2, none⟩ = some (.int .u64 (x.e.time : Int)) ∧ w'.cell? ⟨b, o + i * 8 + 3, none⟩ = some (.int .u8 (x.e.kind : Int)) ∧ w'.cell? ⟨b, o + i * 8 + 4, none⟩ = some (.string x.e.key) ∧ w'.cell? ⟨b, o + i * 8 + 5, none⟩ = some (.slice x.A x.n x.c) ∧ w'.cell? ⟨b, o + i * 8 + 6, none⟩ = some (.float .f64 x.e.num) ∧ w'.cell? ⟨b, o + i * 8 + 7, none⟩ = some (.int .i64 x.e.node)) ∧ w'.cell? ⟨b2, q * 8, none⟩ = some (.int .i64 y.e.writer) ∧ w'.cell? ⟨b2, q * 8 + 1, none⟩ = some (.int .u64 (y.e.seq : Int)) ∧ w'.cell? ⟨b2, q * 8 + 2, none⟩ = some (.int .u64 (y.e.time : Int)) ∧ w'.cell? ⟨b2, q * 8 + 3, none⟩ = some (.int .u8 (y.e.kind : Int)) ∧ w'.cell? ⟨b2, q * 8 + 4, none⟩ = some (.string y.e.key) ∧ w'.cell? ⟨b2, q * 8 + 5, none⟩ = some (.slice y.A y.n y.c) ∧ w'.cell? ⟨b2, q * 8 + 6, none⟩ = some (.float .f64 y.e.num) ∧ w'.cell? ⟨b2, q * 8 + 7, none⟩ = some (.int .i64 y.e.node) := fun W hW => by
              rw [hlb]
              refine (ahead_any x.e.time x.e.writer y.e.time y.e.writer W).mono ?_
              rintro e w' ⟨rfl, hb⟩
              have hb2 := hW.trans (hb.mono hW.size)
              have old : ∀ {q : Addr} {v : Value}, wr.cell? q = some v → w'.cell? q = some v := fun {q v} hq => by rw [hb2.cell (World.block_lt_of_cell? _ _ hq)]; exact hq
              obtain ⟨⟨e0, e1, e2, e3, e4, e5, e6, e7⟩, d0, d1, d2, d3, d4, d5, d6, d7⟩ := HF.out
              exact ⟨rfl, Lib.hid hb2, ⟨old e0, old e1, old e2, old e3, old e4, old e5, old e6, old e7⟩, old d0, old d1, old d2, old d3, old d4, old d5, old d6, old d7⟩
            have HL := Lib.hid (And.intro hlb (And.intro hye hq))
            obtain ⟨e0, e1, e2, e3, e4, e5, e6, e7⟩ := hx
            obtain ⟨d0, d1, d2, d3, d4, d5, d6, d7⟩ := hy
            have zk0 : decide (0 < k) = true := decide_eq_true (by omega)
            have zs : (k : Int) - 1 = (q : Int) := by omega
            have zw : IntKind.i64.wrap (q : Int) = (q : Int) := IntWalk.i64_in _ (by omega)
            have zq0 : (0 : Int) ≤ (q : Int) := by omega
            have zqi : (q : Int) < (i : Int) := by omega
            clear hlb hye hq hxe hc2 hrawR
            go_wp2_with fail
            go_region_held (fun w' => (w'.cell? ⟨b, o + i * 8, none⟩ = some (.int .i64 x.e.writer) ∧ w'.cell? ⟨b, o + i * 8 + 1, none⟩ = some (.int .u64 (x.e.seq : Int)) ∧ w'.cell? ⟨b, o + i * 8 + 2, none⟩ = some (.int .u64 (x.e.time : Int)) ∧ w'.cell? ⟨b, o + i * 8 + 3, none⟩ = some (.int .u8 (x.e.kind : Int)) ∧ w'.cell? ⟨b, o + i * 8 + 4, none⟩ = some (.string x.e.key) ∧ w'.cell? ⟨b, o + i * 8 + 5, none⟩ = some (.slice x.A x.n x.c) ∧ w'.cell? ⟨b, o + i * 8 + 6, none⟩ = some (.float .f64 x.e.num) ∧ w'.cell? ⟨b, o + i * 8 + 7, none⟩ = some (.int .i64 x.e.node)) ∧ w'.cell? ⟨b2, q * 8, none⟩ = some (.int .i64 y.e.writer) ∧ w'.cell? ⟨b2, q * 8 + 1, none⟩ = some (.int .u64 (y.e.seq : Int)) ∧ w'.cell? ⟨b2, q * 8 + 2, none⟩ = some (.int .u64 (y.e.time : Int)) ∧ w'.cell? ⟨b2, q * 8 + 3, none⟩ = some (.int .u8 (y.e.kind : Int)) ∧ w'.cell? ⟨b2, q * 8 + 4, none⟩ = some (.string y.e.key) ∧ w'.cell? ⟨b2, q * 8 + 5, none⟩ = some (.slice y.A y.n y.c) ∧ w'.cell? ⟨b2, q * 8 + 6, none⟩ = some (.float .f64 y.e.num) ∧ w'.cell? ⟨b2, q * 8 + 7, none⟩ = some (.int .i64 y.e.node)) (go_keep)
              (first
                | (go_at_call 41
                   refine (HAT _ _ _ _ _ _ _ _ _ _ _ ?h1).mono ?_
                   case h1 => first | exact Below.refl _ _ | exact (Below.refl _ _).drew | exact Hid.out (by assumption)
                   rintro e w' ⟨rfl, hb, k1, k2⟩)
                | (go_at_call 40
                   refine (HAH _ ?h1).mono ?_
                   case h1 => first | exact Hid.out (by assumption)
                   rintro e w' ⟨rfl, hb, k1, k2⟩))
            cases lb with
            | true =>
              go_wp2
              go_roundw
              case rel => exact ⟨q, rfl, by omega, Lib.hid ⟨HK.out.1.trans (hb.out.mono HK.out.1.size), fun j h1 h2 => by
                by_cases hjq : j = q
                · subst hjq; rw [HL.out.2.1]; exact lessB_yes HL.out.1.symm
                · exact HK.out.2 j (by have := HL.out.2.2; omega) h2⟩⟩
              case measure => have := HL.out.2.2; simp [intOf]; omega
            | false =>
              have HW9 := Lib.hid (HK.out.1.trans (hb.out.mono HK.out.1.size))
              have HLE := Lib.hid (show ∀ j, j < k → evLe (evAt R j) x from fun j hj => by
                have h1 := rises_le HR.out.2.2.1 j q (by have := HL.out.2.2; omega) (by rw [HX.out.2.2]; exact hqi)
                rw [HL.out.2.1] at h1
                exact evLe_trans _ _ _ h1 (lessB_no HL.out.1.symm))
              clear k1 k2 HAT HAH HF e0 e1 e2 e3 e4 e5 e6 e7 d0 d1 d2 d3 d4 d5 d6 d7
              go_wp2_with fail
              exact ⟨k, _, _, _, _, _, _, _, _, _, _, _, _, _, _, _, _, _, _, rfl, hk, Lib.hid ⟨HW9.out, HLE.out, HK.out.2⟩⟩
      case after =>
        rintro a W ⟨k, y15, y16, y17, y18, y19, y20, y21, y22, y23, y24, y25, y26, y27, y28, y29, y30, y31, y32, rfl, hk, HK⟩
        simp only []
        have HOWN := Lib.hid (own_below8 HR.out.1 HK.out.1 (Nat.le_refl _))
        have B9 := Lib.hid (HR.out.2.2.2.trans (HK.out.1.mono HR.out.2.2.2.size))
        have HLE := Lib.hid HK.out.2.1
        have HGE := Lib.hid HK.out.2.2
        obtain ⟨ie, hie, hze, hsze, hbye⟩ := info_parts infoEv
        have hkc : k ≤ c' := Nat.le_trans hk (own_cap8 HOWN.out).1
        have hRl : R.length = i := HX.out.2.2
        have HRL := Lib.hid hRl
        have HRB := Lib.hid (RawEv.of_own HOWN.out)
        have HOWN2 := Lib.hid HOWN.out
        have HDN : Hid (∀ A3 c3 wc, wc.ownsRow W.heap.size 32 8 (.slice A3 (k + 1 + (i - k)) c3) (k + 1 + (i - k)) (rowsL (R.take k ++ [x] ++ R.drop k)) → Below W.heap.size W wc → ∃ M, M = k + 1 + (i - k) ∧ M = i + 1 ∧ Hid (wc.ownsRow w.heap.size 32 8 (.slice A3 (i + 1) c3) (i + 1) (rowsL (R.take k ++ [x] ++ R.drop k)) ∧ (R.take k ++ [x] ++ R.drop k).Perm (S.take (i + 1)) ∧ Rises (R.take k ++ [x] ++ R.drop k) ∧ Below w.heap.size w wc)) := Lib.hid fun A3 c3 wc h3 hb3 => by
          refine ⟨i + 1, by omega, rfl, ?_⟩
          rw [show k + 1 + (i - k) = i + 1 by omega] at h3
          refine Lib.hid ⟨⟨h3.1, ?_⟩, perm_insert HR.out.2.1 HX.out.1, rises_insert HR.out.2.2.1 (by omega) HLE.out (fun j h1 h2 => HGE.out j h1 (by omega)), B9.out.trans (hb3.mono B9.out.size)⟩
          rcases h3.2 with hn | ⟨g, cap, cur, hv, hg, hh, r⟩
          · exact .inl hn
          · exact .inr ⟨g, cap, cur, hv, Nat.le_trans B9.out.size hg, hh, r⟩
        have HXC := Lib.hid (fun wa (hwa : Below W.heap.size W wa) => (by
          have Bwa := B9.out.trans (hwa.mono B9.out.size)
          have hrx : RawEv wa (some ⟨b, o, none⟩) S := fun h0 => ⟨b, o, rfl, fun j v hv => by rw [Bwa.cell (World.block_lt_of_cell? _ _ (HX.out.2.1 j v hv))]; exact HX.out.2.1 j v hv⟩
          obtain ⟨bb, oo, hbo, e⟩ := RawEv.at_ hrx HX.out.1
          cases hbo
          rw [Nat.mul_comm 8 i] at e
          exact e : wa.cell? ⟨b, o + i * 8, none⟩ = some (.int .i64 x.e.writer) ∧ wa.cell? ⟨b, o + i * 8 + 1, none⟩ = some (.int .u64 (x.e.seq : Int)) ∧ wa.cell? ⟨b, o + i * 8 + 2, none⟩ = some (.int .u64 (x.e.time : Int)) ∧ wa.cell? ⟨b, o + i * 8 + 3, none⟩ = some (.int .u8 (x.e.kind : Int)) ∧ wa.cell? ⟨b, o + i * 8 + 4, none⟩ = some (.string x.e.key) ∧ wa.cell? ⟨b, o + i * 8 + 5, none⟩ = some (.slice x.A x.n x.c) ∧ wa.cell? ⟨b, o + i * 8 + 6, none⟩ = some (.float .f64 x.e.num) ∧ wa.cell? ⟨b, o + i * 8 + 7, none⟩ = some (.int .i64 x.e.node)))
        have HOF := Lib.hid (show 0 < i → ∃ b2, A' = some ⟨b2, 0, none⟩ from fun h0 => by obtain ⟨g, hg, _⟩ := own_at8 HOWN.out h0; exact ⟨g, hg⟩)
        have HKC := Lib.hid (own_cap8 HOWN.out)
        have hsf := store_float Tryz.prog
        clear HK HOWN B9 HLE HGE hRl HR HX HH
        go_wp2_with (first | (refine wpList_appE rfl (.tmp 33) (.tmp 36) 24 rfl W.heap.size 32 ie zeroEV Tryz.underlying24 hie hze hsze hbye rfl none 0 0 [] ?hs1 ?hown1 A' k c' (R.take k) ?hx1 ?hl1 ?hq1 ?h631 ?hbase1 ?h1))
        case hs1 => rfl
        case hown1 => exact own_nil8 _ _ _
        case hx1 => rfl
        case hl1 => rw [List.length_take, HRL.out]; omega
        case hq1 => exact HRB.out.take k
        case h631 => omega
        case hbase1 => exact Nat.le_refl _
        intro A1 c1 wa own1 hba
        have Ba := Lib.hid hba
        have HO1 := Lib.hid own1
        obtain ⟨e0, e1, e2, e3, e4, e5, e6, e7⟩ := HXC.out wa hba
        have zin2 : (i : Int) < (n : Int) := by omega
        clear own1 hba
        go_wp2_with (first | (refine wpList_appE rfl (.tmp 38) (.tmp 43) 24 rfl W.heap.size 32 ie zeroEV Tryz.underlying24 hie hze hsze hbye rfl A1 k c1 (R.take k) ?hs2 ?hown2 (some ⟨wa.heap.size, 0, none⟩) 1 1 [x] ?hx2 ?hl2 ?hq2 ?h632 ?hbase2 ?h2))
        case hs2 => rfl
        case hown2 => exact own_below8 HO1.out ((Below.refl _ _).alloc (Nat.le_refl _) _) (Nat.le_refl _)
        case hx2 => rfl
        case hl2 => rfl
        case hq2 =>
          intro _
          refine ⟨wa.heap.size, 0, rfl, fun j v hv => ?_⟩
          rw [Nat.zero_add, cell_of_row _ _ _ _ _ _ (heap_alloc_new wa _)]
          have e : rowsL [x] = x.cells := by simp [rowsL]
          rw [e] at hv
          have hv2 : (x.cells.toArray)[j]? = some v := by rw [List.getElem?_toArray]; exact hv
          exact hv2
        case h632 => omega
        case hbase2 => have := Ba.out.size; simp; omega
        intro A2 c2 wb own2 hbb
        have Bb := Lib.hid ((Ba.out.alloc Ba.out.size (.cells x.cells.toArray 32)).trans hbb)
        have HO2 := Lib.hid own2
        clear own2 hbb e0 e1 e2 e3 e4 e5 e6 e7
        go_wp2_with (first | (refine wpList_sliceL rfl 24 (.tmp 46) (.tmp 47) rfl A' i c' k 8 rfl rfl hk elemEv sizeEv ?_))
        intro A5 hA5
        have HA5 := Lib.hid hA5
        clear hA5
        go_wp2_with (first | (refine wpList_appE rfl (.tmp 45) (.tmp 48) 24 rfl W.heap.size 32 ie zeroEV Tryz.underlying24 hie hze hsze hbye rfl A2 (k + 1) c2 (R.take k ++ [x]) ?hs4 ?hown4 A5 (i - k) (c' - k) (R.drop k) ?hx4 ?hl4 ?hq4 ?h634 ?hbase4 ?h4))
        case hs4 => rfl
        case hown4 => exact HO2.out
        case hx4 => rfl
        case hl4 => rw [List.length_drop, HRL.out]
        case hq4 =>
          intro h0
          have hki : k < i := by rw [List.length_drop, HRL.out] at h0; omega
          obtain ⟨b2, hb2⟩ := HOF.out (by omega)
          have h5 := HA5.out b2 0 hki HKC.out.1 hb2
          have hr := RawEv.drop (k := k) (w := wb) (b := b2) (o := 0) (S := R) (by rw [← hb2]; exact RawEv.of_own (own_below8 HOWN2.out Bb.out (Nat.le_refl _))) (by rw [HRL.out]; exact hki)
          rw [h5]
          exact hr h0
        case h634 => omega
        case hbase4 => exact Bb.out.size
        intro A3 c3 wc own3 hbc
        rw [show R.take k ++ x :: R.drop k = R.take k ++ [x] ++ R.drop k by simp] at own3
        obtain ⟨N, hN1, hN2, HF9⟩ := HDN.out A3 c3 wc own3 (Bb.out.trans hbc)
        rw [← hN1]
        have HN2 := Lib.hid hN2
        clear own3 hbc HDN hN1 hN2 HA5 HO2 Bb HO1 Ba HXC HRB HOF HKC HRL HOWN2 hie hze hsze hbye hkc hsf hk
        go_wp2
        rw [HN2.out]
        go_roundw
        case rel => exact ⟨i + 1, A3, c3, _, rfl, rfl, by omega, HF9⟩
        case measure => simp [intOf]; omega
    · obtain rfl : i = n := by omega
      have HF := Lib.hid (And.intro HR.out.1 (And.intro (by have h := HR.out.2.1; rwa [List.take_of_length_le (by rw [← HH.out.2]; exact Nat.le_refl _)] at h : R.Perm S) HR.out.2.2))
      clear HR HH
      go_wp2
      go_ret
      exact ⟨A', c', R, rfl, HF.out.1, HF.out.2.1, HF.out.2.2.1, HF.out.2.2.2⟩
end Go.Proofs.YtmogoopkjkdkgaaGreat.Ord
namespace Go.Proofs.YtmogoopkjkdkgaaGreat.Ord
open Go Go.RowKit Go.Proofs.YtmogoopkjkdkgaaGreat.Words Go.Proofs.YtmogoopkjkdkgaaGreat.Enc Go.Proofs.YtmogoopkjkdkgaaGreat.Evt Go.Proofs.YtmogoopkjkdkgaaGreat.Seg
set_option linter.unusedVariables false
set_option linter.unusedSimpArgs false

theorem flat_take_succ {L : List HV} {i : Nat} (hi : i < L.length) : flat (L.take (i + 1)) = flat (L.take i) ++ L[i].S := by
  unfold flat
  rw [← List.take_append_getElem hi, List.flatMap_append]
  simp
theorem flat_take_le (L : List HV) (i : Nat) : (flat (L.take i)).length ≤ (flat L).length := by
  unfold flat
  conv => rhs; rw [← List.take_append_drop i L]
  rw [List.flatMap_append, List.length_append]
  omega

set_option maxRecDepth 100000 in
set_option maxHeartbeats 4000000 in
theorem refWhole_any {B : Nat} (Al : Option Addr) (cl : Nat) (L : List HV) (w : World) (h : Lists B w Al L) (hB : B ≤ w.heap.size) (hn : L.length ≤ 1000) (hf : (flat L).length ≤ 1000) :
    Calls Tryz.prog 6 #[.slice Al L.length cl] w fun e w' => ∃ A' c' R, e = .returned (.slice A' (flat L).length c') ∧ w'.ownsRow w.heap.size 32 8 (.slice A' (flat L).length c') (flat L).length (rowsL R) ∧ R.Perm (flat L) ∧ Rises R ∧ Below w.heap.size w w' := by
  obtain ⟨N, hN⟩ : ∃ N, N = L.length := ⟨_, rfl⟩
  have HH := Lib.hid (And.intro h hN)
  rw [← hN] at hn ⊢
  have SO := fun (A' : Option Addr) (c' : Nat) (W : World) (hA : W.ownsRow w.heap.size 32 8 (.slice A' (flat L).length c') (flat L).length (rowsL (flat L))) (hW : Below w.heap.size w W) => (by
    refine (refSort_any A' c' (flat L) W (RawEv.of_own hA) hf).mono ?_
    rintro e w' ⟨A2, c2, R, rfl, h1, h2, h3, h4⟩
    refine ⟨A2, c2, R, rfl, Lib.hid ⟨⟨h1.1, ?_⟩, h2, h3, hW.trans (h4.mono hW.size)⟩⟩
    rcases h1.2 with hn | ⟨g, cap, cur, hv, hg, hh, r⟩
    · exact .inl hn
    · exact .inr ⟨g, cap, cur, hv, Nat.le_trans hW.size hg, hh, r⟩ : Calls Tryz.prog 18 #[.slice A' (flat L).length c'] W fun e w' => ∃ A2 c2 R, e = .returned (.slice A2 (flat L).length c2) ∧ Hid (w'.ownsRow w.heap.size 32 8 (.slice A2 (flat L).length c2) (flat L).length (rowsL R) ∧ R.Perm (flat L) ∧ Rises R ∧ Below w.heap.size w w'))
  have HSO := Lib.hid SO
  have HF := Lib.hid hf
  obtain ⟨F, hF⟩ : ∃ F, F = (flat L).length := ⟨_, rfl⟩
  rw [← hF] at HSO ⊢
  have HFL := Lib.hid hF
  clear h hN SO hf hF
  obtain ⟨ie, hie, hze, hsze, hbye⟩ := info_parts infoEv
  go_enter Tryz.func6, Tryz.ntmps6
  go_wp2_with fail
  go_loopw [3, 4] (fun ov iv W => ∃ (i m : Nat) (A' : Option Addr) (c' : Nat), iv = .int .i64 (i : Int) ∧ ov = .slice A' m c' ∧ i ≤ N ∧ Hid (m = (flat (L.take i)).length ∧ W.ownsRow w.heap.size 32 8 (.slice A' m c') m (rowsL (flat (L.take i))) ∧ Below w.heap.size w W)) (fun _ iv _ => N - (intOf iv).toNat)
  case atStart => exact ⟨0, 0, none, 0, rfl, rfl, Nat.zero_le _, Lib.hid ⟨by simp [flat], by simpa [flat] using own_nil8 _ _ _, Below.refl _ _⟩⟩
  case round =>
    obtain ⟨i, m, A', c', rfl, rfl, hi, HR⟩ := hrel
    by_cases hlt : i < N
    · have hiL : i < L.length := by rw [← HH.out.2]; exact hlt
      have hLL := HH.out.1
      obtain ⟨b, o, hb, rfl, hrow⟩ := hLL.row (by omega)
      have hx0 := hrow i L[i] (List.getElem?_eq_getElem hiL)
      have hx := (HR.out.2.2.cell (p := ⟨b, o + i, none⟩) (by show b < _; omega)).trans hx0
      have hLi := (hLL.lie _ (List.getElem_mem hiL)).below (HR.out.2.2.mono hB)
      have HXR := Lib.hid (show RawEv wr L[i].A L[i].S from fun h0 => by
        obtain ⟨b1, o1, h1, h2, h3⟩ := hLi.2 h0
        exact ⟨b1, o1, h2, h3⟩)
      have HT1 := Lib.hid (flat_take_succ hiL)
      have HTL := Lib.hid (flat_take_le L (i + 1))
      generalize L[i] = x at hx HXR HT1
      unfold HV.val at hx
      have zi : (i : Int) < (N : Int) := by omega
      clear hx0 hLi hrow hLL
      go_wp2_with (first | (refine wpList_appE rfl (.tmp 11) (.tmp 15) 24 rfl w.heap.size 32 ie zeroEV Tryz.underlying24 hie hze hsze hbye rfl A' m c' (flat (L.take i)) ?hs ?hown x.A x.S.length x.c x.S ?hx ?hl ?hq ?h63 ?hbase ?h))
      case hs => rfl
      case hown => exact HR.out.2.1
      case hx => rfl
      case hl => rfl
      case hq => exact HXR.out
      case h63 => have h1 := HTL.out; rw [HT1.out, List.length_append] at h1; have := HR.out.1; have := HF.out; omega
      case hbase => exact HR.out.2.2.size
      intro A2 c2 wa own2 hba
      have HR2 := Lib.hid (show m + x.S.length = (flat (L.take (i + 1))).length ∧ wa.ownsRow w.heap.size 32 8 (.slice A2 (m + x.S.length) c2) (m + x.S.length) (rowsL (flat (L.take (i + 1)))) ∧ Below w.heap.size w wa from ⟨by rw [HT1.out, List.length_append, ← HR.out.1], by rw [HT1.out]; exact own2, HR.out.2.2.trans hba⟩)
      clear own2 hba HT1 HXR HTL HR
      generalize m + x.S.length = m2 at HR2 ⊢
      go_wp2
      go_roundw
      case rel => exact ⟨i + 1, m2, A2, c2, by simp, rfl, by omega, HR2⟩
      case measure => simp [intOf]; omega
    · obtain rfl : i = N := by omega
      have htk : L.take i = L := List.take_of_length_le (by rw [← HH.out.2]; exact Nat.le_refl _)
      have hown := HR.out.2.1
      have hm := HR.out.1
      rw [htk] at hown hm
      have hmF : m = F := by rw [hm, HFL.out]
      subst hmF
      have SO2 := HSO.out A' c' wr hown HR.out.2.2
      clear hown hm htk HSO HR
      go_wp2_with fail
      refine SO2.mono ?_
      rintro e w5 ⟨A2, c2, R, rfl, H5⟩
      clear SO2
      go_wp2
      go_ret
      exact ⟨A2, c2, R, rfl, H5.out.1, H5.out.2.1, H5.out.2.2.1, H5.out.2.2.2⟩

/-- Two lists of the same events. -/
structure SameR (w : World) (A : Option Addr) (S : List EvS) : Prop where
  raw : RawEv w A S
  text : ∀ r ∈ S, Sees w r.A r.n r.e.text
theorem SameR.below {w w' : World} {A : Option Addr} {S : List EvS} (h : SameR w A S) (hb : Below w.heap.size w w') : SameR w' A S :=
  ⟨fun h0 => by
    obtain ⟨b, o, h1, h2⟩ := h.raw h0
    exact ⟨b, o, h1, fun j v hv => by rw [hb.cell (World.block_lt_of_cell? _ _ (h2 j v hv))]; exact h2 j v hv⟩, fun r hr => (h.text r hr).below hb⟩
end Go.Proofs.YtmogoopkjkdkgaaGreat.Ord
namespace Go.Proofs.YtmogoopkjkdkgaaGreat.Vw
open Go Go.RowKit Go.Proofs.YtmogoopkjkdkgaaGreat.Words Go.Proofs.YtmogoopkjkdkgaaGreat.Enc Go.Proofs.YtmogoopkjkdkgaaGreat.Q Go.Proofs.YtmogoopkjkdkgaaGreat.Evt Go.Proofs.YtmogoopkjkdkgaaGreat.Seg Go.Proofs.YtmogoopkjkdkgaaGreat.Fol
set_option linter.unusedVariables false
set_option linter.unusedSimpArgs false

theorem sum_fit (F : Fo) (k : Key) {x : Nat} (hx : x < 18446744073709551616) : sumOf F k x < 18446744073709551616 ∧ qb (sumOf F k x) = sumOf F k x := by
  unfold sumOf
  split
  · split
    · exact ⟨ob_lt _ _, qb_ob _⟩
    · exact ⟨qb_lt x hx, qb_qb x⟩
  · exact ⟨qb_lt x hx, qb_qb x⟩
theorem ok_apply {F : Fo} {e : Ev} (ok : Ok F) (hq : e.num < 18446744073709551616) : Ok (applyF F e) := by
  unfold applyF
  split
  · rename_i h
    have hr : rightE e = 0 := by
      unfold applyE at h
      by_cases h1 : rightE e = 0
      · exact h1
      · rw [if_pos h1] at h; exact absurd h h1
    have hR := (right_iff e).1 hr
    have hk : e.kind ≤ 4 → e.key.data.toList.length ≤ 64 := fun h4 => by have := (hR.key h4).2; rw [show e.key.data.toList.length = e.key.size by simp]; exact this
    have hc : Ok (change F e) := by
      unfold change
      split
      · rename_i h1; exact ok_ins ok (hk (by omega)) ⟨hR.text h1, by show (0 : Nat) < _; omega, .inl rfl, qb_zero⟩
      · split
        · rename_i h2; exact ok_ins ok (hk (by omega)) ⟨by simp, qb_lt _ hq, .inr rfl, qb_qb _⟩
        · split
          · rename_i h3; exact ok_ins ok (hk (by omega)) ⟨by simp, (sum_fit F _ hq).1, .inr rfl, (sum_fit F _ hq).2⟩
          · split
            · exact ok_del ok _
            · split
              · exact ok_J ok _
              · exact ok_R ok _
    have h1 := ok_H hc e.writer.toNat hR.s2
    have h2 := ok_time h1 hR.t2
    have h3 := ok_wr h2 (t := e.writer.toNat) (by have := hR.w2; omega)
    have h4 := ok_mark h3 (hashL_lt (evL e) ok.mark)
    have e1 : (change F e).H = F.H := by unfold change; split; rfl; split; rfl; split; rfl; split; rfl; split <;> rfl
    have h5 := h4.h
    have h6 := h4.hs
    simp only [e1] at h5 h6
    exact ⟨h4.rise, h4.j, h4.r, h5, h6, h4.time, h4.wr, h4.mark, h4.cel, h4.plain⟩
  · exact ok
theorem ok_all {l : List Ev} (hq : ∀ e ∈ l, e.num < 18446744073709551616) {F : Fo} (ok : Ok F) : Ok (applyAll F l) := by
  unfold applyAll
  induction l generalizing F with
  | nil => exact ok
  | cons e r ih => exact ih (fun x hx => hq x (List.mem_cons_of_mem _ hx)) (ok_apply ok (hq e List.mem_cons_self))
theorem all_len {l : List Ev} (hq : ∀ e ∈ l, e.num < 18446744073709551616) {F : Fo} (ok : Ok F) : (applyAll F l).L.length ≤ F.L.length + l.length := by
  unfold applyAll
  induction l generalizing F with
  | nil => exact Nat.le_refl _
  | cons e r ih =>
    have h1 := ih (fun x hx => hq x (List.mem_cons_of_mem _ hx)) (ok_apply ok (hq e List.mem_cons_self))
    have h2 := apply_len (e := e) ok
    rw [List.foldl_cons, List.length_cons]
    omega
end Go.Proofs.YtmogoopkjkdkgaaGreat.Vw
namespace Go.Proofs.YtmogoopkjkdkgaaGreat.Fol
open Go Go.RowKit Go.Proofs.YtmogoopkjkdkgaaGreat.Words Go.Proofs.YtmogoopkjkdkgaaGreat.Enc Go.Proofs.YtmogoopkjkdkgaaGreat.Q Go.Proofs.YtmogoopkjkdkgaaGreat.Evt
set_option linter.unusedVariables false
set_option linter.unusedSimpArgs false

/-- What a key has in the document's list. -/
structure RC where
  kind : Nat
  A : Option Addr
  c : Nat
  text : List UInt8
  num : Nat
def RC.cel (m : RC) : Cel := ⟨m.kind, m.text, qb m.num⟩
def keyV (k : Key) : Value := .string ⟨k.toArray⟩
def rcCells (p : Key × RC) : List Value := [keyV p.1, .int .u8 (p.2.kind : Int), .slice p.2.A p.2.text.length p.2.c, .float .f64 p.2.num]
def rowsR (L : List (Key × RC)) : List Value := L.flatMap rcCells
theorem rowsR_len (L : List (Key × RC)) : (rowsR L).length = L.length * 4 := by
  induction L with
  | nil => rfl
  | cons p r ih => simp only [rowsR, List.flatMap_cons, List.length_append, List.length_cons] at ih ⊢; rw [ih]; simp [rcCells]; omega
theorem rowsR_append (L M : List (Key × RC)) : rowsR (L ++ M) = rowsR L ++ rowsR M := by simp [rowsR]
theorem rowsR_one (L : List (Key × RC)) : ∀ u ∈ rowsR L, u.oneCell' = true := by
  intro u hu
  obtain ⟨p, _, hp⟩ := List.mem_flatMap.1 hu
  simp only [rcCells, List.mem_cons, List.not_mem_nil, or_false] at hp
  rcases hp with rfl | rfl | rfl | rfl <;> rfl
theorem rowsR_take (L : List (Key × RC)) (k : Nat) : rowsR (L.take k) = (rowsR L).take (k * 4) := by
  induction k generalizing L with
  | zero => simp [rowsR]
  | succ k ih =>
    cases L with
    | nil => simp [rowsR]
    | cons p r =>
      have h := ih r
      simp only [rowsR, List.take_succ_cons, List.flatMap_cons] at h ⊢
      rw [h, show (k + 1) * 4 = (rcCells p).length + k * 4 by simp [rcCells]; omega, List.take_length_add_append]
theorem rowsR_drop (L : List (Key × RC)) (k : Nat) : rowsR (L.drop k) = (rowsR L).drop (k * 4) := by
  induction k generalizing L with
  | zero => simp [rowsR]
  | succ k ih =>
    cases L with
    | nil => simp [rowsR]
    | cons p r =>
      have h := ih r
      simp only [rowsR, List.drop_succ_cons, List.flatMap_cons] at h ⊢
      rw [h, show (k + 1) * 4 = (rcCells p).length + k * 4 by simp [rcCells]; omega, List.drop_length_add_append]
theorem rowsR_get {L : List (Key × RC)} {j : Nat} {p : Key × RC} (h : L[j]? = some p) {k : Nat} {v : Value} (hk : k < 4) (hv : (rcCells p)[k]? = some v) : (rowsR L)[j * 4 + k]? = some v := by
  induction L generalizing j with
  | nil => cases h
  | cons q r ih =>
    simp only [rowsR, List.flatMap_cons]
    cases j with
    | zero =>
      simp at h
      subst h
      rw [List.getElem?_append_left (by simp [rcCells]; omega)]
      simpa using hv
    | succ j =>
      rw [List.getElem?_append_right (by simp [rcCells]; omega), show (j + 1) * 4 + k - (rcCells q).length = j * 4 + k by simp [rcCells]; omega]
      exact ih (by simpa using h)
theorem key_less (a k : Key) : Op.bytesLess (⟨a.toArray⟩ : ByteArray).toList (⟨k.toArray⟩ : ByteArray).toList = decide (a < k) := by rw [bytes_toList, bytes_toList, bytesLess_eq]
theorem key_beq (a k : Key) : ((⟨a.toArray⟩ : ByteArray).toList == (⟨k.toArray⟩ : ByteArray).toList) = decide (a = k) := by rw [bytes_toList, bytes_toList, str_beq]

theorem below_drewN {B : Nat} {a w : World} (h : Below B a w) (q : Nat) : Below B a (w.drewN q) := ⟨h.os, h.tape, h.output, h.size, h.block⟩
set_option maxRecDepth 100000 in
set_option maxHeartbeats 2000000 in
theorem find_any (La : Option Addr) (lc : Nat) (L : List (Key × RC)) (k : Key) (v1 v2 v3 v4 v5 v6 : Value) (S : List Nat) (w : World) (hs : SeesV w S La (rowsR L)) (hn : L.length ≤ 1000000) (h1 : ∀ v ∈ [v1, v2, v3, v4, v5, v6], v.oneCell' = true) :
    Calls Tryz.prog 90 #[.agg #[.slice La L.length lc, v1, v2, v3, v4, v5, v6], keyV k] w fun e w' => e = .returned (.tuple #[.int .i64 (idx k L : Int), .bool (there k L)]) ∧ Below w.heap.size w w' := by
  obtain ⟨n, hnl⟩ : ∃ n, n = L.length := ⟨_, rfl⟩
  rw [← hnl] at hn ⊢
  have hb : Below w.heap.size w (w.alloc (.cells #[.slice La n lc, v1, v2, v3, v4, v5, v6] 60)) := (Below.refl _ _).alloc (Nat.le_refl _) _
  have HS := Lib.hid (hs.below hb)
  have HN := Lib.hid hnl
  have HB := Lib.hid hb
  have hcell : (w.alloc (.cells #[.slice La n lc, v1, v2, v3, v4, v5, v6] 60)).cell? ⟨w.heap.size, 0, none⟩ = some (.slice La n lc) := by
    rw [cell_of_row _ _ _ _ _ _ (heap_alloc_new w _)]; rfl
  obtain ⟨u, hu⟩ : ∃ u, u = w.alloc (.cells #[.slice La n lc, v1, v2, v3, v4, v5, v6] 60) := ⟨_, rfl⟩
  rw [← hu] at HS HB hcell
  have HU := Lib.hid hu
  obtain ⟨kb, hkb⟩ : ∃ kb : ByteArray, kb = ⟨k.toArray⟩ := ⟨_, rfl⟩
  unfold keyV
  rw [← hkb]
  have HK := Lib.hid hkb
  obtain ⟨I, hI⟩ : ∃ I, I = idx k L := ⟨_, rfl⟩
  obtain ⟨T, hT⟩ : ∃ T, T = there k L := ⟨_, rfl⟩
  rw [← hI, ← hT]
  have HI := Lib.hid hI
  have HT := Lib.hid hT
  clear hs hb hnl hu hkb hI hT h1
  go_enter Tryz.func90, Tryz.ntmps90
  go_wp2_with fail
  rw [← HU.out]
  go_loopw [6] (fun y wr => ∃ j : Nat, y = .int .i64 (j : Int) ∧ j ≤ n ∧ Hid (∀ i p, i < j → L[i]? = some p → p.1 < k) ∧ u = wr) (fun y _ => n - (intOf y).toNat)
  case atStart => exact ⟨0, rfl, by omega, Lib.hid fun i p hi => by omega, rfl⟩
  case round =>
    obtain ⟨j, rfl, hj, HJ, rfl⟩ := hrel
    by_cases hlt : j < n
    · obtain ⟨p, hp⟩ : ∃ p, L[j]? = some p := ⟨_, List.getElem?_eq_getElem (by rw [← HN.out]; exact hlt)⟩
      obtain ⟨b, o, rfl, hc⟩ := HS.out.get (rowsR_get hp (k := 0) (v := keyV p.1) (by omega) rfl)
      unfold keyV at hc
      obtain ⟨pb, hpb⟩ : ∃ pb : ByteArray, pb = ⟨p.1.toArray⟩ := ⟨_, rfl⟩
      rw [← hpb] at hc
      rw [Nat.add_zero] at hc
      have hd : decide ((j : Int) < (n : Int)) = true := decide_eq_true (by omega)
      have hless : Op.bytesLess pb.toList kb.toList = decide (p.1 < k) := by rw [hpb, HK.out]; exact key_less _ _
      have hbeq : (pb.toList == kb.toList) = decide (p.1 = k) := by rw [hpb, HK.out]; exact key_beq _ _
      have HP := Lib.hid hp
      by_cases hk : p.1 < k
      · rw [decide_eq_true hk] at hless
        have HJ2 := Lib.hid (fun (i : Nat) (q : Key × RC) (hi : i < j + 1) (hq : L[i]? = some q) => (by
          rcases Nat.lt_or_ge i j with h | h
          · exact HJ.out i q h hq
          · obtain rfl : i = j := by omega
            rw [hp] at hq
            injection hq with hq
            subst hq
            exact hk : q.1 < k))
        clear hpb hp hbeq hk
        go_wp2
        go_roundw
        case rel => exact ⟨j + 1, by simp, by omega, HJ2, by trivial⟩
        case measure => simp [intOf]; omega
      · rw [decide_eq_false hk] at hless
        have hij : j = I := by
          rw [HI.out]
          exact idx_is (by rw [← HN.out]; omega) HJ.out fun q hq => by rw [hp] at hq; injection hq with hq; subst hq; exact hk
        have hth : decide (p.1 = k) = T := by
          rw [HT.out]
          unfold there
          rw [← HI.out, ← hij, hp]
        rw [hth] at hbeq
        have HIJ := Lib.hid hij
        clear hpb hp hk hij hth
        go_wp2
        go_region
        go_wp2
        go_ret2
        exact ⟨by rw [← HIJ.out]; rfl, below_drewN HB.out _⟩
    · obtain rfl : j = n := by omega
      have hd : decide ((j : Int) < (j : Int)) = false := decide_eq_false (by omega)
      have hij : j = I := by
        rw [HI.out]
        exact idx_is (by rw [← HN.out]; exact Nat.le_refl _) HJ.out fun q hq => by
          have := (List.getElem?_eq_some_iff.1 hq).1
          rw [← HN.out] at this; omega
      have hth : T = false := by
        rw [HT.out]
        unfold there
        rw [← HI.out, ← hij, List.getElem?_eq_none (by rw [← HN.out]; exact Nat.le_refl _)]
      subst hth
      have HIJ := Lib.hid hij
      clear hij
      go_wp2
      go_quiet (fail)
      go_wp2
      go_ret2
      exact ⟨by rw [← HIJ.out]; rfl, below_drewN HB.out _⟩
end Go.Proofs.YtmogoopkjkdkgaaGreat.Fol
