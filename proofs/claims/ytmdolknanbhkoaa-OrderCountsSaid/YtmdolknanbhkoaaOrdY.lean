/- Order: the law OrderCounts. -/
import Derived.Test.YtmdolknanbhkoaaOrdV
import Derived.Test.YtmdolknanbhkoaaOrdFb
import Derived.Test.YtmdolknanbhkoaaOrdW
namespace Go.Proofs.Ytmdolknanbhkoaa.Ord
open Go Go.RowKit Go.Proofs.Ytmdolknanbhkoaa.Words Go.Proofs.Ytmdolknanbhkoaa.Enc Go.Proofs.Ytmdolknanbhkoaa.Evt Go.Proofs.Ytmdolknanbhkoaa.Seg
set_option linter.unusedVariables false
set_option linter.unusedSimpArgs false

theorem misses_succ (p : Nat → Bool) (k : Nat) : misses p (k + 1) = misses p k + (if p k = true then 0 else 1) := by
  unfold misses
  rw [List.range_succ, List.countP_append]
  cases h : p k <;> simp [h]
theorem misses_le (p : Nat → Bool) (k : Nat) : misses p k ≤ k := by
  unfold misses
  exact Nat.le_trans List.countP_le_length (by simp)
theorem feeds_lists {B0 lb wn i m ob : Nat} {w0 W : World} {L : List HV} {T : List Nat} (h : FeedsAt B0 ob lb wn w0 i m L T W) (hi : i ≤ 60) :
    Lists W.heap.size W (some ⟨ob, 0, none⟩) L ∧ (∀ x ∈ L, Rises x.S) ∧ (∀ x ∈ L, x.S.length ≤ 60) ∧ L.length = wn := by
  refine ⟨⟨fun hn => ⟨ob, 0, (Array.getElem?_eq_some_iff.1 h.out).1, rfl, fun k x hx => ?_⟩, fun x hx => ⟨?_, fun h0 => ?_⟩⟩, fun x hx => ?_, fun x hx => ?_, h.lenL⟩
  · rw [Nat.zero_add, cell_of_row W ob _ _ _ _ h.out, List.getElem?_toArray, List.getElem?_map, hx]; rfl
  · exact own_cap8 (h.own x hx)
  · obtain ⟨g, hg, _⟩ := own_at8 (h.own x hx) h0
    have hr := RawEv.of_own (h.own x hx) h0
    obtain ⟨b, o, hA, hc⟩ := hr
    refine ⟨b, o, ?_, hA, hc⟩
    have h1 : 0 < (rowsL x.S).length := by rw [rowsL_len]; omega
    have := World.block_lt_of_cell? _ _ (hc 0 _ (List.getElem?_eq_getElem h1))
    simpa using this
  · obtain ⟨k, hk, rfl⟩ := List.getElem_of_mem hx
    obtain ⟨t, ht⟩ : ∃ t, T[k]? = some t := ⟨_, List.getElem?_eq_getElem (by rw [h.lenT, ← h.lenL]; exact hk)⟩
    exact (h.good k _ _ (List.getElem?_eq_getElem hk) ht).rise.imp fun h => .inl h
  · have h2 : x.S.length ≤ (flat L).length := by
      obtain ⟨s, t, e⟩ := List.append_of_mem hx
      unfold flat
      rw [e, List.flatMap_append, List.length_append, List.flatMap_cons, List.length_append]
      omega
    rw [h.few] at h2
    omega

set_option maxRecDepth 100000 in
set_option maxHeartbeats 8000000 in
theorem counts_law (A : Option Addr) (n c : Nat) (l : List Nat) (ws tm : Nat) (near : Bool) (w : World) (h : SeesH w A n l) (hws : ws < 256) (htm : tm < 18446744073709551616) :
    Calls Try.prog 6 #[.slice A n c, .int .u8 (ws : Int), .int .u64 (tm : Int), .bool near] w fun e w' => e = .returned (.bool true) ∧ Below w.heap.size w w' := by
  have AW := awake_yes w
  have hnot : ∀ (x : Bool) (w : World), (Op.unary .not (.bool x)).run Try.prog w = .ok (.bool (!x)) w := fun _ _ => rfl
  by_cases hbig : 60 < n
  · have zb : (60 : Int) < (n : Int) := by omega
    have AW2 := fun w => awake_yes w
    clear h
    go_enter Try.func6, Try.ntmps6
    go_wp2_with fail
    refine AW.mono ?_
    rintro e w1 ⟨rfl, hb1⟩
    go_wp2_with fail
    refine (AW2 w1).mono ?_
    rintro e w2 ⟨rfl, hb2⟩
    have HF := Lib.hid (hb1.trans (hb2.mono hb1.size))
    clear hb1 hb2
    go_wp2
    go_ret
    exact ⟨rfl, HF.out⟩
  · have zb : ¬ (60 : Int) < (n : Int) := by omega
    obtain ⟨wn, hwn⟩ : ∃ wn, wn = 1 + ws % 6 := ⟨_, rfl⟩
    have zw : (1 : Int) + (ws : Int) % 6 = (wn : Int) := by omega
    have zw1 : 1 ≤ wn := by omega
    have zw6 : wn ≤ 6 := by omega
    have hn60 : n ≤ 60 := by omega
    have FE : ∀ W, Below w.heap.size w W → Calls Try.prog 9 #[.slice A n c, .int .i64 (wn : Int)] W fun e w' => e = .returned (.slice (some ⟨W.heap.size, 0, none⟩) wn wn) ∧ ∃ L T, FeedsAt W.heap.size W.heap.size (W.heap.size + 1) wn W n (4 * n) L T w' := fun W hW => by
      refine (feeds_any A n c wn l W (h.below hW) hn60 zw1 zw6).mono ?_
      rintro e w' ⟨L, T, rfl, hF⟩
      exact ⟨rfl, L, T, hF⟩
    have HFE := Lib.hid FE
    clear FE h hwn hbig
    cases near with
    | false =>
      go_enter Try.func6, Try.ntmps6
      go_wp2_with fail
      refine AW.mono ?_
      rintro e W1 ⟨rfl, hb1⟩
      have HB1 := Lib.hid hb1
      clear hb1 AW
      go_wp2_with fail
      refine (HFE.out W1 HB1.out).mono ?_
      rintro e w2 ⟨rfl, L, T, hF⟩
      have HBx := Lib.hid (HB1.out.trans (hF.below.mono HB1.out.size))
      obtain ⟨hLi, hRi, hLe, hLn⟩ := feeds_lists hF (by omega)
      have UP := counts_any (some ⟨W1.heap.size, 0, none⟩) wn L tm w2 hLi hRi (fun x hx => Nat.le_trans (hLe x hx) (by omega)) (by omega)
      rw [hLn] at UP
      have HX := Lib.hid (And.intro hLi (And.intro hLn hLe))
      clear hF hLi hRi hLe hLn
      go_wp2_with fail
      refine UP.mono ?_
      rintro e w3 ⟨rfl, hC, hb3⟩
      have HB3 := Lib.hid (HBx.out.trans (hb3.mono HBx.out.size))
      have HX3 := Lib.hid (And.intro (HX.out.1.below hb3) hC)
      clear hC hb3 UP
      have zww : ((wn : Int) == (wn : Int)) = true := by simp
      go_wp2_with fail
      go_loopw [11] (fun iv W => ∃ i : Nat, iv = .int .i64 (i : Int) ∧ i ≤ wn ∧ w3 = W) (fun iv _ => wn - (intOf iv).toNat)
      case atStart => exact ⟨0, rfl, Nat.zero_le _, rfl⟩
      case round =>
        obtain ⟨i, rfl, hi, rfl⟩ := hrel
        by_cases hlt : i < wn
        · obtain ⟨x, hx⟩ : ∃ x, L[i]? = some x := ⟨_, List.getElem?_eq_getElem (by rw [HX.out.2.1]; exact hlt)⟩
          have hxm := List.mem_of_getElem? hx
          have hxl := HX.out.2.2 x hxm
          obtain ⟨lb, lo, hlb, hAe, hcell⟩ := HX3.out.1.row (by rw [HX.out.2.1]; omega)
          cases hAe
          have hxc := hcell i x hx
          rw [Nat.zero_add] at hxc
          obtain ⟨C, q1, q2, q3⟩ := HX3.out.2.ex
          have hgc : w3.cell? ⟨w2.heap.size + 1, i, none⟩ = some (.int .i64 (cntOf tm x.S : Int)) := by
            rw [cell_of_row w3 _ i _ _ _ q1, List.getElem?_toArray]
            unfold isL
            rw [List.getElem?_map, q3 i x hlt hx]; rfl
          have hlie := HX3.out.1.lie x hxm
          obtain ⟨m, hm⟩ : ∃ m, m = x.S.length := ⟨_, rfl⟩
          have hxv : x.val = .slice x.A m x.c := by rw [hm]; rfl
          rw [hxv] at hxc
          rw [← hm] at hxl
          have zi : (i : Int) < (wn : Int) := by omega
          have zi0 : (0 : Int) ≤ (i : Int) := by omega
          have HM := Lib.hid (And.intro hm hlie)
          clear hm hlie hxv q1 q2 q3 hcell hxm hx
          go_wp2_with fail
          go_loopw [12, 13] (fun nv kv W => ∃ k : Nat, kv = .int .i64 (k : Int) ∧ nv = .int .i64 (misses (fun i => decide (tm < (evAt x.S i).e.time)) k : Int) ∧ k ≤ m ∧ w3 = W) (fun _ kv _ => m - (intOf kv).toNat)
          case atStart => exact ⟨0, rfl, rfl, Nat.zero_le _, rfl⟩
          case round =>
            obtain ⟨k, rfl, rfl, hk, rfl⟩ := hrel
            by_cases hlk : k < m
            · obtain ⟨b, o, _, hA, hc⟩ := HM.out.2.2 (by rw [← HM.out.1]; omega)
              have c3 := (RawEv.cells_at (w := w3) hc (k := k) (by rw [← HM.out.1]; exact hlk)).2.2.1
              rw [hA] at hxc
              have hms := misses_succ (fun i => decide (tm < (evAt x.S i).e.time)) k
              have hmle := misses_le (fun i => decide (tm < (evAt x.S i).e.time)) k
              generalize misses (fun i => decide (tm < (evAt x.S i).e.time)) k = ms at *
              generalize (evAt x.S k).e.time = tk at *
              have zk : (k : Int) < (m : Int) := by omega
              have zk0 : (0 : Int) ≤ (k : Int) := by omega
              have zms : (ms : Int) ≤ 1000000 := by omega
              by_cases ht : tk ≤ tm
              · have hd : decide (tm < tk) = false := decide_eq_false (by omega)
                rw [hd] at hms
                have HMS := Lib.hid hms
                clear hms hd hc hA hmle
                go_wp2
                go_roundw
                case rel => exact ⟨k + 1, rfl, by rw [HMS.out]; simp, by omega, trivial⟩
                case measure => simp [intOf]; omega
              · have hd : decide (tm < tk) = true := decide_eq_true (by omega)
                rw [hd] at hms
                have HMS := Lib.hid hms
                clear hms hd hc hA hmle
                go_wp2
                go_roundw
                case rel => exact ⟨k + 1, rfl, by rw [HMS.out]; simp, by omega, trivial⟩
                case measure => simp [intOf]; omega
            · have hkm : k = m := by omega
              have hce : misses (fun i => decide (tm < (evAt x.S i).e.time)) k = cntOf tm x.S := by rw [hkm, HM.out.1]; rfl
              rw [hce]
              generalize cntOf tm x.S = ct at *
              have zct : ((ct : Int) == (ct : Int)) = true := by simp
              subst hkm
              clear hce
              go_wp2
              go_roundw
              case rel => exact ⟨i + 1, rfl, by omega, trivial⟩
              case measure => simp [intOf]; omega
        · have hin : i = wn := by omega
          subst hin
          go_wp2
          go_ret
          exact ⟨rfl, HB3.out⟩
    | true =>
      obtain ⟨t2, ht2⟩ : ∃ t2, t2 = tm % 60 := ⟨_, rfl⟩
      have zt2 : (tm : Int) % 60 = (t2 : Int) := by omega
      clear ht2
      go_enter Try.func6, Try.ntmps6
      go_wp2_with fail
      refine AW.mono ?_
      rintro e W1 ⟨rfl, hb1⟩
      have HB1 := Lib.hid hb1
      clear hb1 AW
      go_wp2_with fail
      refine (HFE.out W1 HB1.out).mono ?_
      rintro e w2 ⟨rfl, L, T, hF⟩
      have HBx := Lib.hid (HB1.out.trans (hF.below.mono HB1.out.size))
      obtain ⟨hLi, hRi, hLe, hLn⟩ := feeds_lists hF (by omega)
      have UP := counts_any (some ⟨W1.heap.size, 0, none⟩) wn L t2 w2 hLi hRi (fun x hx => Nat.le_trans (hLe x hx) (by omega)) (by omega)
      rw [hLn] at UP
      have HX := Lib.hid (And.intro hLi (And.intro hLn hLe))
      clear hF hLi hRi hLe hLn
      go_wp2_with fail
      refine UP.mono ?_
      rintro e w3 ⟨rfl, hC, hb3⟩
      have HB3 := Lib.hid (HBx.out.trans (hb3.mono HBx.out.size))
      have HX3 := Lib.hid (And.intro (HX.out.1.below hb3) hC)
      clear hC hb3 UP
      have zww : ((wn : Int) == (wn : Int)) = true := by simp
      go_wp2_with fail
      go_loopw [11] (fun iv W => ∃ i : Nat, iv = .int .i64 (i : Int) ∧ i ≤ wn ∧ w3 = W) (fun iv _ => wn - (intOf iv).toNat)
      case atStart => exact ⟨0, rfl, Nat.zero_le _, rfl⟩
      case round =>
        obtain ⟨i, rfl, hi, rfl⟩ := hrel
        by_cases hlt : i < wn
        · obtain ⟨x, hx⟩ : ∃ x, L[i]? = some x := ⟨_, List.getElem?_eq_getElem (by rw [HX.out.2.1]; exact hlt)⟩
          have hxm := List.mem_of_getElem? hx
          have hxl := HX.out.2.2 x hxm
          obtain ⟨lb, lo, hlb, hAe, hcell⟩ := HX3.out.1.row (by rw [HX.out.2.1]; omega)
          cases hAe
          have hxc := hcell i x hx
          rw [Nat.zero_add] at hxc
          obtain ⟨C, q1, q2, q3⟩ := HX3.out.2.ex
          have hgc : w3.cell? ⟨w2.heap.size + 1, i, none⟩ = some (.int .i64 (cntOf t2 x.S : Int)) := by
            rw [cell_of_row w3 _ i _ _ _ q1, List.getElem?_toArray]
            unfold isL
            rw [List.getElem?_map, q3 i x hlt hx]; rfl
          have hlie := HX3.out.1.lie x hxm
          obtain ⟨m, hm⟩ : ∃ m, m = x.S.length := ⟨_, rfl⟩
          have hxv : x.val = .slice x.A m x.c := by rw [hm]; rfl
          rw [hxv] at hxc
          rw [← hm] at hxl
          have zi : (i : Int) < (wn : Int) := by omega
          have zi0 : (0 : Int) ≤ (i : Int) := by omega
          have HM := Lib.hid (And.intro hm hlie)
          clear hm hlie hxv q1 q2 q3 hcell hxm hx
          go_wp2_with fail
          go_loopw [12, 13] (fun nv kv W => ∃ k : Nat, kv = .int .i64 (k : Int) ∧ nv = .int .i64 (misses (fun i => decide (t2 < (evAt x.S i).e.time)) k : Int) ∧ k ≤ m ∧ w3 = W) (fun _ kv _ => m - (intOf kv).toNat)
          case atStart => exact ⟨0, rfl, rfl, Nat.zero_le _, rfl⟩
          case round =>
            obtain ⟨k, rfl, rfl, hk, rfl⟩ := hrel
            by_cases hlk : k < m
            · obtain ⟨b, o, _, hA, hc⟩ := HM.out.2.2 (by rw [← HM.out.1]; omega)
              have c3 := (RawEv.cells_at (w := w3) hc (k := k) (by rw [← HM.out.1]; exact hlk)).2.2.1
              rw [hA] at hxc
              have hms := misses_succ (fun i => decide (t2 < (evAt x.S i).e.time)) k
              have hmle := misses_le (fun i => decide (t2 < (evAt x.S i).e.time)) k
              generalize misses (fun i => decide (t2 < (evAt x.S i).e.time)) k = ms at *
              generalize (evAt x.S k).e.time = tk at *
              have zk : (k : Int) < (m : Int) := by omega
              have zk0 : (0 : Int) ≤ (k : Int) := by omega
              have zms : (ms : Int) ≤ 1000000 := by omega
              by_cases ht : tk ≤ t2
              · have hd : decide (t2 < tk) = false := decide_eq_false (by omega)
                rw [hd] at hms
                have HMS := Lib.hid hms
                clear hms hd hc hA hmle
                go_wp2
                go_roundw
                case rel => exact ⟨k + 1, rfl, by rw [HMS.out]; simp, by omega, trivial⟩
                case measure => simp [intOf]; omega
              · have hd : decide (t2 < tk) = true := decide_eq_true (by omega)
                rw [hd] at hms
                have HMS := Lib.hid hms
                clear hms hd hc hA hmle
                go_wp2
                go_roundw
                case rel => exact ⟨k + 1, rfl, by rw [HMS.out]; simp, by omega, trivial⟩
                case measure => simp [intOf]; omega
            · have hkm : k = m := by omega
              have hce : misses (fun i => decide (t2 < (evAt x.S i).e.time)) k = cntOf t2 x.S := by rw [hkm, HM.out.1]; rfl
              rw [hce]
              generalize cntOf t2 x.S = ct at *
              have zct : ((ct : Int) == (ct : Int)) = true := by simp
              subst hkm
              clear hce
              go_wp2
              go_roundw
              case rel => exact ⟨i + 1, rfl, by omega, trivial⟩
              case measure => simp [intOf]; omega
        · have hin : i = wn := by omega
          subst hin
          go_wp2
          go_ret
          exact ⟨rfl, HB3.out⟩
end Go.Proofs.Ytmdolknanbhkoaa.Ord
