/- Order: Right: slices.IsSortedFunc of events. -/
import Derived.Test.YtlacihgoammjgaaOrdA
namespace Go.Proofs.Ytlacihgoammjgaa.Ord
open Go Go.RowKit Go.Proofs.Ytlacihgoammjgaa.Words Go.Proofs.Ytlacihgoammjgaa.Enc Go.Proofs.Ytlacihgoammjgaa.Evt Go.Proofs.Ytlacihgoammjgaa.Seg
set_option linter.unusedVariables false
set_option linter.unusedSimpArgs false

def evAt (S : List EvS) (k : Nat) : EvS := S.getD k noEv
/-- No event stands ahead of the one before it. -/
def riseB (S : List EvS) : Bool := (List.range (S.length - 1)).all fun k => !lessB (evAt S (k + 1)) (evAt S k)
theorem riseB_no {S : List EvS} {k : Nat} (hk : k + 1 < S.length) (h : lessB (evAt S (k + 1)) (evAt S k) = true) : riseB S = false := by
  unfold riseB
  rw [List.all_eq_false]
  exact ⟨k, List.mem_range.2 (by omega), by simp [h]⟩
theorem riseB_yes {S : List EvS} (h : ∀ k, k + 1 < S.length → lessB (evAt S (k + 1)) (evAt S k) = false) : riseB S = true := by
  unfold riseB
  rw [List.all_eq_true]
  intro k hk
  have := List.mem_range.1 hk
  simp [h k (by omega)]
theorem evAt_get {S : List EvS} {k : Nat} (hk : k < S.length) : S[k]? = some (evAt S k) := by
  unfold evAt
  rw [List.getD_eq_getElem?_getD, List.getElem?_eq_getElem hk]; rfl
theorem RawEv.cells_at {w : World} {b o : Nat} {S : List EvS} (h : ∀ j v, (rowsL S)[j]? = some v → w.cell? ⟨b, o + j, none⟩ = some v) {k : Nat} (hk : k < S.length) : w.cell? ⟨b, o + k * 8, none⟩ = some (.int .i64 (evAt S k).e.writer) ∧ w.cell? ⟨b, o + k * 8 + 1, none⟩ = some (.int .u64 ((evAt S k).e.seq : Int)) ∧ w.cell? ⟨b, o + k * 8 + 2, none⟩ = some (.int .u64 ((evAt S k).e.time : Int)) ∧ w.cell? ⟨b, o + k * 8 + 3, none⟩ = some (.int .u8 ((evAt S k).e.kind : Int)) ∧ w.cell? ⟨b, o + k * 8 + 4, none⟩ = some (.string (evAt S k).e.key) ∧ w.cell? ⟨b, o + k * 8 + 5, none⟩ = some (.slice (evAt S k).A (evAt S k).n (evAt S k).c) ∧ w.cell? ⟨b, o + k * 8 + 6, none⟩ = some (.float .f64 (evAt S k).e.num) ∧ w.cell? ⟨b, o + k * 8 + 7, none⟩ = some (.int .i64 (evAt S k).e.node) := by
  obtain ⟨b', o', e, q⟩ := RawEv.at_ (S := S) (A := some ⟨b, o, none⟩) (w := w) (fun _ => ⟨b, o, rfl, h⟩) (evAt_get hk)
  cases e
  rw [Nat.mul_comm k 8]
  exact q

set_option maxRecDepth 100000 in
set_option maxHeartbeats 4000000 in
theorem sorted_any (A : Option Addr) (c : Nat) (S : List EvS) (w : World) (h : RawEv w A S) (hn : S.length ≤ 1000000000) :
    Calls Try.prog 33 #[.slice A S.length c, .func (.func 34) #[] #[]] w fun e w' => e = .returned (.bool (riseB S)) ∧ Below w.heap.size w w' := by
  have eg : ∀ args w, (callFunc 34 args).run Try.prog w = .ok (.enter 34 args) w := enters_of Try.func34 (by kernel_rfl) rfl
  by_cases hz : S.length = 0
  · have hr : riseB S = true := riseB_yes fun k hk => by omega
    rw [hz, hr]
    go_enter Try.func33, Try.ntmps33
    go_wp2_with fail
    go_loopw [5] (fun i W => i = .int .i64 (-1) ∧ Hid (Below w.heap.size w W)) (fun i _ => 0)
    case atStart => exact ⟨rfl, Lib.hid (Below.refl _ _)⟩
    case round =>
      obtain ⟨rfl, HB⟩ := hrel
      go_wp2
      go_ret
      exact ⟨rfl, HB.out⟩
  · obtain ⟨b, o, rfl, hc⟩ := h (by omega)
    have NO : ∀ k, k + 1 < S.length → lessB (evAt S (k + 1)) (evAt S k) = true → riseB S = false := fun k => riseB_no
    have YES := fun h => riseB_yes (S := S) h
    have HNO := Lib.hid NO
    have HYES := Lib.hid YES
    have HC := Lib.hid hc
    have CELL : ∀ W, Below w.heap.size w W → ∀ k, k < S.length → W.cell? ⟨b, o + k * 8, none⟩ = some (.int .i64 (evAt S k).e.writer) ∧ W.cell? ⟨b, o + k * 8 + 1, none⟩ = some (.int .u64 ((evAt S k).e.seq : Int)) ∧ W.cell? ⟨b, o + k * 8 + 2, none⟩ = some (.int .u64 ((evAt S k).e.time : Int)) ∧ W.cell? ⟨b, o + k * 8 + 3, none⟩ = some (.int .u8 ((evAt S k).e.kind : Int)) ∧ W.cell? ⟨b, o + k * 8 + 4, none⟩ = some (.string (evAt S k).e.key) ∧ W.cell? ⟨b, o + k * 8 + 5, none⟩ = some (.slice (evAt S k).A (evAt S k).n (evAt S k).c) ∧ W.cell? ⟨b, o + k * 8 + 6, none⟩ = some (.float .f64 (evAt S k).e.num) ∧ W.cell? ⟨b, o + k * 8 + 7, none⟩ = some (.int .i64 (evAt S k).e.node) := fun W hW k hk => RawEv.cells_at (fun j v hv => by rw [hW.cell (World.block_lt_of_cell? _ _ (HC.out j v hv))]; exact HC.out j v hv) hk
    have HCELL := Lib.hid CELL
    clear NO YES hc CELL h
    obtain ⟨n, hn'⟩ : ∃ n, n = S.length := ⟨_, rfl⟩
    rw [← hn'] at hz hn
    have HN := Lib.hid hn'
    rw [← hn']
    clear hn'
    go_enter Try.func33, Try.ntmps33
    go_wp2_with fail
    go_loopw [5] (fun iv W => ∃ i : Nat, iv = .int .i64 (i : Int) ∧ i < n ∧ Hid (Below w.heap.size w W ∧ ∀ k, i ≤ k → k + 1 < n → lessB (evAt S (k + 1)) (evAt S k) = false)) (fun i _ => (intOf i).toNat)
    case atStart => exact ⟨n - 1, by simp; omega, by omega, Lib.hid ⟨Below.refl _ _, fun k h1 h2 => by omega⟩⟩
    case round =>
      obtain ⟨i, rfl, hi, HB⟩ := hrel
      by_cases hi0 : i = 0
      · subst hi0
        have hres := HYES.out fun k hk => HB.out.2 k (by omega) (by rw [HN.out]; exact hk)
        have HF := Lib.hid (And.intro hres HB.out.1)
        clear hres
        go_wp2
        go_ret
        exact ⟨by rw [HF.out.1]; rfl, HF.out.2⟩
      · obtain ⟨q, hq⟩ : ∃ q, i = q + 1 := ⟨i - 1, by omega⟩
        have hx := HCELL.out wr HB.out.1 i (by rw [← HN.out]; omega)
        have hy := HCELL.out wr HB.out.1 q (by rw [← HN.out]; omega)
        have HI := Lib.hid hq
        have zs : (i : Int) - 1 = (q : Int) := by omega
        have zw : IntKind.i64.wrap (q : Int) = (q : Int) := IntWalk.i64_in _ (by omega)
        have zq0 : (0 : Int) ≤ (q : Int) := by omega
        have zqn : (q : Int) < (n : Int) := by omega
        have zin : (i : Int) < (n : Int) := by omega
        have zi0 : (0 : Int) < (i : Int) := by omega
        have hqi : q + 1 < n := by omega
        have XEQ : evAt S (q + 1) = evAt S i := by rw [hq]
        have HX := Lib.hid XEQ
        clear hq XEQ
        generalize hxe : evAt S i = x at hx HX
        generalize hye : evAt S q = y at hy
        obtain ⟨r, hr⟩ : ∃ r, r = cmpS x.e.time x.e.writer y.e.time y.e.writer := ⟨_, rfl⟩
        have hll : lessB x y = decide (r < 0) := by rw [hr]; rfl
        have HF := Lib.hid (And.intro hx hy)
        have HCM : ∀ (W : World), Below wr.heap.size wr W → Calls Try.prog 34 #[.agg #[.int .i64 x.e.writer, .int .u64 (x.e.seq : Int), .int .u64 (x.e.time : Int), .int .u8 (x.e.kind : Int), .string x.e.key, .slice x.A x.n x.c, .float .f64 x.e.num, .int .i64 x.e.node], .agg #[.int .i64 y.e.writer, .int .u64 (y.e.seq : Int), .int .u64 (y.e.time : Int), .int .u8 (y.e.kind : Int), .string y.e.key, .slice y.A y.n y.c, .float .f64 y.e.num, .int .i64 y.e.node]] W fun e w' => e = .returned (.int .i64 r) ∧ Hid (Below w.heap.size w w') ∧ (w'.cell? ⟨b, o + i * 8, none⟩ = some (.int .i64 x.e.writer) ∧ w'.cell? ⟨b, o + i * 8 + 1, none⟩ = some (.int .u64 (x.e.seq : Int)) ∧ w'.cell? ⟨b, o + i * 8 + 2, none⟩ = some (.int .u64 (x.e.time : Int)) ∧ w'.cell? ⟨b, o + i * 8 + 3, none⟩ = some (.int .u8 (x.e.kind : Int)) ∧ w'.cell? ⟨b, o + i * 8 + 4, none⟩ = some (.string x.e.key) ∧ w'.cell? ⟨b, o + i * 8 + 5, none⟩ = some (.slice x.A x.n x.c) ∧ w'.cell? ⟨b, o + i * 8 + 6, none⟩ = some (.float .f64 x.e.num) ∧ w'.cell? ⟨b, o + i * 8 + 7, none⟩ = some (.int .i64 x.e.node)) ∧ w'.cell? ⟨b, o + q * 8, none⟩ = some (.int .i64 y.e.writer) ∧ w'.cell? ⟨b, o + q * 8 + 1, none⟩ = some (.int .u64 (y.e.seq : Int)) ∧ w'.cell? ⟨b, o + q * 8 + 2, none⟩ = some (.int .u64 (y.e.time : Int)) ∧ w'.cell? ⟨b, o + q * 8 + 3, none⟩ = some (.int .u8 (y.e.kind : Int)) ∧ w'.cell? ⟨b, o + q * 8 + 4, none⟩ = some (.string y.e.key) ∧ w'.cell? ⟨b, o + q * 8 + 5, none⟩ = some (.slice y.A y.n y.c) ∧ w'.cell? ⟨b, o + q * 8 + 6, none⟩ = some (.float .f64 y.e.num) ∧ w'.cell? ⟨b, o + q * 8 + 7, none⟩ = some (.int .i64 y.e.node) := fun W hW => by
          rw [hr]
          refine (ordCmp_any x y W).mono ?_
          rintro e w' ⟨rfl, hb⟩
          have hb2 := hW.trans (hb.mono hW.size)
          have old : ∀ {q : Addr} {v : Value}, wr.cell? q = some v → w'.cell? q = some v := fun {q v} hq => by rw [hb2.cell (World.block_lt_of_cell? _ _ hq)]; exact hq
          obtain ⟨⟨e0, e1, e2, e3, e4, e5, e6, e7⟩, d0, d1, d2, d3, d4, d5, d6, d7⟩ := HF.out
          exact ⟨rfl, Lib.hid (HB.out.1.trans (hb2.mono HB.out.1.size)), ⟨old e0, old e1, old e2, old e3, old e4, old e5, old e6, old e7⟩, old d0, old d1, old d2, old d3, old d4, old d5, old d6, old d7⟩
        obtain ⟨e0, e1, e2, e3, e4, e5, e6, e7⟩ := hx
        obtain ⟨d0, d1, d2, d3, d4, d5, d6, d7⟩ := hy
        have HXE := Lib.hid (And.intro hxe hye)
        have HLL := Lib.hid hll
        clear hr hxe hye hll
        go_wp2_with fail
        go_region_held3 (fun w' => (w'.cell? ⟨b, o + i * 8, none⟩ = some (.int .i64 x.e.writer) ∧ w'.cell? ⟨b, o + i * 8 + 1, none⟩ = some (.int .u64 (x.e.seq : Int)) ∧ w'.cell? ⟨b, o + i * 8 + 2, none⟩ = some (.int .u64 (x.e.time : Int)) ∧ w'.cell? ⟨b, o + i * 8 + 3, none⟩ = some (.int .u8 (x.e.kind : Int)) ∧ w'.cell? ⟨b, o + i * 8 + 4, none⟩ = some (.string x.e.key) ∧ w'.cell? ⟨b, o + i * 8 + 5, none⟩ = some (.slice x.A x.n x.c) ∧ w'.cell? ⟨b, o + i * 8 + 6, none⟩ = some (.float .f64 x.e.num) ∧ w'.cell? ⟨b, o + i * 8 + 7, none⟩ = some (.int .i64 x.e.node)) ∧ w'.cell? ⟨b, o + q * 8, none⟩ = some (.int .i64 y.e.writer) ∧ w'.cell? ⟨b, o + q * 8 + 1, none⟩ = some (.int .u64 (y.e.seq : Int)) ∧ w'.cell? ⟨b, o + q * 8 + 2, none⟩ = some (.int .u64 (y.e.time : Int)) ∧ w'.cell? ⟨b, o + q * 8 + 3, none⟩ = some (.int .u8 (y.e.kind : Int)) ∧ w'.cell? ⟨b, o + q * 8 + 4, none⟩ = some (.string y.e.key) ∧ w'.cell? ⟨b, o + q * 8 + 5, none⟩ = some (.slice y.A y.n y.c) ∧ w'.cell? ⟨b, o + q * 8 + 6, none⟩ = some (.float .f64 y.e.num) ∧ w'.cell? ⟨b, o + q * 8 + 7, none⟩ = some (.int .i64 y.e.node)) (go_keep)
          (first
            | (go_at_fn 34
               refine (HCM _ ?h1).mono ?_
               case h1 => first | exact Below.refl _ _ | exact (Below.refl _ _).drew | exact (Below.refl _ _).drew.drew
               rintro e w' ⟨rfl, hb, k1, k2⟩))
        have HBW := hb
        clear k1 k2 hb HCM HF
        by_cases hlt : r < 0
        · have hres := Lib.hid (HNO.out q (by rw [← HN.out]; exact hqi) (by rw [HX.out, HXE.out.2, HLL.out]; exact decide_eq_true hlt))
          go_wp2
          go_ret
          exact ⟨by rw [hres.out]; rfl, HBW.out⟩
        · go_wp2
          go_roundw
          case rel => exact ⟨q, rfl, by omega, Lib.hid ⟨HBW.out, fun k h1 h2 => by
            by_cases hk : k = q
            · subst hk
              rw [HX.out, HXE.out.2, HLL.out]; exact decide_eq_false hlt
            · exact HB.out.2 k (by have := HI.out; omega) h2⟩⟩
          case measure => have := HI.out; simp [intOf]; omega

set_option maxRecDepth 100000 in
theorem oright_any (A : Option Addr) (c : Nat) (S : List EvS) (w : World) (h : RawEv w A S) (hn : S.length ≤ 1000000000) :
    Calls Try.prog 15 #[.slice A S.length c] w fun e w' => e = .returned (.bool (riseB S)) ∧ Below w.heap.size w w' := by
  have HS := Lib.hid (sorted_any A c S w h hn)
  clear h
  generalize S.length = n at *
  generalize riseB S = b at *
  go_enter Try.func15, Try.ntmps15
  go_wp2_with fail
  refine HS.out.mono ?_
  rintro e w1 ⟨rfl, hb⟩
  go_wp2
  go_ret
  exact ⟨rfl, hb⟩
end Go.Proofs.Ytlacihgoammjgaa.Ord
