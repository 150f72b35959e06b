/- Order: the document's Sort. Order: the document's Sort: the walk. Order: the document's Whole; two lists of the same events are told as the same. Words for regions that draw their order and leave operations out. Order: a slice of numbers of 16 bits among the arguments. -/
import Derived.Deep.RegionHeld
import Derived.Deep.Cut
import Derived.Deep.QuietTactic
import Derived.Deep.RegionWith
import Derived.ChangeArms
import Derived.Test.YthdflbpmabcjlaaDoorLTp01
import Derived.Test.YthdflbpmabcjlaaDoorLTp09
namespace Go.Proofs.YthdflbpmabcjlaaDoor.Ord
open Go Go.RowKit Go.Proofs.YthdflbpmabcjlaaDoor.Words Go.Proofs.YthdflbpmabcjlaaDoor.Enc Go.Proofs.YthdflbpmabcjlaaDoor.Evt Go.Proofs.YthdflbpmabcjlaaDoor.Seg
set_option linter.unusedVariables false
set_option linter.unusedSimpArgs false

/-- An event is put into a list that rises. -/
theorem rises_insert {R : List EvS} {x : EvS} {k : Nat} (hR : Rises R) (hk : k ≤ R.length) (h1 : ∀ j, j < k → evLe (evAt R j) x) (h2 : ∀ j, k ≤ j → j < R.length → evLe x (evAt R j)) : Rises (R.take k ++ [x] ++ R.drop k) := by
  have get : ∀ j (hj : j < R.length), evAt R j = R[j] := fun j hj => by have := evAt_get hj; rw [List.getElem?_eq_getElem hj] at this; exact (Option.some.inj this).symm
  have ha : ∀ a ∈ R.take k, evLe a x := fun a ha => by
    obtain ⟨j, hj, rfl⟩ := List.getElem_of_mem ha
    rw [List.length_take] at hj
    rw [List.getElem_take, ← get j (by omega)]
    exact h1 j (by omega)
  have hb : ∀ b ∈ R.drop k, evLe x b := fun b hb => by
    obtain ⟨j, hj, rfl⟩ := List.getElem_of_mem hb
    rw [List.length_drop] at hj
    rw [List.getElem_drop, ← get (k + j) (by omega)]
    exact h2 (k + j) (by omega) (by omega)
  unfold Rises at *
  rw [List.pairwise_append, List.pairwise_append]
  refine ⟨⟨hR.sublist (List.take_sublist _ _), List.pairwise_singleton _ _, fun a hm b hb' => by rw [List.mem_singleton.1 hb']; exact ha a hm⟩, hR.sublist (List.drop_sublist _ _), fun a hm b hm2 => ?_⟩
  rcases List.mem_append.1 hm with hm | hm
  · exact evLe_trans _ _ _ (ha a hm) (hb b hm2)
  · rw [List.mem_singleton.1 hm]; exact hb b hm2
theorem perm_insert {R : List EvS} {x : EvS} {k : Nat} {S : List EvS} {i : Nat} (hp : R.Perm (S.take i)) (hx : S[i]? = some x) : (R.take k ++ [x] ++ R.drop k).Perm (S.take (i + 1)) := by
  have hi := (List.getElem?_eq_some_iff.1 hx)
  obtain ⟨hil, hxe⟩ := hi
  rw [← List.take_append_getElem hil, hxe]
  have h1 : (R.take k ++ [x] ++ R.drop k).Perm (R.take k ++ R.drop k ++ [x]) := by
    rw [List.append_assoc, List.append_assoc]
    exact (List.perm_append_comm).append_left _
  rw [List.take_append_drop] at h1
  exact h1.trans (hp.append_right _)
theorem rises_le {S : List EvS} (h : Rises S) : ∀ a b, a ≤ b → b < S.length → evLe (evAt S a) (evAt S b) := by
  intro a b hab hb
  rcases Nat.lt_or_eq_of_le hab with hlt | rfl
  · have := List.pairwise_iff_getElem.1 h a b (by omega) hb hlt
    have ea : evAt S a = S[a] := by have := evAt_get (S := S) (k := a) (by omega); rw [List.getElem?_eq_getElem (by omega)] at this; exact (Option.some.inj this).symm
    have eb : evAt S b = S[b] := by have := evAt_get (S := S) (k := b) hb; rw [List.getElem?_eq_getElem hb] at this; exact (Option.some.inj this).symm
    rw [ea, eb]
    exact this
  · exact evLe_refl _
theorem RawEv.drop {w : World} {b o : Nat} {S : List EvS} (h : RawEv w (some ⟨b, o, none⟩) S) (k : Nat) (hk : k < S.length) : RawEv w (some ⟨b, o + k * 8, none⟩) (S.drop k) := fun hn => by
  obtain ⟨b', o', e, hc⟩ := h (by omega)
  cases e
  refine ⟨b, o + k * 8, rfl, fun j v hv => ?_⟩
  rw [Nat.add_assoc]
  refine hc (k * 8 + j) v ?_
  conv => lhs; rw [← List.take_append_drop k S]
  rw [rowsL_append, List.getElem?_append_right (by rw [rowsL_len, List.length_take]; omega), rowsL_len, List.length_take, Nat.min_eq_left (by omega), show k * 8 + j - k * 8 = j by omega]
  exact hv

section
variable {P : Program} {w : World} {ops : Array Oper} {rest : List Oper} {op : Oper} {a : Act} {Q : Exit → Act → World → Prop}
theorem wp_thenB {c : Code} {id : Nat} {K K' : Act → World → Prop} {Q' : Exit → Act → World → Prop} {a : Act} {w : World} (hq : ∀ a w, K a w → K' a w) (h : c.wp P (Exit.inBlock id (Exit.then K Q')) a w) : c.wp P (Exit.inBlock id (Exit.then K' Q')) a w := by
  refine Code.wp_mono (fun e a w he => ?_) h
  cases e with
  | normal => exact hq _ _ he
  | exit m =>
    by_cases hm : m = id
    · simp only [Exit.inBlock, if_pos hm] at he ⊢
      exact hq _ _ he
    · simp only [Exit.inBlock, if_neg hm] at he ⊢
      exact he
  | _ => exact he
theorem wpList_sliceL (hgd : op.guard = none) (t : TypeId) (x lo : Operand) (ho : op.op = .slice t x (some lo) none none) (A : Option Addr) (n c J s : Nat) (hx : a.eval x = .slice A n c) (hlo : a.eval lo = .int .i64 (J : Int)) (hJ : J ≤ n)
    (ht : P.underlying t = some (.slice (P.elem t))) (hs : ∀ W, (sizeOf (P.elem t)).run P W = .ok s W)
    (h : ∀ A', (∀ b o, J < n → n ≤ c → A = some ⟨b, o, none⟩ → A' = some ⟨b, o + J * s, none⟩) → wpList P ops Q rest (a.put op.dst (.slice A' (n - J) (c - J))) w) : wpList P ops Q (op :: rest) a w := by
  refine wpList_plain hgd fun K hK => ?_
  have h1 : (Instr.slice t (.slice A n c) (some (.int .i64 (J : Int))) none none).run P w = .ok (sliced A J n c s) w := by
    rw [run_slice_l w t A n c ht .i64 (J : Int) (by omega) (by omega), hs]
    simp [Result.andThen]
  have h2 : (execOp a.eval op).run P w = .ok (.value (sliced A J n c s)) w := by
    unfold execOp
    simp only [ho, Option.map_some, Option.map_none, hx, hlo, Sem.run_bind, Sem.run_pure, run_sliceAt_slice w t _ _ _ _ ht, h1, Result.andThen_ok]
  unfold Oper.wp
  rw [h2]
  refine hK _ _ (h _ fun b o h3 h4 hA => ?_)
  rw [if_neg (by omega), hA]
  simp [Words.add_plain]
end
theorem sizeEv (W : World) : (sizeOf (Tryd.prog.elem 34)).run Tryd.prog W = .ok 8 W := by kernel_rfl
theorem elemEv : Tryd.prog.underlying 34 = some (.slice (Tryd.prog.elem 34)) := by kernel_rfl
end Go.Proofs.YthdflbpmabcjlaaDoor.Ord
namespace Go.Proofs.YthdflbpmabcjlaaDoor.Ord
open Go Go.RowKit Go.Proofs.YthdflbpmabcjlaaDoor.Words Go.Proofs.YthdflbpmabcjlaaDoor.Enc Go.Proofs.YthdflbpmabcjlaaDoor.Evt Go.Proofs.YthdflbpmabcjlaaDoor.Seg
set_option linter.unusedVariables false
set_option linter.unusedSimpArgs false

set_option maxRecDepth 100000 in
set_option maxHeartbeats 8000000 in
theorem refSort_any (A : Option Addr) (c : Nat) (S : List EvS) (w : World) (h : RawEv w A S) (hn : S.length ≤ 1000) :
    Calls Tryd.prog 31 #[.slice A S.length c] w fun e w' => ∃ A' c' R, e = .returned (.slice A' S.length c') ∧ w'.ownsRow w.heap.size 52 8 (.slice A' S.length c') S.length (rowsL R) ∧ R.Perm S ∧ Rises R ∧ Below w.heap.size w w' := by
  obtain ⟨n, hn'⟩ : ∃ n, n = S.length := ⟨_, rfl⟩
  rw [← hn'] at hn ⊢
  have HH := Lib.hid (And.intro h hn')
  clear h hn'
  go_enter Tryd.func31, Tryd.ntmps31
  go_wp2_with fail
  go_loopw [3, 4] (fun ov iv W => ∃ (i : Nat) (A' : Option Addr) (c' : Nat) (R : List EvS), iv = .int .i64 (i : Int) ∧ ov = .slice A' i c' ∧ i ≤ n ∧ Hid (W.ownsRow w.heap.size 52 8 (.slice A' i c') i (rowsL R) ∧ R.Perm (S.take i) ∧ Rises R ∧ Below w.heap.size w W)) (fun _ iv _ => n - (intOf iv).toNat)
  case atStart => exact ⟨0, none, 0, [], rfl, rfl, Nat.zero_le _, Lib.hid ⟨own_nil8 _ _ _, by simp, List.Pairwise.nil, Below.refl _ _⟩⟩
  case round =>
    obtain ⟨i, A', c', R, rfl, rfl, hi, HR⟩ := hrel
    by_cases hlt : i < n
    · have hRl : R.length = i := by
        have := HR.out.1.1
        rw [rowsL_len] at this
        omega
      obtain ⟨b, o, rfl, hc⟩ := HH.out.1 (by rw [← HH.out.2]; omega)
      have hiS : i < S.length := by rw [← HH.out.2]; exact hlt
      have hxg : S[i]? = some (evAt S i) := evAt_get hiS
      have HX := Lib.hid (And.intro hxg (And.intro hc hRl))
      generalize evAt S i = x at HX hxg
      have zin : (i : Int) < (n : Int) := by omega
      have zi0 : (0 : Int) ≤ (i : Int) := by omega
      clear hxg hc hRl
      have hnx : (x.e.val x.A x.n x.c) = x.e.val x.A x.n x.c := rfl
      clear hnx
      obtain ⟨wo, rfl⟩ : ∃ wo : World, wo = wr := ⟨_, rfl⟩
      go_wp2_with fail
      refine wp_thenB (K := fun a W => ∃ (k : Nat) (y15 y16 y17 y18 y19 y20 y21 y22 y23 y24 y25 y26 y27 y28 y29 y30 y31 y32 : Value), a = { tmps := #[Value.slice (some { block := b, off := o }) n c, undef, Value.slice none 0 0, Value.slice A' i c', Value.int IntKind.i64 (i : Int), Value.int IntKind.i64 (k : Int), u6, Value.int IntKind.i64 (i : Int), Value.slice (some { block := b, off := o }) n c, Value.int IntKind.i64 (n : Int), Value.bool true, u11, u12, Value.slice A' i c', Value.int IntKind.i64 (i : Int), y15, y16, y17, y18, y19, y20, y21, y22, y23, y24, y25, y26, y27, y28, y29, y30, y31, y32, u33, u34, u35, u36, u37, u38, u39, u40, u41, u42, u43, u44, u45, u46, u47, u48, u49, undef], defers := [] } ∧ k ≤ i ∧ Hid (Below wo.heap.size wo W ∧ (∀ j, j < k → evLe (evAt R j) x) ∧ ∀ j, k ≤ j → j < i → evLe x (evAt R j))) ?after ?loop
      case loop =>
        go_loopw [5] (fun kv W => ∃ k : Nat, kv = .int .i64 (k : Int) ∧ k ≤ i ∧ Hid (Below wo.heap.size wo W ∧ ∀ j, k ≤ j → j < i → evLe x (evAt R j))) (fun kv _ => (intOf kv).toNat)
        case atStart => exact ⟨i, rfl, Nat.le_refl _, Lib.hid ⟨Below.refl _ _, fun j h1 h2 => by omega⟩⟩
        case round =>
          obtain ⟨k, rfl, hk, HK⟩ := hrel
          by_cases hk0 : k = 0
          · subst hk0
            have zk1 : ¬ (0 : Int) < ((0 : Nat) : Int) := by decide
            go_wp2_with fail
            go_quiet (fail)
            go_wp2_with fail
            exact ⟨0, _, _, _, _, _, _, _, _, _, _, _, _, _, _, _, _, _, _, rfl, Nat.zero_le _, Lib.hid ⟨HK.out.1.trans ⟨rfl, rfl, rfl, Nat.le_refl _, fun _ _ => rfl⟩, fun j h => absurd h (by omega), HK.out.2⟩⟩
          · obtain ⟨q, hq⟩ : ∃ q, k = q + 1 := ⟨k - 1, by omega⟩
            have hqi : q < i := by omega
            have hrawR : RawEv wr A' R := RawEv.of_own (n := i) (c := c') (by exact own_below8 HR.out.1 HK.out.1 (Nat.le_refl _))
            obtain ⟨b2, o2, hA2, hc2⟩ := hrawR (by rw [HX.out.2.2]; omega)
            have ho2 : o2 = 0 := by
              obtain ⟨g, hg, _⟩ := own_at8 HR.out.1 (by omega)
              rw [hA2] at hg; cases hg; rfl
            subst ho2
            have hx := RawEv.cells_at (w := wr) (b := b) (o := o) (S := S) (k := i) (fun j v hv => by rw [(HR.out.2.2.2.trans (HK.out.1.mono HR.out.2.2.2.size)).cell (World.block_lt_of_cell? _ _ (HX.out.2.1 j v hv))]; exact HX.out.2.1 j v hv) (by rw [← HH.out.2]; exact hlt)
            have hxe : evAt S i = x := by have := evAt_get (S := S) (k := i) (by rw [← HH.out.2]; exact hlt); rw [HX.out.1] at this; exact (Option.some.inj this).symm
            rw [hxe] at hx
            have hy := RawEv.cells_at hc2 (k := q) (by rw [HX.out.2.2]; omega)
            simp only [Nat.zero_add] at hy
            subst hA2
            generalize hye : evAt R q = y at hy
            obtain ⟨lb, hlb⟩ : ∃ lb, lb = lessB x y := ⟨_, rfl⟩
            have HF := Lib.hid (And.intro hx hy)
            have HAT : ∀ (xw : Int) (sq tm kd : Nat) (key : ByteArray) (A : Option Addr) (n c num : Nat) (node : Int) (W : World), Below wr.heap.size wr W → Calls Tryd.prog 50 #[.agg #[.int .i64 xw, .int .u64 (sq : Int), .int .u64 (tm : Int), .int .u8 (kd : Int), .string key, .slice A n c, .float .f64 num, .int .i64 node]] W fun e w' => e = .returned (.agg #[.int .u64 (tm : Int), .int .i64 xw]) ∧ Hid (Below wr.heap.size wr w') ∧ (w'.cell? ⟨b, o + i * 8, none⟩ = some (.int .i64 x.e.writer) ∧ w'.cell? ⟨b, o + i * 8 + 1, none⟩ = some (.int .u64 (x.e.seq : Int)) ∧ w'.cell? ⟨b, o + i * 8 + 2, none⟩ = some (.int .u64 (x.e.time : Int)) ∧ w'.cell? ⟨b, o + i * 8 + 3, none⟩ = some (.int .u8 (x.e.kind : Int)) ∧ w'.cell? ⟨b, o + i * 8 + 4, none⟩ = some (.string x.e.key) ∧ w'.cell? ⟨b, o + i * 8 + 5, none⟩ = some (.slice x.A x.n x.c) ∧ w'.cell? ⟨b, o + i * 8 + 6, none⟩ = some (.float .f64 x.e.num) ∧ w'.cell? ⟨b, o + i * 8 + 7, none⟩ = some (.int .i64 x.e.node)) ∧ w'.cell? ⟨b2, q * 8, none⟩ = some (.int .i64 y.e.writer) ∧ w'.cell? ⟨b2, q * 8 + 1, none⟩ = some (.int .u64 (y.e.seq : Int)) ∧ w'.cell? ⟨b2, q * 8 + 2, none⟩ = some (.int .u64 (y.e.time : Int)) ∧ w'.cell? ⟨b2, q * 8 + 3, none⟩ = some (.int .u8 (y.e.kind : Int)) ∧ w'.cell? ⟨b2, q * 8 + 4, none⟩ = some (.string y.e.key) ∧ w'.cell? ⟨b2, q * 8 + 5, none⟩ = some (.slice y.A y.n y.c) ∧ w'.cell? ⟨b2, q * 8 + 6, none⟩ = some (.float .f64 y.e.num) ∧ w'.cell? ⟨b2, q * 8 + 7, none⟩ = some (.int .i64 y.e.node) := fun xw sq tm kd key A n c num node W hW => by
              refine (refAt_any ⟨xw, sq, tm, kd, key, [], num, node⟩ A n c W).mono ?_
              rintro e w' ⟨rfl, hb⟩
              have hb2 := hW.trans (hb.mono hW.size)
              have old : ∀ {q : Addr} {v : Value}, wr.cell? q = some v → w'.cell? q = some v := fun {q v} hq => by rw [hb2.cell (World.block_lt_of_cell? _ _ hq)]; exact hq
              obtain ⟨⟨e0, e1, e2, e3, e4, e5, e6, e7⟩, d0, d1, d2, d3, d4, d5, d6, d7⟩ := HF.out
              exact ⟨rfl, Lib.hid hb2, ⟨old e0, old e1, old e2, old e3, old e4, old e5, old e6, old e7⟩, old d0, old d1, old d2, old d3, old d4, old d5, old d6, old d7⟩
            have HAH : ∀ (W : World), Below wr.heap.size wr W → Calls Tryd.prog 49 #[.agg #[.int .u64 (x.e.time : Int), .int .i64 x.e.writer], .agg #[.int .u64 (y.e.time : Int), .int .i64 y.e.writer]] W fun e w' => e = .returned (.bool lb) ∧ Hid (Below wr.heap.size wr w') ∧ (w'.cell? ⟨b, o + i * 8, none⟩ = some (.int .i64 x.e.writer) ∧ w'.cell? ⟨b, o + i * 8 + 1, none⟩ = some (.int .u64 (x.e.seq : Int)) ∧ w'.cell? ⟨b, o + i * 8 + 2, none⟩ = some (.int .u64 (x.e.time : Int)) ∧ w'.cell? ⟨b, o + i * 8 + 3, none⟩ = some (.int .u8 (x.e.kind : Int)) ∧ w'.cell? ⟨b, o + i * 8 + 4, none⟩ = some (.string x.e.key) ∧ w'.cell? ⟨b, o + i * 8 + 5, none⟩ = some (.slice x.A x.n x.c) ∧ w'.cell? ⟨b, o + i * 8 + 6, none⟩ = some (.float .f64 x.e.num) ∧ w'.cell? ⟨b, o + i * 8 + 7, none⟩ = some (.int .i64 x.e.node)) ∧ w'.cell? ⟨b2, q * 8, none⟩ = some (.int .i64 y.e.writer) ∧ w'.cell? ⟨b2, q * 8 + 1, none⟩ = some (.int .u64 (y.e.seq : Int)) ∧ w'.cell? ⟨b2, q * 8 + 2, none⟩ = some (.int .u64 (y.e.time : Int)) ∧ w'.cell? ⟨b2, q * 8 + 3, none⟩ = some (.int .u8 (y.e.kind : Int)) ∧ w'.cell? ⟨b2, q * 8 + 4, none⟩ = some (.string y.e.key) ∧ w'.cell? ⟨b2, q * 8 + 5, none⟩ = some (.slice y.A y.n y.c) ∧ w'.cell? ⟨b2, q * 8 + 6, none⟩ = some (.float .f64 y.e.num) ∧ w'.cell? ⟨b2, q * 8 + 7, none⟩ = some (.int .i64 y.e.node) := fun W hW => by
              rw [hlb]
              refine (ahead_any x.e.time x.e.writer y.e.time y.e.writer W).mono ?_
              rintro e w' ⟨rfl, hb⟩
              have hb2 := hW.trans (hb.mono hW.size)
              have old : ∀ {q : Addr} {v : Value}, wr.cell? q = some v → w'.cell? q = some v := fun {q v} hq => by rw [hb2.cell (World.block_lt_of_cell? _ _ hq)]; exact hq
              obtain ⟨⟨e0, e1, e2, e3, e4, e5, e6, e7⟩, d0, d1, d2, d3, d4, d5, d6, d7⟩ := HF.out
              exact ⟨rfl, Lib.hid hb2, ⟨old e0, old e1, old e2, old e3, old e4, old e5, old e6, old e7⟩, old d0, old d1, old d2, old d3, old d4, old d5, old d6, old d7⟩
            have HL := Lib.hid (And.intro hlb (And.intro hye hq))
            obtain ⟨e0, e1, e2, e3, e4, e5, e6, e7⟩ := hx
            obtain ⟨d0, d1, d2, d3, d4, d5, d6, d7⟩ := hy
            have zk0 : decide (0 < k) = true := decide_eq_true (by omega)
            have zs : (k : Int) - 1 = (q : Int) := by omega
            have zw : IntKind.i64.wrap (q : Int) = (q : Int) := IntWalk.i64_in _ (by omega)
            have zq0 : (0 : Int) ≤ (q : Int) := by omega
            have zqi : (q : Int) < (i : Int) := by omega
            clear hlb hye hq hxe hc2 hrawR
            go_wp2_with fail
            go_region_held (fun w' => (w'.cell? ⟨b, o + i * 8, none⟩ = some (.int .i64 x.e.writer) ∧ w'.cell? ⟨b, o + i * 8 + 1, none⟩ = some (.int .u64 (x.e.seq : Int)) ∧ w'.cell? ⟨b, o + i * 8 + 2, none⟩ = some (.int .u64 (x.e.time : Int)) ∧ w'.cell? ⟨b, o + i * 8 + 3, none⟩ = some (.int .u8 (x.e.kind : Int)) ∧ w'.cell? ⟨b, o + i * 8 + 4, none⟩ = some (.string x.e.key) ∧ w'.cell? ⟨b, o + i * 8 + 5, none⟩ = some (.slice x.A x.n x.c) ∧ w'.cell? ⟨b, o + i * 8 + 6, none⟩ = some (.float .f64 x.e.num) ∧ w'.cell? ⟨b, o + i * 8 + 7, none⟩ = some (.int .i64 x.e.node)) ∧ w'.cell? ⟨b2, q * 8, none⟩ = some (.int .i64 y.e.writer) ∧ w'.cell? ⟨b2, q * 8 + 1, none⟩ = some (.int .u64 (y.e.seq : Int)) ∧ w'.cell? ⟨b2, q * 8 + 2, none⟩ = some (.int .u64 (y.e.time : Int)) ∧ w'.cell? ⟨b2, q * 8 + 3, none⟩ = some (.int .u8 (y.e.kind : Int)) ∧ w'.cell? ⟨b2, q * 8 + 4, none⟩ = some (.string y.e.key) ∧ w'.cell? ⟨b2, q * 8 + 5, none⟩ = some (.slice y.A y.n y.c) ∧ w'.cell? ⟨b2, q * 8 + 6, none⟩ = some (.float .f64 y.e.num) ∧ w'.cell? ⟨b2, q * 8 + 7, none⟩ = some (.int .i64 y.e.node)) (go_keep)
              (first
                | (go_at_call 50
                   refine (HAT _ _ _ _ _ _ _ _ _ _ _ ?h1).mono ?_
                   case h1 => first | exact Below.refl _ _ | exact (Below.refl _ _).drew | exact Hid.out (by assumption)
                   rintro e w' ⟨rfl, hb, k1, k2⟩)
                | (go_at_call 49
                   refine (HAH _ ?h1).mono ?_
                   case h1 => first | exact Hid.out (by assumption)
                   rintro e w' ⟨rfl, hb, k1, k2⟩))
            cases lb with
            | true =>
              go_wp2
              go_roundw
              case rel => exact ⟨q, rfl, by omega, Lib.hid ⟨HK.out.1.trans (hb.out.mono HK.out.1.size), fun j h1 h2 => by
                by_cases hjq : j = q
                · subst hjq; rw [HL.out.2.1]; exact lessB_yes HL.out.1.symm
                · exact HK.out.2 j (by have := HL.out.2.2; omega) h2⟩⟩
              case measure => have := HL.out.2.2; simp [intOf]; omega
            | false =>
              have HW9 := Lib.hid (HK.out.1.trans (hb.out.mono HK.out.1.size))
              have HLE := Lib.hid (show ∀ j, j < k → evLe (evAt R j) x from fun j hj => by
                have h1 := rises_le HR.out.2.2.1 j q (by have := HL.out.2.2; omega) (by rw [HX.out.2.2]; exact hqi)
                rw [HL.out.2.1] at h1
                exact evLe_trans _ _ _ h1 (lessB_no HL.out.1.symm))
              clear k1 k2 HAT HAH HF e0 e1 e2 e3 e4 e5 e6 e7 d0 d1 d2 d3 d4 d5 d6 d7
              go_wp2_with fail
              exact ⟨k, _, _, _, _, _, _, _, _, _, _, _, _, _, _, _, _, _, _, rfl, hk, Lib.hid ⟨HW9.out, HLE.out, HK.out.2⟩⟩
      case after =>
        rintro a W ⟨k, y15, y16, y17, y18, y19, y20, y21, y22, y23, y24, y25, y26, y27, y28, y29, y30, y31, y32, rfl, hk, HK⟩
        simp only []
        have HOWN := Lib.hid (own_below8 HR.out.1 HK.out.1 (Nat.le_refl _))
        have B9 := Lib.hid (HR.out.2.2.2.trans (HK.out.1.mono HR.out.2.2.2.size))
        have HLE := Lib.hid HK.out.2.1
        have HGE := Lib.hid HK.out.2.2
        obtain ⟨ie, hie, hze, hsze, hbye⟩ := info_parts infoEv
        have hkc : k ≤ c' := Nat.le_trans hk (own_cap8 HOWN.out).1
        have hRl : R.length = i := HX.out.2.2
        have HRL := Lib.hid hRl
        have HRB := Lib.hid (RawEv.of_own HOWN.out)
        have HOWN2 := Lib.hid HOWN.out
        have HDN : Hid (∀ A3 c3 wc, wc.ownsRow W.heap.size 52 8 (.slice A3 (k + 1 + (i - k)) c3) (k + 1 + (i - k)) (rowsL (R.take k ++ [x] ++ R.drop k)) → Below W.heap.size W wc → ∃ M, M = k + 1 + (i - k) ∧ M = i + 1 ∧ Hid (wc.ownsRow w.heap.size 52 8 (.slice A3 (i + 1) c3) (i + 1) (rowsL (R.take k ++ [x] ++ R.drop k)) ∧ (R.take k ++ [x] ++ R.drop k).Perm (S.take (i + 1)) ∧ Rises (R.take k ++ [x] ++ R.drop k) ∧ Below w.heap.size w wc)) := Lib.hid fun A3 c3 wc h3 hb3 => by
          refine ⟨i + 1, by omega, rfl, ?_⟩
          rw [show k + 1 + (i - k) = i + 1 by omega] at h3
          refine Lib.hid ⟨⟨h3.1, ?_⟩, perm_insert HR.out.2.1 HX.out.1, rises_insert HR.out.2.2.1 (by omega) HLE.out (fun j h1 h2 => HGE.out j h1 (by omega)), B9.out.trans (hb3.mono B9.out.size)⟩
          rcases h3.2 with hn | ⟨g, cap, cur, hv, hg, hh, r⟩
          · exact .inl hn
          · exact .inr ⟨g, cap, cur, hv, Nat.le_trans B9.out.size hg, hh, r⟩
        have HXC := Lib.hid (fun wa (hwa : Below W.heap.size W wa) => (by
          have Bwa := B9.out.trans (hwa.mono B9.out.size)
          have hrx : RawEv wa (some ⟨b, o, none⟩) S := fun h0 => ⟨b, o, rfl, fun j v hv => by rw [Bwa.cell (World.block_lt_of_cell? _ _ (HX.out.2.1 j v hv))]; exact HX.out.2.1 j v hv⟩
          obtain ⟨bb, oo, hbo, e⟩ := RawEv.at_ hrx HX.out.1
          cases hbo
          rw [Nat.mul_comm 8 i] at e
          exact e : wa.cell? ⟨b, o + i * 8, none⟩ = some (.int .i64 x.e.writer) ∧ wa.cell? ⟨b, o + i * 8 + 1, none⟩ = some (.int .u64 (x.e.seq : Int)) ∧ wa.cell? ⟨b, o + i * 8 + 2, none⟩ = some (.int .u64 (x.e.time : Int)) ∧ wa.cell? ⟨b, o + i * 8 + 3, none⟩ = some (.int .u8 (x.e.kind : Int)) ∧ wa.cell? ⟨b, o + i * 8 + 4, none⟩ = some (.string x.e.key) ∧ wa.cell? ⟨b, o + i * 8 + 5, none⟩ = some (.slice x.A x.n x.c) ∧ wa.cell? ⟨b, o + i * 8 + 6, none⟩ = some (.float .f64 x.e.num) ∧ wa.cell? ⟨b, o + i * 8 + 7, none⟩ = some (.int .i64 x.e.node)))
        have HOF := Lib.hid (show 0 < i → ∃ b2, A' = some ⟨b2, 0, none⟩ from fun h0 => by obtain ⟨g, hg, _⟩ := own_at8 HOWN.out h0; exact ⟨g, hg⟩)
        have HKC := Lib.hid (own_cap8 HOWN.out)
        have hsf := store_float Tryd.prog
        clear HK HOWN B9 HLE HGE hRl HR HX HH
        go_wp2_with (first | (refine wpList_appE rfl (.tmp 33) (.tmp 36) 34 rfl W.heap.size 52 ie zeroEV Tryd.underlying34 hie hze hsze hbye rfl none 0 0 [] ?hs1 ?hown1 A' k c' (R.take k) ?hx1 ?hl1 ?hq1 ?h631 ?hbase1 ?h1))
        case hs1 => rfl
        case hown1 => exact own_nil8 _ _ _
        case hx1 => rfl
        case hl1 => rw [List.length_take, HRL.out]; omega
        case hq1 => exact HRB.out.take k
        case h631 => omega
        case hbase1 => exact Nat.le_refl _
        intro A1 c1 wa own1 hba
        have Ba := Lib.hid hba
        have HO1 := Lib.hid own1
        obtain ⟨e0, e1, e2, e3, e4, e5, e6, e7⟩ := HXC.out wa hba
        have zin2 : (i : Int) < (n : Int) := by omega
        clear own1 hba
        go_wp2_with (first | (refine wpList_appE rfl (.tmp 38) (.tmp 43) 34 rfl W.heap.size 52 ie zeroEV Tryd.underlying34 hie hze hsze hbye rfl A1 k c1 (R.take k) ?hs2 ?hown2 (some ⟨wa.heap.size, 0, none⟩) 1 1 [x] ?hx2 ?hl2 ?hq2 ?h632 ?hbase2 ?h2))
        case hs2 => rfl
        case hown2 => exact own_below8 HO1.out ((Below.refl _ _).alloc (Nat.le_refl _) _) (Nat.le_refl _)
        case hx2 => rfl
        case hl2 => rfl
        case hq2 =>
          intro _
          refine ⟨wa.heap.size, 0, rfl, fun j v hv => ?_⟩
          rw [Nat.zero_add, cell_of_row _ _ _ _ _ _ (heap_alloc_new wa _)]
          have e : rowsL [x] = x.cells := by simp [rowsL]
          rw [e] at hv
          have hv2 : (x.cells.toArray)[j]? = some v := by rw [List.getElem?_toArray]; exact hv
          exact hv2
        case h632 => omega
        case hbase2 => have := Ba.out.size; simp; omega
        intro A2 c2 wb own2 hbb
        have Bb := Lib.hid ((Ba.out.alloc Ba.out.size (.cells x.cells.toArray 52)).trans hbb)
        have HO2 := Lib.hid own2
        clear own2 hbb e0 e1 e2 e3 e4 e5 e6 e7
        go_wp2_with (first | (refine wpList_sliceL rfl 34 (.tmp 46) (.tmp 47) rfl A' i c' k 8 rfl rfl hk elemEv sizeEv ?_))
        intro A5 hA5
        have HA5 := Lib.hid hA5
        clear hA5
        go_wp2_with (first | (refine wpList_appE rfl (.tmp 45) (.tmp 48) 34 rfl W.heap.size 52 ie zeroEV Tryd.underlying34 hie hze hsze hbye rfl A2 (k + 1) c2 (R.take k ++ [x]) ?hs4 ?hown4 A5 (i - k) (c' - k) (R.drop k) ?hx4 ?hl4 ?hq4 ?h634 ?hbase4 ?h4))
        case hs4 => rfl
        case hown4 => exact HO2.out
        case hx4 => rfl
        case hl4 => rw [List.length_drop, HRL.out]
        case hq4 =>
          intro h0
          have hki : k < i := by rw [List.length_drop, HRL.out] at h0; omega
          obtain ⟨b2, hb2⟩ := HOF.out (by omega)
          have h5 := HA5.out b2 0 hki HKC.out.1 hb2
          have hr := RawEv.drop (k := k) (w := wb) (b := b2) (o := 0) (S := R) (by rw [← hb2]; exact RawEv.of_own (own_below8 HOWN2.out Bb.out (Nat.le_refl _))) (by rw [HRL.out]; exact hki)
          rw [h5]
          exact hr h0
        case h634 => omega
        case hbase4 => exact Bb.out.size
        intro A3 c3 wc own3 hbc
        rw [show R.take k ++ x :: R.drop k = R.take k ++ [x] ++ R.drop k by simp] at own3
        obtain ⟨N, hN1, hN2, HF9⟩ := HDN.out A3 c3 wc own3 (Bb.out.trans hbc)
        rw [← hN1]
        have HN2 := Lib.hid hN2
        clear own3 hbc HDN hN1 hN2 HA5 HO2 Bb HO1 Ba HXC HRB HOF HKC HRL HOWN2 hie hze hsze hbye hkc hsf hk
        go_wp2
        rw [HN2.out]
        go_roundw
        case rel => exact ⟨i + 1, A3, c3, _, rfl, rfl, by omega, HF9⟩
        case measure => simp [intOf]; omega
    · obtain rfl : i = n := by omega
      have HF := Lib.hid (And.intro HR.out.1 (And.intro (by have h := HR.out.2.1; rwa [List.take_of_length_le (by rw [← HH.out.2]; exact Nat.le_refl _)] at h : R.Perm S) HR.out.2.2))
      clear HR HH
      go_wp2
      go_ret
      exact ⟨A', c', R, rfl, HF.out.1, HF.out.2.1, HF.out.2.2.1, HF.out.2.2.2⟩
end Go.Proofs.YthdflbpmabcjlaaDoor.Ord
namespace Go.Proofs.YthdflbpmabcjlaaDoor.Ord
open Go Go.RowKit Go.Proofs.YthdflbpmabcjlaaDoor.Words Go.Proofs.YthdflbpmabcjlaaDoor.Enc Go.Proofs.YthdflbpmabcjlaaDoor.Evt Go.Proofs.YthdflbpmabcjlaaDoor.Seg
set_option linter.unusedVariables false
set_option linter.unusedSimpArgs false

theorem flat_take_succ {L : List HV} {i : Nat} (hi : i < L.length) : flat (L.take (i + 1)) = flat (L.take i) ++ L[i].S := by
  unfold flat
  rw [← List.take_append_getElem hi, List.flatMap_append]
  simp
theorem flat_take_le (L : List HV) (i : Nat) : (flat (L.take i)).length ≤ (flat L).length := by
  unfold flat
  conv => rhs; rw [← List.take_append_drop i L]
  rw [List.flatMap_append, List.length_append]
  omega

set_option maxRecDepth 100000 in
set_option maxHeartbeats 4000000 in
theorem refWhole_any {B : Nat} (Al : Option Addr) (cl : Nat) (L : List HV) (w : World) (h : Lists B w Al L) (hB : B ≤ w.heap.size) (hn : L.length ≤ 1000) (hf : (flat L).length ≤ 1000) :
    Calls Tryd.prog 17 #[.slice Al L.length cl] w fun e w' => ∃ A' c' R, e = .returned (.slice A' (flat L).length c') ∧ w'.ownsRow w.heap.size 52 8 (.slice A' (flat L).length c') (flat L).length (rowsL R) ∧ R.Perm (flat L) ∧ Rises R ∧ Below w.heap.size w w' := by
  obtain ⟨N, hN⟩ : ∃ N, N = L.length := ⟨_, rfl⟩
  have HH := Lib.hid (And.intro h hN)
  rw [← hN] at hn ⊢
  have SO := fun (A' : Option Addr) (c' : Nat) (W : World) (hA : W.ownsRow w.heap.size 52 8 (.slice A' (flat L).length c') (flat L).length (rowsL (flat L))) (hW : Below w.heap.size w W) => (by
    refine (refSort_any A' c' (flat L) W (RawEv.of_own hA) hf).mono ?_
    rintro e w' ⟨A2, c2, R, rfl, h1, h2, h3, h4⟩
    refine ⟨A2, c2, R, rfl, Lib.hid ⟨⟨h1.1, ?_⟩, h2, h3, hW.trans (h4.mono hW.size)⟩⟩
    rcases h1.2 with hn | ⟨g, cap, cur, hv, hg, hh, r⟩
    · exact .inl hn
    · exact .inr ⟨g, cap, cur, hv, Nat.le_trans hW.size hg, hh, r⟩ : Calls Tryd.prog 31 #[.slice A' (flat L).length c'] W fun e w' => ∃ A2 c2 R, e = .returned (.slice A2 (flat L).length c2) ∧ Hid (w'.ownsRow w.heap.size 52 8 (.slice A2 (flat L).length c2) (flat L).length (rowsL R) ∧ R.Perm (flat L) ∧ Rises R ∧ Below w.heap.size w w'))
  have HSO := Lib.hid SO
  have HF := Lib.hid hf
  obtain ⟨F, hF⟩ : ∃ F, F = (flat L).length := ⟨_, rfl⟩
  rw [← hF] at HSO ⊢
  have HFL := Lib.hid hF
  clear h hN SO hf hF
  obtain ⟨ie, hie, hze, hsze, hbye⟩ := info_parts infoEv
  go_enter Tryd.func17, Tryd.ntmps17
  go_wp2_with fail
  go_loopw [3, 4] (fun ov iv W => ∃ (i m : Nat) (A' : Option Addr) (c' : Nat), iv = .int .i64 (i : Int) ∧ ov = .slice A' m c' ∧ i ≤ N ∧ Hid (m = (flat (L.take i)).length ∧ W.ownsRow w.heap.size 52 8 (.slice A' m c') m (rowsL (flat (L.take i))) ∧ Below w.heap.size w W)) (fun _ iv _ => N - (intOf iv).toNat)
  case atStart => exact ⟨0, 0, none, 0, rfl, rfl, Nat.zero_le _, Lib.hid ⟨by simp [flat], by simpa [flat] using own_nil8 _ _ _, Below.refl _ _⟩⟩
  case round =>
    obtain ⟨i, m, A', c', rfl, rfl, hi, HR⟩ := hrel
    by_cases hlt : i < N
    · have hiL : i < L.length := by rw [← HH.out.2]; exact hlt
      have hLL := HH.out.1
      obtain ⟨b, o, hb, rfl, hrow⟩ := hLL.row (by omega)
      have hx0 := hrow i L[i] (List.getElem?_eq_getElem hiL)
      have hx := (HR.out.2.2.cell (p := ⟨b, o + i, none⟩) (by show b < _; omega)).trans hx0
      have hLi := (hLL.lie _ (List.getElem_mem hiL)).below (HR.out.2.2.mono hB)
      have HXR := Lib.hid (show RawEv wr L[i].A L[i].S from fun h0 => by
        obtain ⟨b1, o1, h1, h2, h3⟩ := hLi.2 h0
        exact ⟨b1, o1, h2, h3⟩)
      have HT1 := Lib.hid (flat_take_succ hiL)
      have HTL := Lib.hid (flat_take_le L (i + 1))
      generalize L[i] = x at hx HXR HT1
      unfold HV.val at hx
      have zi : (i : Int) < (N : Int) := by omega
      clear hx0 hLi hrow hLL
      go_wp2_with (first | (refine wpList_appE rfl (.tmp 11) (.tmp 15) 34 rfl w.heap.size 52 ie zeroEV Tryd.underlying34 hie hze hsze hbye rfl A' m c' (flat (L.take i)) ?hs ?hown x.A x.S.length x.c x.S ?hx ?hl ?hq ?h63 ?hbase ?h))
      case hs => rfl
      case hown => exact HR.out.2.1
      case hx => rfl
      case hl => rfl
      case hq => exact HXR.out
      case h63 => have h1 := HTL.out; rw [HT1.out, List.length_append] at h1; have := HR.out.1; have := HF.out; omega
      case hbase => exact HR.out.2.2.size
      intro A2 c2 wa own2 hba
      have HR2 := Lib.hid (show m + x.S.length = (flat (L.take (i + 1))).length ∧ wa.ownsRow w.heap.size 52 8 (.slice A2 (m + x.S.length) c2) (m + x.S.length) (rowsL (flat (L.take (i + 1)))) ∧ Below w.heap.size w wa from ⟨by rw [HT1.out, List.length_append, ← HR.out.1], by rw [HT1.out]; exact own2, HR.out.2.2.trans hba⟩)
      clear own2 hba HT1 HXR HTL HR
      generalize m + x.S.length = m2 at HR2 ⊢
      go_wp2
      go_roundw
      case rel => exact ⟨i + 1, m2, A2, c2, by simp, rfl, by omega, HR2⟩
      case measure => simp [intOf]; omega
    · obtain rfl : i = N := by omega
      have htk : L.take i = L := List.take_of_length_le (by rw [← HH.out.2]; exact Nat.le_refl _)
      have hown := HR.out.2.1
      have hm := HR.out.1
      rw [htk] at hown hm
      have hmF : m = F := by rw [hm, HFL.out]
      subst hmF
      have SO2 := HSO.out A' c' wr hown HR.out.2.2
      clear hown hm htk HSO HR
      go_wp2_with fail
      refine SO2.mono ?_
      rintro e w5 ⟨A2, c2, R, rfl, H5⟩
      clear SO2
      go_wp2
      go_ret
      exact ⟨A2, c2, R, rfl, H5.out.1, H5.out.2.1, H5.out.2.2.1, H5.out.2.2.2⟩

/-- Two lists of the same events. -/
structure SameR (w : World) (A : Option Addr) (S : List EvS) : Prop where
  raw : RawEv w A S
  text : ∀ r ∈ S, Sees w r.A r.n r.e.text
theorem SameR.below {w w' : World} {A : Option Addr} {S : List EvS} (h : SameR w A S) (hb : Below w.heap.size w w') : SameR w' A S :=
  ⟨fun h0 => by
    obtain ⟨b, o, h1, h2⟩ := h.raw h0
    exact ⟨b, o, h1, fun j v hv => by rw [hb.cell (World.block_lt_of_cell? _ _ (h2 j v hv))]; exact h2 j v hv⟩, fun r hr => (h.text r hr).below hb⟩
end Go.Proofs.YthdflbpmabcjlaaDoor.Ord
namespace Go.Proofs.YthdflbpmabcjlaaDoor.Ord
open Go Go.RowKit Go.Proofs.YthdflbpmabcjlaaDoor.Words
set_option linter.unusedVariables false
set_option linter.unusedSimpArgs false

theorem frame_fold (tm : Array Value) : ∀ (ds : List Nat) (u : Array Value), u.size = tm.size → (∀ t, t ∉ ds → tm.getD t undef = u.getD t undef) → tm = ds.foldl (fun u d => u.setIfInBounds d (tm.getD d undef)) u
  | [], u, hs, h => by
    apply Array.ext
    · exact hs.symm
    · intro i h1 h2
      have h3 : i < u.size := by omega
      have := h i (by simp)
      simpa [Array.getD, h1, h3] using this
  | d :: ds, u, hs, h => by
    refine frame_fold tm ds (u.setIfInBounds d (tm.getD d undef)) (by simp [hs]) fun t ht => ?_
    by_cases e : d = t
    · subst e
      by_cases hb : d < u.size
      · have hb' : d < tm.size := by omega
        simp [Array.getD, hb, hb']
      · have hb' : ¬ d < tm.size := by omega
        simp [Array.getD, hb, hb']
    · have := h t (by simp only [List.mem_cons, not_or]; exact ⟨fun x => e x.symm, ht⟩)
      rw [this]
      simp only [Array.getD_eq_getD_getElem?]
      rw [Array.getElem?_setIfInBounds_ne e]
theorem frame_region {n : Nat} {l : List Oper} {tm tm0 : Array Value} (hs : tm.size = n) (hs0 : tm0.size = n) (hold : ∀ t : Nat, (∀ i : Nat, (l.toArray[i]?).bind (·.dst) ≠ some t) → tm.getD t undef = tm0.getD t undef) :
    tm = (l.filterMap (·.dst)).foldl (fun u d => u.setIfInBounds d (tm.getD d undef)) tm0 := by
  refine frame_fold tm _ tm0 (by omega) fun t ht => hold t fun i e => ht ?_
  rw [List.getElem?_toArray] at e
  cases ho : l[i]? with
  | none => rw [ho] at e; cases e
  | some o =>
    rw [ho] at e
    exact List.mem_filterMap.2 ⟨o, List.mem_of_getElem? ho, e⟩
end Go.Proofs.YthdflbpmabcjlaaDoor.Ord
namespace Go.Proofs.YthdflbpmabcjlaaDoor.Ord
open Go Go.ChangeShapes Go.WideShapes Go.RowKit Go.Proofs.YthdflbpmabcjlaaDoor.Words
set_option linter.unusedVariables false

theorem seesH_of_row {w : World} {a : Option Addr} {len cap : Nat} {zs : List Int}
    (h : (a = none ∧ len = 0 ∧ cap = 0 ∧ zs = []) ∨ ∃ x, a = some x ∧ len ≤ cap ∧ cap ≤ maxLen ∧ zs.length = cap ∧ (∀ i, i < zs.length → w.cell? (x.add i) = some (.int .u16 (zs.getD i 0))) ∧ ∀ n ∈ zs, (Lit.int .u16 n).wf = true) :
    ∃ l, SeesH w a len l ∧ len ≤ cap ∧ cap ≤ maxLen := by
  rcases h with ⟨rfl, rfl, rfl, rfl⟩ | ⟨x, rfl, hl, hm, hz, hc, hw⟩
  · exact ⟨[], ⟨rfl, fun h => absurd h (by omega), fun x hx => by cases hx⟩, Nat.le_refl _, Nat.zero_le _⟩
  · have hb : ∀ y ∈ zs, ∃ z : Nat, y = (z : Int) ∧ z < 65536 := by
      intro y hy
      have := hw y hy
      simp [Lit.wf, IntKind.min, IntKind.max, IntKind.signed, IntKind.bits] at this
      exact ⟨y.toNat, by omega, by omega⟩
    refine ⟨(zs.take len).map Int.toNat, ⟨by simp; omega, fun hn => ?_, fun y hy => ?_⟩, hl, hm⟩
    · obtain ⟨b, o, s⟩ := x
      have hs0 : s = none := by
        have := hc 0 (by omega)
        simpa [Addr.add] using World.cell?_spot this
      subst hs0
      refine ⟨b, o, rfl, fun j u hu => ?_⟩
      have hj : j < len := by
        have := (List.getElem?_eq_some_iff.1 hu).1
        simp at this; omega
      rw [List.getElem?_map, List.getElem?_take, if_pos hj, List.getElem?_eq_getElem (by omega)] at hu
      injection hu with hu
      have hcj := hc j (by omega)
      rw [Words.add_plain] at hcj
      rw [hcj, List.getD_eq_getElem?_getD, List.getElem?_eq_getElem (by omega)]
      obtain ⟨z, hz1, hz2⟩ := hb _ (List.getElem_mem (show j < zs.length by omega))
      rw [← hu, Option.getD_some, hz1]
      simp
    · obtain ⟨z, hz1, rfl⟩ := List.mem_map.1 hy
      obtain ⟨q, hq1, hq2⟩ := hb z (List.mem_of_mem_take hz1)
      rw [hq1]
      simpa using hq2
end Go.Proofs.YthdflbpmabcjlaaDoor.Ord
