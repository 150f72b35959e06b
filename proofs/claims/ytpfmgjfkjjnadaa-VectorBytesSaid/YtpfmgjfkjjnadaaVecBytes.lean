/- The law VectorBytes, walked out of what is asked of package vector. -/
import Derived.Test.YtpfmgjfkjjnadaaVecSmall
import Derived.Test.YtpfmgjfkjjnadaaActs
import Derived.Test.YtpfmgjfkjjnadaaKeeps
namespace Go.Proofs.Ytpfmgjfkjjnadaa.Vec
open Go Go.RowKit Go.Proofs.Ytpfmgjfkjjnadaa.Words Go.Proofs.Ytpfmgjfkjjnadaa.Enc Go.Proofs.Ytpfmgjfkjjnadaa.Made Go.Proofs.Ytpfmgjfkjjnadaa.Tape
set_option linter.unusedVariables false
set_option linter.unusedSimpArgs false

theorem sees_new (w : World) (l : List UInt8) (T : TypeId) : Sees (w.alloc (.cells (cs l).toArray T)) (some ⟨w.heap.size, 0, none⟩) l.length l :=
  ⟨rfl, fun _ => ⟨w.heap.size, 0, rfl, fun j x hx => by
    rw [Nat.zero_add, cell_of_row _ w.heap.size _ _ _ _ (heap_alloc_new w (.cells (cs l).toArray T))]
    have := cs_get hx
    simpa using this⟩⟩
theorem strAdd (l : List UInt8) : (⟨#[97, 98]⟩ : ByteArray) ++ ⟨l.toArray⟩ = ⟨([97, 98] ++ l).toArray⟩ := by
  apply ByteArray.ext
  simp
theorem wanted_not {ops : Array Oper} {o : Oper} {a : Act} {g d : Nat} {b : Bool} (h : o.guard = some (g, b)) (hd : (ops[g]?).bind (·.dst) = some d) (hv : a.tmps.getD d undef = .bool (!b)) : Region.wanted o (yielded ops a.tmps) = false := by
  have hlt : d < a.tmps.size := by
    rcases Nat.lt_or_ge d a.tmps.size with h' | h'
    · exact h'
    · rw [Array.getD_eq_getD_getElem?, Array.getElem?_eq_none h'] at hv
      cases hv
  have hy : yielded ops a.tmps g = some (!b) := by
    unfold yielded
    rw [hd]
    simp only [Option.bind_some]
    rw [Array.getD_eq_getD_getElem?, Array.getElem?_eq_getElem hlt] at hv
    rw [Array.getElem?_eq_getElem hlt]
    simp only [Option.getD_some] at hv
    rw [hv]
  cases b <;> simp [Region.wanted, h, hy]
theorem wanted_undef {ops : Array Oper} {o : Oper} {a : Act} {g d : Nat} {b : Bool} (h : o.guard = some (g, b)) (hd : (ops[g]?).bind (·.dst) = some d) (hv : a.tmps.getD d undef = undef) : Region.wanted o (yielded ops a.tmps) = false := by
  have hy : yielded ops a.tmps g = none := by
    unfold yielded
    rw [hd]
    simp only [Option.bind_some]
    rw [Array.getD_eq_getD_getElem?] at hv
    cases hc : a.tmps[d]? with
    | none => rfl
    | some v =>
      rw [hc] at hv
      simp only [Option.getD_some] at hv
      rw [hv]
      rfl
  simp [Region.wanted, h, hy]
theorem step_skip {P : Program} {ops : Array Oper} {a0 : Act} {w0 : World} {L : List Facts.Pred} {j : Nat} {o : Oper}
    (h : ∀ (a : Act) (w : World), (∀ i d, Facts.dep ops j i d = true → Facts.holds L i (a.tmps.getD d undef) w) → Region.wanted o (yielded ops a.tmps) = false) (hu : ∀ w, Facts.holds L j undef w) :
    Facts.Step P ops a0 w0 (fun a b => Below a.heap.size a b) (Facts.holds L) j o := fun a w _ _ hnew =>
  ⟨fun hw => absurd hw (by rw [h a w hnew]; decide), fun _ => hu w⟩

set_option maxRecDepth 100000 in
set_option maxHeartbeats 8000000 in
theorem bytes_law (hj : JoinSaid) (hs : SameSaid) (hl : LackSaid) (hby : BytesSaid) (hlay : LaySaid) (hof : OfSaid) (A Q : Option Addr) (n c pn pc : Nat) (v : List Nat) (p : List UInt8) (w : World)
    (hv : SeesU w A n v) (hp : Sees w Q pn p) (fv : Fits v) (hc : n ≤ c) (hpc : pn ≤ pc) (hc2 : c ≤ 9223372036854775807) (hpc2 : pc ≤ 9223372036854775807) :
    Calls Try.prog 6 #[.slice A n c, .slice Q pn pc] w fun e w' => e = .returned (.bool true) ∧ Below w.heap.size w w' := by
  by_cases h1 : 64 < n
  case pos =>
    go_enter Try.func6, Try.ntmps6
    go_wp2_with fail
    refine (awake_any hj hs hl _).mono ?_
    rintro e w1 ⟨rfl, b1⟩
    go_wp2_with fail
    refine (awake_any hj hs hl _).mono ?_
    rintro e w2 ⟨rfl, b2⟩
    go_wp2
    go_ret
    exact ⟨rfl, b1.trans (b2.mono b1.size)⟩
  by_cases h2 : 300 < pn
  case pos =>
    go_enter Try.func6, Try.ntmps6
    go_wp2_with fail
    refine (awake_any hj hs hl _).mono ?_
    rintro e w1 ⟨rfl, b1⟩
    go_wp2_with fail
    refine (awake_any hj hs hl _).mono ?_
    rintro e w2 ⟨rfl, b2⟩
    go_wp2
    go_ret
    exact ⟨rfl, b1.trans (b2.mono b1.size)⟩
  go_enter Try.func6, Try.ntmps6
  go_wp2_with fail
  refine (awake_any hj hs hl _).mono ?_
  rintro e w1 ⟨rfl, b1⟩
  have hv1 := hv.below b1
  have hp1 := hp.below b1
  clear hv hp
  go_wp2_with fail
  refine (small_any A n c v w1 hv1 (by omega)).mono ?_
  rintro e w2 ⟨bs, rfl, hyes, hno, hw2⟩
  subst hw2
  cases bs with
  | false =>
    clear hyes hno
    go_wp2
    go_ret
    exact ⟨rfl, b1⟩
  | true =>
    have hsm := hyes rfl
    clear hyes hno
    have tv : Took2 w2 A n c v := ⟨hv1, fv, hc, hc2, by omega⟩
    go_wp2_with fail
    refine (hby A n c v w2 tv hsm).mono ?_
    rintro e w3 ⟨B5, c5, rfl, hs5, hcB, hcB2, hb3⟩
    have bel3 := b1.trans (hb3.mono b1.size)
    have hp3 := hp1.below hb3
    have tv3 := tv.below hb3
    have hln := layL_len hsm
    have hof5 := hof B5 (layL v).length c5 (layL v) w3 hs5 hcB hcB2 (by omega)
    rw [decV_of hsm] at hof5
    clear hv1 hp1 tv hb3
    have HOF5 := Lib.hid hof5
    clear hof5
    go_wp2_with fail
    refine HOF5.out.mono ?_
    rintro e w4 ⟨R6, k6, c6, rfl, hs6, hk6, hk6', hb4⟩
    have tx4 : Took2 w4 R6 k6 c6 (trimL v) := ⟨hs6, small_fits (small_trim hsm), hk6, hk6', by have := hs6.1; have := (small_trim hsm).1; omega⟩
    have bel4 := bel3.trans (hb4.mono bel3.size)
    have hp4 := hp3.below hb4
    have tv4 := tv3.below hb4
    have hB4 := hs5.below hb4
    have hof6 := hof Q pn pc p w4 hp4 hpc hpc2 (by omega)
    clear hp3 tv3 hb4 hs5 hs6 HOF5
    have HOF6 := Lib.hid hof6
    clear hof6
    go_wp2_with fail
    refine HOF6.out.mono ?_
    intro e u0 hg
    have SM := Lib.hid hsm
    have LN := Lib.hid hln
    obtain ⟨qq, hqq⟩ : ∃ qq, qq = [97, 98] ++ layL v := ⟨_, rfl⟩
    have QQ := Lib.hid hqq
    clear hqq
    cases g : decV p with
    | inl E =>
      have hE := decV_errs g
      rw [g] at hg
      obtain ⟨R8, c8, rfl, hc8, hb5⟩ := hg
      have bel := bel4.trans (hb5.mono bel4.size)
      have hp5 := hp4.below hb5
      have tv5 := tv4.below hb5
      have hB5 := hB4.below hb5
      have tx5 := tx4.below hb5
      have HB : Hid (∀ W, Below u0.heap.size u0 W → Sees W B5 (layL v).length (layL v)) := Lib.hid fun W hW => hB5.below hW
      have HV : Hid (∀ W, Below u0.heap.size u0 W → Took2 W A n c v) := Lib.hid fun W hW => tv5.below hW
      have HX : Hid (∀ W, Below u0.heap.size u0 W → Took2 W R6 k6 c6 (trimL v)) := Lib.hid fun W hW => tx5.below hW
      clear hp4 tv4 hB4 tx4 hb5 hp5 tv5 hB5 tx5 hsm HOF6 g bel3 bel4 hln hcB hcB2 hk6 hk6' h1 h2 hc hpc hc2 hpc2
      have UP : Hid (∀ W, Below u0.drew.heap.size u0.drew W → Below u0.heap.size u0 W) := Lib.hid fun W hW => ((Below.refl _ _).drew).trans hW
      rcases hE with rfl | rfl | rfl
      · go_wp2_with fail
        refine Facts.wp_region_preds (n := 95) (by kernel_rfl) (by kernel_rfl) rfl [Facts.Pred.is (Value.int .i64 4), Facts.Pred.is (Value.bool false), Facts.Pred.is (Value.bool false), Facts.Pred.is undef, Facts.Pred.is undef, Facts.Pred.is undef, Facts.Pred.is undef, Facts.Pred.is undef, Facts.Pred.is undef, Facts.Pred.is (Value.bool false), Facts.Pred.is (Value.bool false), Facts.Pred.is (Value.int .i64 4), Facts.Pred.is (Value.bool true), Facts.Pred.is (Value.bool true), Facts.Pred.is (Value.slice R8 0 c8), Facts.Pred.is (Value.int .i64 0), Facts.Pred.is (Value.bool false), Facts.Pred.is (Value.bool false), Facts.Pred.is (Value.int .i64 4), Facts.Pred.is (Value.bool false), Facts.Pred.is (Value.bool false), Facts.Pred.is undef, Facts.Pred.is undef, Facts.Pred.is (Value.bool false), Facts.Pred.is (Value.bool false), Facts.Pred.is undef, Facts.Pred.is undef, Facts.Pred.is (Value.bool false), Facts.Pred.is (Value.bool false), Facts.Pred.is (Value.bool false), Facts.Pred.is (Value.bool false)] ?_ ?_
        · refine ⟨?_, ?_, ?_, ?_, ?_, ?_, ?_, ?_, ?_, ?_, ?_, ?_, ?_, ?_, ?_, ?_, ?_, ?_, ?_, ?_, ?_, ?_, ?_, ?_, ?_, ?_, ?_, ?_, ?_, ?_, ?_, trivial⟩
          · refine Facts.step_is (Value.int .i64 4) fun a W hR hold hnew => ?_
            have f9 : a.tmps.getD 9 undef = Value.int .i64 4 := hold 9 (by kernel_rfl)
            refine ⟨Facts.wanted_free rfl, ?_, fun _ => rfl⟩
            simp [go_sem, Act.eval, f9]
          · refine Facts.step_is (Value.bool false) fun a W hR hold hnew => ?_
            have f38 : a.tmps.getD 38 undef = Value.int .i64 4 := hnew 0 38 (by kernel_rfl)
            refine ⟨Facts.wanted_free rfl, ?_, fun _ => rfl⟩
            simp [go_sem, Act.eval, f38]
          · refine Facts.step_is (Value.bool false) fun a W hR hold hnew => ?_
            have f39 : a.tmps.getD 39 undef = Value.bool false := hnew 1 39 (by kernel_rfl)
            refine ⟨Facts.wanted_free rfl, ?_, fun _ => rfl⟩
            simp [go_sem, Act.eval, f39]
          · -- 3: Op.move t8
            refine step_skip (fun a W hnew => ?_) (fun _ => rfl)
            have g40 : a.tmps.getD 40 undef = .bool false := hnew 2 40 (by kernel_rfl)
            exact wanted_not rfl (by kernel_rfl) g40
          · -- 4: Op.call { value (Operand.func 19), args := #[t41], argTypes 
            refine step_skip (fun a W hnew => ?_) (fun _ => rfl)
            have g40 : a.tmps.getD 40 undef = .bool false := hnew 2 40 (by kernel_rfl)
            exact wanted_not rfl (by kernel_rfl) g40
          · -- 5: Op.convert 34 9 t42
            refine step_skip (fun a W hnew => ?_) (fun _ => rfl)
            have g40 : a.tmps.getD 40 undef = .bool false := hnew 2 40 (by kernel_rfl)
            exact wanted_not rfl (by kernel_rfl) g40
          · -- 6: Op.move t1
            refine step_skip (fun a W hnew => ?_) (fun _ => rfl)
            have g40 : a.tmps.getD 40 undef = .bool false := hnew 2 40 (by kernel_rfl)
            exact wanted_not rfl (by kernel_rfl) g40
          · -- 7: Op.convert 34 9 t44
            refine step_skip (fun a W hnew => ?_) (fun _ => rfl)
            have g40 : a.tmps.getD 40 undef = .bool false := hnew 2 40 (by kernel_rfl)
            exact wanted_not rfl (by kernel_rfl) g40
          · -- 8: Op.binOp BinOp.neq 9 t43 t45 9
            refine step_skip (fun a W hnew => ?_) (fun _ => rfl)
            have g40 : a.tmps.getD 40 undef = .bool false := hnew 2 40 (by kernel_rfl)
            exact wanted_not rfl (by kernel_rfl) g40
          · refine Facts.step_is (Value.bool false) fun a W hR hold hnew => ?_
            have f40 : a.tmps.getD 40 undef = Value.bool false := hnew 2 40 (by kernel_rfl)
            refine ⟨Facts.wanted_free rfl, ?_, fun _ => rfl⟩
            simp [go_sem, Act.eval, f40]
          · refine Facts.step_is (Value.bool false) fun a W hR hold hnew => ?_
            have f47 : a.tmps.getD 47 undef = Value.bool false := hnew 9 47 (by kernel_rfl)
            refine ⟨Facts.wanted_free rfl, ?_, fun _ => rfl⟩
            simp [go_sem, Act.eval, f47]
          · refine Facts.step_is (Value.int .i64 4) fun a W hR hold hnew => ?_
            have f9 : a.tmps.getD 9 undef = Value.int .i64 4 := hold 9 (by kernel_rfl)
            have g48 : a.tmps.getD 48 undef = .bool false := hnew 10 48 (by kernel_rfl)
            refine ⟨Facts.wanted_by rfl (by kernel_rfl) g48, ?_, fun _ => rfl⟩
            simp [go_sem, Act.eval, f9]
          · refine Facts.step_is (Value.bool true) fun a W hR hold hnew => ?_
            have f49 : a.tmps.getD 49 undef = Value.int .i64 4 := hnew 11 49 (by kernel_rfl)
            have g48 : a.tmps.getD 48 undef = .bool false := hnew 10 48 (by kernel_rfl)
            refine ⟨Facts.wanted_by rfl (by kernel_rfl) g48, ?_, fun _ => rfl⟩
            simp [go_sem, Act.eval, f49]
          · refine Facts.step_is (Value.bool true) fun a W hR hold hnew => ?_
            have f50 : a.tmps.getD 50 undef = Value.bool true := hnew 12 50 (by kernel_rfl)
            have g48 : a.tmps.getD 48 undef = .bool false := hnew 10 48 (by kernel_rfl)
            refine ⟨Facts.wanted_by rfl (by kernel_rfl) g48, ?_, fun _ => rfl⟩
            simp [go_sem, Act.eval, f50]
          · refine Facts.step_is (Value.slice R8 0 c8) fun a W hR hold hnew => ?_
            have f8 : a.tmps.getD 8 undef = Value.slice R8 0 c8 := hold 8 (by kernel_rfl)
            have g51 : a.tmps.getD 51 undef = .bool true := hnew 13 51 (by kernel_rfl)
            refine ⟨Facts.wanted_by rfl (by kernel_rfl) g51, ?_, fun _ => rfl⟩
            simp [go_sem, Act.eval, f8]
          · refine Facts.step_is (Value.int .i64 0) fun a W hR hold hnew => ?_
            have f52 : a.tmps.getD 52 undef = Value.slice R8 0 c8 := hnew 14 52 (by kernel_rfl)
            have g51 : a.tmps.getD 51 undef = .bool true := hnew 13 51 (by kernel_rfl)
            refine ⟨Facts.wanted_by rfl (by kernel_rfl) g51, ?_, fun _ => rfl⟩
            simp [go_sem, Act.eval, f52]
          · refine Facts.step_is (Value.bool false) fun a W hR hold hnew => ?_
            have f53 : a.tmps.getD 53 undef = Value.int .i64 0 := hnew 15 53 (by kernel_rfl)
            have g51 : a.tmps.getD 51 undef = .bool true := hnew 13 51 (by kernel_rfl)
            refine ⟨Facts.wanted_by rfl (by kernel_rfl) g51, ?_, fun _ => rfl⟩
            simp [go_sem, Act.eval, f53]
          · refine Facts.step_is (Value.bool false) fun a W hR hold hnew => ?_
            have f54 : a.tmps.getD 54 undef = Value.bool false := hnew 16 54 (by kernel_rfl)
            have g51 : a.tmps.getD 51 undef = .bool true := hnew 13 51 (by kernel_rfl)
            refine ⟨Facts.wanted_by rfl (by kernel_rfl) g51, ?_, fun _ => rfl⟩
            simp [go_sem, Act.eval, f54]
          · refine Facts.step_is (Value.int .i64 4) fun a W hR hold hnew => ?_
            have f9 : a.tmps.getD 9 undef = Value.int .i64 4 := hold 9 (by kernel_rfl)
            have g55 : a.tmps.getD 55 undef = .bool false := hnew 17 55 (by kernel_rfl)
            refine ⟨Facts.wanted_by rfl (by kernel_rfl) g55, ?_, fun _ => rfl⟩
            simp [go_sem, Act.eval, f9]
          · refine Facts.step_is (Value.bool false) fun a W hR hold hnew => ?_
            have f56 : a.tmps.getD 56 undef = Value.int .i64 4 := hnew 18 56 (by kernel_rfl)
            have g55 : a.tmps.getD 55 undef = .bool false := hnew 17 55 (by kernel_rfl)
            refine ⟨Facts.wanted_by rfl (by kernel_rfl) g55, ?_, fun _ => rfl⟩
            simp [go_sem, Act.eval, f56]
          · refine Facts.step_is (Value.bool false) fun a W hR hold hnew => ?_
            have f57 : a.tmps.getD 57 undef = Value.bool false := hnew 19 57 (by kernel_rfl)
            have g55 : a.tmps.getD 55 undef = .bool false := hnew 17 55 (by kernel_rfl)
            refine ⟨Facts.wanted_by rfl (by kernel_rfl) g55, ?_, fun _ => rfl⟩
            simp [go_sem, Act.eval, f57]
          · -- 21: Op.move t9
            refine step_skip (fun a W hnew => ?_) (fun _ => rfl)
            have g58 : a.tmps.getD 58 undef = .bool false := hnew 20 58 (by kernel_rfl)
            exact wanted_not rfl (by kernel_rfl) g58
          · -- 22: Op.binOp BinOp.neq 37 t59 (const (5:i64)) 37
            refine step_skip (fun a W hnew => ?_) (fun _ => rfl)
            have g58 : a.tmps.getD 58 undef = .bool false := hnew 20 58 (by kernel_rfl)
            exact wanted_not rfl (by kernel_rfl) g58
          · refine Facts.step_is (Value.bool false) fun a W hR hold hnew => ?_
            have f58 : a.tmps.getD 58 undef = Value.bool false := hnew 20 58 (by kernel_rfl)
            have g55 : a.tmps.getD 55 undef = .bool false := hnew 17 55 (by kernel_rfl)
            refine ⟨Facts.wanted_by rfl (by kernel_rfl) g55, ?_, fun _ => rfl⟩
            simp [go_sem, Act.eval, f58]
          · refine Facts.step_is (Value.bool false) fun a W hR hold hnew => ?_
            have f61 : a.tmps.getD 61 undef = Value.bool false := hnew 23 61 (by kernel_rfl)
            have g55 : a.tmps.getD 55 undef = .bool false := hnew 17 55 (by kernel_rfl)
            refine ⟨Facts.wanted_by rfl (by kernel_rfl) g55, ?_, fun _ => rfl⟩
            simp [go_sem, Act.eval, f61]
          · -- 25: Op.move t9
            refine step_skip (fun a W hnew => ?_) (fun _ => rfl)
            have g62 : a.tmps.getD 62 undef = .bool false := hnew 24 62 (by kernel_rfl)
            exact wanted_not rfl (by kernel_rfl) g62
          · -- 26: Op.binOp BinOp.neq 37 t63 (const (6:i64)) 37
            refine step_skip (fun a W hnew => ?_) (fun _ => rfl)
            have g62 : a.tmps.getD 62 undef = .bool false := hnew 24 62 (by kernel_rfl)
            exact wanted_not rfl (by kernel_rfl) g62
          · refine Facts.step_is (Value.bool false) fun a W hR hold hnew => ?_
            have f62 : a.tmps.getD 62 undef = Value.bool false := hnew 24 62 (by kernel_rfl)
            have g55 : a.tmps.getD 55 undef = .bool false := hnew 17 55 (by kernel_rfl)
            refine ⟨Facts.wanted_by rfl (by kernel_rfl) g55, ?_, fun _ => rfl⟩
            simp [go_sem, Act.eval, f62]
          · refine Facts.step_is (Value.bool false) fun a W hR hold hnew => ?_
            have f55 : a.tmps.getD 55 undef = Value.bool false := hnew 17 55 (by kernel_rfl)
            have f65 : a.tmps.getD 65 undef = Value.bool false := hnew 27 65 (by kernel_rfl)
            have g51 : a.tmps.getD 51 undef = .bool true := hnew 13 51 (by kernel_rfl)
            refine ⟨Facts.wanted_by rfl (by kernel_rfl) g51, ?_, fun _ => rfl⟩
            simp [go_sem, Act.eval, f55, f65]
          · refine Facts.step_is (Value.bool false) fun a W hR hold hnew => ?_
            have f51 : a.tmps.getD 51 undef = Value.bool true := hnew 13 51 (by kernel_rfl)
            have f66 : a.tmps.getD 66 undef = Value.bool false := hnew 28 66 (by kernel_rfl)
            have g48 : a.tmps.getD 48 undef = .bool false := hnew 10 48 (by kernel_rfl)
            refine ⟨Facts.wanted_by rfl (by kernel_rfl) g48, ?_, fun _ => rfl⟩
            simp [go_sem, Act.eval, f51, f66]
          · refine Facts.step_is (Value.bool false) fun a W hR hold hnew => ?_
            have f48 : a.tmps.getD 48 undef = Value.bool false := hnew 10 48 (by kernel_rfl)
            have f67 : a.tmps.getD 67 undef = Value.bool false := hnew 29 67 (by kernel_rfl)
            refine ⟨Facts.wanted_free rfl, ?_, fun _ => rfl⟩
            simp [go_sem, Act.eval, f48, f67]
        · intro a w3 hR' hsize hdef hnew hold
          have f68 : a.tmps.getD 68 undef = Value.bool false := hnew 30 68 (by kernel_rfl)
          have f0 : a.tmps.getD 0 undef = Value.slice A n c := hold 0 (Facts.not_dst (by kernel_rfl))
          have f5 : a.tmps.getD 5 undef = Value.slice B5 (layL v).length c5 := hold 5 (Facts.not_dst (by kernel_rfl))
          have f6 : a.tmps.getD 6 undef = Value.slice R6 k6 c6 := hold 6 (Facts.not_dst (by kernel_rfl))
          have f7 : a.tmps.getD 7 undef = Value.int .i64 0 := hold 7 (Facts.not_dst (by kernel_rfl))
          obtain ⟨tm, df⟩ := a
          simp only [] at hdef hsize f68 f0 f5 f6 f7
          have hlit : tm = #[tm.getD 0 undef, tm.getD 1 undef, tm.getD 2 undef, tm.getD 3 undef, tm.getD 4 undef, tm.getD 5 undef, tm.getD 6 undef, tm.getD 7 undef, tm.getD 8 undef, tm.getD 9 undef, tm.getD 10 undef, tm.getD 11 undef, tm.getD 12 undef, tm.getD 13 undef, tm.getD 14 undef, tm.getD 15 undef, tm.getD 16 undef, tm.getD 17 undef, tm.getD 18 undef, tm.getD 19 undef, tm.getD 20 undef, tm.getD 21 undef, tm.getD 22 undef, tm.getD 23 undef, tm.getD 24 undef, tm.getD 25 undef, tm.getD 26 undef, tm.getD 27 undef, tm.getD 28 undef, tm.getD 29 undef, tm.getD 30 undef, tm.getD 31 undef, tm.getD 32 undef, tm.getD 33 undef, tm.getD 34 undef, tm.getD 35 undef, tm.getD 36 undef, tm.getD 37 undef, tm.getD 38 undef, tm.getD 39 undef, tm.getD 40 undef, tm.getD 41 undef, tm.getD 42 undef, tm.getD 43 undef, tm.getD 44 undef, tm.getD 45 undef, tm.getD 46 undef, tm.getD 47 undef, tm.getD 48 undef, tm.getD 49 undef, tm.getD 50 undef, tm.getD 51 undef, tm.getD 52 undef, tm.getD 53 undef, tm.getD 54 undef, tm.getD 55 undef, tm.getD 56 undef, tm.getD 57 undef, tm.getD 58 undef, tm.getD 59 undef, tm.getD 60 undef, tm.getD 61 undef, tm.getD 62 undef, tm.getD 63 undef, tm.getD 64 undef, tm.getD 65 undef, tm.getD 66 undef, tm.getD 67 undef, tm.getD 68 undef, tm.getD 69 undef, tm.getD 70 undef, tm.getD 71 undef, tm.getD 72 undef, tm.getD 73 undef, tm.getD 74 undef, tm.getD 75 undef, tm.getD 76 undef, tm.getD 77 undef, tm.getD 78 undef, tm.getD 79 undef, tm.getD 80 undef, tm.getD 81 undef, tm.getD 82 undef, tm.getD 83 undef, tm.getD 84 undef, tm.getD 85 undef, tm.getD 86 undef, tm.getD 87 undef, tm.getD 88 undef, tm.getD 89 undef, tm.getD 90 undef, tm.getD 91 undef, tm.getD 92 undef, tm.getD 93 undef, tm.getD 94 undef] := (Facts.array_lit tm hsize).trans rfl
          rw [f68, f0, f5, f6, f7] at hlit
          clear f68 f0 f5 f6 f7 hsize hnew hold
          generalize tm.getD 1 undef = x1 at hlit
          generalize tm.getD 2 undef = x2 at hlit
          generalize tm.getD 3 undef = x3 at hlit
          generalize tm.getD 4 undef = x4 at hlit
          generalize tm.getD 8 undef = x8 at hlit
          generalize tm.getD 9 undef = x9 at hlit
          generalize tm.getD 10 undef = x10 at hlit
          generalize tm.getD 11 undef = x11 at hlit
          generalize tm.getD 12 undef = x12 at hlit
          generalize tm.getD 13 undef = x13 at hlit
          generalize tm.getD 14 undef = x14 at hlit
          generalize tm.getD 15 undef = x15 at hlit
          generalize tm.getD 16 undef = x16 at hlit
          generalize tm.getD 17 undef = x17 at hlit
          generalize tm.getD 18 undef = x18 at hlit
          generalize tm.getD 19 undef = x19 at hlit
          generalize tm.getD 20 undef = x20 at hlit
          generalize tm.getD 21 undef = x21 at hlit
          generalize tm.getD 22 undef = x22 at hlit
          generalize tm.getD 23 undef = x23 at hlit
          generalize tm.getD 24 undef = x24 at hlit
          generalize tm.getD 25 undef = x25 at hlit
          generalize tm.getD 26 undef = x26 at hlit
          generalize tm.getD 27 undef = x27 at hlit
          generalize tm.getD 28 undef = x28 at hlit
          generalize tm.getD 29 undef = x29 at hlit
          generalize tm.getD 30 undef = x30 at hlit
          generalize tm.getD 31 undef = x31 at hlit
          generalize tm.getD 32 undef = x32 at hlit
          generalize tm.getD 33 undef = x33 at hlit
          generalize tm.getD 34 undef = x34 at hlit
          generalize tm.getD 35 undef = x35 at hlit
          generalize tm.getD 36 undef = x36 at hlit
          generalize tm.getD 37 undef = x37 at hlit
          generalize tm.getD 38 undef = x38 at hlit
          generalize tm.getD 39 undef = x39 at hlit
          generalize tm.getD 40 undef = x40 at hlit
          generalize tm.getD 41 undef = x41 at hlit
          generalize tm.getD 42 undef = x42 at hlit
          generalize tm.getD 43 undef = x43 at hlit
          generalize tm.getD 44 undef = x44 at hlit
          generalize tm.getD 45 undef = x45 at hlit
          generalize tm.getD 46 undef = x46 at hlit
          generalize tm.getD 47 undef = x47 at hlit
          generalize tm.getD 48 undef = x48 at hlit
          generalize tm.getD 49 undef = x49 at hlit
          generalize tm.getD 50 undef = x50 at hlit
          generalize tm.getD 51 undef = x51 at hlit
          generalize tm.getD 52 undef = x52 at hlit
          generalize tm.getD 53 undef = x53 at hlit
          generalize tm.getD 54 undef = x54 at hlit
          generalize tm.getD 55 undef = x55 at hlit
          generalize tm.getD 56 undef = x56 at hlit
          generalize tm.getD 57 undef = x57 at hlit
          generalize tm.getD 58 undef = x58 at hlit
          generalize tm.getD 59 undef = x59 at hlit
          generalize tm.getD 60 undef = x60 at hlit
          generalize tm.getD 61 undef = x61 at hlit
          generalize tm.getD 62 undef = x62 at hlit
          generalize tm.getD 63 undef = x63 at hlit
          generalize tm.getD 64 undef = x64 at hlit
          generalize tm.getD 65 undef = x65 at hlit
          generalize tm.getD 66 undef = x66 at hlit
          generalize tm.getD 67 undef = x67 at hlit
          generalize tm.getD 69 undef = x69 at hlit
          generalize tm.getD 70 undef = x70 at hlit
          generalize tm.getD 71 undef = x71 at hlit
          generalize tm.getD 72 undef = x72 at hlit
          generalize tm.getD 73 undef = x73 at hlit
          generalize tm.getD 74 undef = x74 at hlit
          generalize tm.getD 75 undef = x75 at hlit
          generalize tm.getD 76 undef = x76 at hlit
          generalize tm.getD 77 undef = x77 at hlit
          generalize tm.getD 78 undef = x78 at hlit
          generalize tm.getD 79 undef = x79 at hlit
          generalize tm.getD 80 undef = x80 at hlit
          generalize tm.getD 81 undef = x81 at hlit
          generalize tm.getD 82 undef = x82 at hlit
          generalize tm.getD 83 undef = x83 at hlit
          generalize tm.getD 84 undef = x84 at hlit
          generalize tm.getD 85 undef = x85 at hlit
          generalize tm.getD 86 undef = x86 at hlit
          generalize tm.getD 87 undef = x87 at hlit
          generalize tm.getD 88 undef = x88 at hlit
          generalize tm.getD 89 undef = x89 at hlit
          generalize tm.getD 90 undef = x90 at hlit
          generalize tm.getD 91 undef = x91 at hlit
          generalize tm.getD 92 undef = x92 at hlit
          generalize tm.getD 93 undef = x93 at hlit
          generalize tm.getD 94 undef = x94 at hlit
          subst hlit
          subst hdef
          try simp only []
          have b3 := UP.out w3 hR'
          clear UP hR'
          go_wp2_with fail
          have UP2 : Hid (∀ W, Keeps.R 2 w3.heap.size w3.drew W → Below u0.heap.size u0 W) := Lib.hid fun W hW => (b3.drew).trans (hW.1.mono b3.size)
          have hB0 : w3.heap.size ≤ w3.drew.heap.size := Nat.le_refl _
          refine Keeps.wp_region_keeps (n := 95) (by kernel_rfl) (by kernel_rfl) rfl w3.heap.size [Keeps.Pred.is (m := 2) (Value.slice B5 (layL v).length c5), Keeps.Pred.is (Value.string ⟨(layL v).toArray⟩), Keeps.Pred.is (Value.slice A n c), Keeps.Pred.row (layL v).length (layL v), Keeps.Pred.is (Value.string ⟨(layL v).toArray⟩), Keeps.Pred.is (Value.bool true), Keeps.Pred.is (Value.bool true), Keeps.Pred.is (Value.int .i64 0), Keeps.Pred.is (Value.bool true), Keeps.Pred.is (Value.bool true), Keeps.Pred.is (Value.bool true), Keeps.Pred.is (Value.slice R6 k6 c6), Keeps.Pred.is (Value.slice A n c), Keeps.Pred.is (Value.bool true), Keeps.Pred.is (Value.bool true), Keeps.Pred.is (Value.bool true), Keeps.Pred.is (Value.slice A n c), Keeps.Pred.laid (m := 2) w3.heap.size #[.int .u8 97, .int .u8 98] 5, Keeps.Pred.row 2 [97, 98], Keeps.Pred.row qq.length qq, Keeps.Pred.is (Value.string ⟨qq.toArray⟩), Keeps.Pred.is (Value.slice B5 (layL v).length c5), Keeps.Pred.is (Value.string ⟨(layL v).toArray⟩), Keeps.Pred.is (Value.string ⟨qq.toArray⟩), Keeps.Pred.is (Value.bool true), Keeps.Pred.is (Value.bool true), Keeps.Pred.is (Value.bool true)] ?_ ?_
          · refine ⟨?_, ?_, ?_, ?_, ?_, ?_, ?_, ?_, ?_, ?_, ?_, ?_, ?_, ?_, ?_, ?_, ?_, ?_, ?_, ?_, ?_, ?_, ?_, ?_, ?_, ?_, ?_, trivial⟩
            · refine Keeps.step_is (Value.slice B5 (layL v).length c5) fun a W hR hold hnew => ?_
              have f5 : a.tmps.getD 5 undef = Value.slice B5 (layL v).length c5 := hold 5 (by kernel_rfl)
              refine ⟨Facts.wanted_free rfl, ?_, fun _ => rfl⟩
              simp [go_sem, Act.eval, f5]
            · refine Keeps.step_is (Value.string ⟨(layL v).toArray⟩) fun a W hR hold hnew => ?_
              have f69 : a.tmps.getD 69 undef = Value.slice B5 (layL v).length c5 := hnew 0 69 (by kernel_rfl)
              have r := (HB.out W (UP2.out W hR)).string (P := Try.prog) c5 (t := 34) (s := 9) (e := 5) Try.underlying34 Try.underlying5 Try.underlying9
              refine ⟨Facts.wanted_free rfl, ?_, fun _ => rfl⟩
              simp [go_sem, Act.eval, f69, r]
            · refine Keeps.step_is (Value.slice A n c) fun a W hR hold hnew => ?_
              have f0 : a.tmps.getD 0 undef = Value.slice A n c := hold 0 (by kernel_rfl)
              refine ⟨Facts.wanted_free rfl, ?_, fun _ => rfl⟩
              simp [go_sem, Act.eval, f0]
            · -- 3: Op.call { value (Operand.func 21), args := #[const (Value.sl
              refine Keeps.step_call hB0 fun a W hR hold hnew => ?_
              have f71 : a.tmps.getD 71 undef = Value.slice A n c := hnew 2 71 (by kernel_rfl)
              refine ⟨Facts.wanted_free rfl, 21, #[.slice none 0 0, Value.slice A n c], by simp [go_sem, Act.eval, f71], ?_⟩
              have h := refLayV_any none A 0 0 n c [] v W (Sees.nil _ _) (HV.out W (UP2.out W hR)).1 SM.out (by decide)
              rw [Nat.zero_add, List.nil_append] at h
              refine h.mono ?_
              rintro e' w7 ⟨R9, rc9, rfl, hs9, hb9⟩
              exact ⟨_, rfl, hb9, R9, rc9, rfl, (Own.cap hs9).1, (Own.cap hs9).2, Sees.of_own hs9⟩
            · -- 4: Op.convert 34 9 t72
              refine Keeps.step_is (Value.string ⟨(layL v).toArray⟩) fun a W hR hold hnew => ?_
              have h72 : ∃ A' c', a.tmps.getD 72 undef = .slice A' (layL v).length c' ∧ (layL v).length ≤ c' ∧ c' ≤ 9223372036854775807 ∧ Sees W A' (layL v).length (layL v) := hnew 3 72 (by kernel_rfl)
              obtain ⟨A9, c9, f72, -, -, hs9⟩ := h72
              have r := (hs9).string (P := Try.prog) c9 (t := 34) (s := 9) (e := 5) Try.underlying34 Try.underlying5 Try.underlying9
              refine ⟨Facts.wanted_free rfl, ?_, fun _ => rfl⟩
              simp [go_sem, Act.eval, f72, r]
            · refine Keeps.step_is (Value.bool true) fun a W hR hold hnew => ?_
              have f70 : a.tmps.getD 70 undef = Value.string ⟨(layL v).toArray⟩ := hnew 1 70 (by kernel_rfl)
              have f73 : a.tmps.getD 73 undef = Value.string ⟨(layL v).toArray⟩ := hnew 4 73 (by kernel_rfl)
              refine ⟨Facts.wanted_free rfl, ?_, fun _ => rfl⟩
              simp [go_sem, Act.eval, f70, f73]
            · refine Keeps.step_is (Value.bool true) fun a W hR hold hnew => ?_
              have f74 : a.tmps.getD 74 undef = Value.bool true := hnew 5 74 (by kernel_rfl)
              refine ⟨Facts.wanted_free rfl, ?_, fun _ => rfl⟩
              simp [go_sem, Act.eval, f74]
            · refine Keeps.step_is (Value.int .i64 0) fun a W hR hold hnew => ?_
              have f7 : a.tmps.getD 7 undef = Value.int .i64 0 := hold 7 (by kernel_rfl)
              have g75 : a.tmps.getD 75 undef = .bool true := hnew 6 75 (by kernel_rfl)
              refine ⟨Facts.wanted_by rfl (by kernel_rfl) g75, ?_, fun _ => rfl⟩
              simp [go_sem, Act.eval, f7]
            · refine Keeps.step_is (Value.bool true) fun a W hR hold hnew => ?_
              have f76 : a.tmps.getD 76 undef = Value.int .i64 0 := hnew 7 76 (by kernel_rfl)
              have g75 : a.tmps.getD 75 undef = .bool true := hnew 6 75 (by kernel_rfl)
              refine ⟨Facts.wanted_by rfl (by kernel_rfl) g75, ?_, fun _ => rfl⟩
              simp [go_sem, Act.eval, f76]
            · refine Keeps.step_is (Value.bool true) fun a W hR hold hnew => ?_
              have f75 : a.tmps.getD 75 undef = Value.bool true := hnew 6 75 (by kernel_rfl)
              have f77 : a.tmps.getD 77 undef = Value.bool true := hnew 8 77 (by kernel_rfl)
              refine ⟨Facts.wanted_free rfl, ?_, fun _ => rfl⟩
              simp [go_sem, Act.eval, f75, f77]
            · refine Keeps.step_is (Value.bool true) fun a W hR hold hnew => ?_
              have f78 : a.tmps.getD 78 undef = Value.bool true := hnew 9 78 (by kernel_rfl)
              refine ⟨Facts.wanted_free rfl, ?_, fun _ => rfl⟩
              simp [go_sem, Act.eval, f78]
            · refine Keeps.step_is (Value.slice R6 k6 c6) fun a W hR hold hnew => ?_
              have f6 : a.tmps.getD 6 undef = Value.slice R6 k6 c6 := hold 6 (by kernel_rfl)
              have g79 : a.tmps.getD 79 undef = .bool true := hnew 10 79 (by kernel_rfl)
              refine ⟨Facts.wanted_by rfl (by kernel_rfl) g79, ?_, fun _ => rfl⟩
              simp [go_sem, Act.eval, f6]
            · refine Keeps.step_is (Value.slice A n c) fun a W hR hold hnew => ?_
              have f0 : a.tmps.getD 0 undef = Value.slice A n c := hold 0 (by kernel_rfl)
              have g79 : a.tmps.getD 79 undef = .bool true := hnew 10 79 (by kernel_rfl)
              refine ⟨Facts.wanted_by rfl (by kernel_rfl) g79, ?_, fun _ => rfl⟩
              simp [go_sem, Act.eval, f0]
            · -- 13: Op.call { value (Operand.func 15), args := #[t80, t81], argT
              refine Keeps.step_call hB0 fun a W hR hold hnew => ?_
              have f80 : a.tmps.getD 80 undef = Value.slice R6 k6 c6 := hnew 11 80 (by kernel_rfl); have f81 : a.tmps.getD 81 undef = Value.slice A n c := hnew 12 81 (by kernel_rfl); have g79 : a.tmps.getD 79 undef = .bool true := hnew 10 79 (by kernel_rfl)
              refine ⟨Facts.wanted_by rfl (by kernel_rfl) g79, 15, #[Value.slice R6 k6 c6, Value.slice A n c], by simp [go_sem, Act.eval, f80, f81], ?_⟩
              refine (hs _ _ _ _ _ _ _ _ W (HX.out W (UP2.out W hR)) (HV.out W (UP2.out W hR))).mono ?_
              rintro e' w7 ⟨rfl, hb9⟩
              exact ⟨_, rfl, hb9, congrArg Value.bool (same_yes fun i => trimL_at v i)⟩
            · refine Keeps.step_is (Value.bool true) fun a W hR hold hnew => ?_
              have f79 : a.tmps.getD 79 undef = Value.bool true := hnew 10 79 (by kernel_rfl)
              have f82 : a.tmps.getD 82 undef = Value.bool true := hnew 13 82 (by kernel_rfl)
              refine ⟨Facts.wanted_free rfl, ?_, fun _ => rfl⟩
              simp [go_sem, Act.eval, f79, f82]
            · refine Keeps.step_is (Value.bool true) fun a W hR hold hnew => ?_
              have f83 : a.tmps.getD 83 undef = Value.bool true := hnew 14 83 (by kernel_rfl)
              refine ⟨Facts.wanted_free rfl, ?_, fun _ => rfl⟩
              simp [go_sem, Act.eval, f83]
            · refine Keeps.step_is (Value.slice A n c) fun a W hR hold hnew => ?_
              have f0 : a.tmps.getD 0 undef = Value.slice A n c := hold 0 (by kernel_rfl)
              have g84 : a.tmps.getD 84 undef = .bool true := hnew 15 84 (by kernel_rfl)
              refine ⟨Facts.wanted_by rfl (by kernel_rfl) g84, ?_, fun _ => rfl⟩
              simp [go_sem, Act.eval, f0]
            · -- 17: Op.buildSlice 34 2 #[(0, const (97:u8)), (1, const (98:u8))]
              refine Keeps.step_new fun a W hR hold hnew => ?_
              have g84 : a.tmps.getD 84 undef = .bool true := hnew 15 84 (by kernel_rfl)
              have hl := Keeps.laid_new (m := 2) (B := w3.heap.size) W #[.int .u8 97, .int .u8 98] 5 hR.1.size
              exact ⟨Facts.wanted_by rfl (by kernel_rfl) g84, .slice (some ⟨W.heap.size, 0, none⟩) 2 2, W.alloc (.cells #[.int .u8 97, .int .u8 98] 5), by simp [go_sem, Act.eval], hl.1, hl.2⟩
            · -- 18: Op.convert 34 34 t86
              refine Keeps.step_new fun a W hR hold hnew => ?_
              have h86 : ∃ g fr, a.tmps.getD 86 undef = .slice (some ⟨g, 0, none⟩) 2 2 ∧ w3.heap.size ≤ g ∧ W.heap[g]? = some (.cells #[.int .u8 97, .int .u8 98] 5 fr) := hnew 17 86 (by kernel_rfl)
              have g84 : a.tmps.getD 84 undef = .bool true := hnew 15 84 (by kernel_rfl)
              obtain ⟨g, fr, f86, hgB, hg⟩ := h86
              obtain ⟨W', hrun, hR'⟩ := Keeps.run_mark (P := Try.prog) 2 2 Try.underlying34 Try.underlying5 hg hgB (m := 2) (Nat.le_refl _)
              refine ⟨Facts.wanted_by rfl (by kernel_rfl) g84, .slice (some ⟨g, 0, none⟩) 2 2, W', by simp [go_sem, Act.eval, f86, hrun], hR', _, 2, rfl, Nat.le_refl _, by omega, rfl, fun _ => ⟨g, 0, rfl, fun j u hj => hR'.2.cell ?_⟩⟩
              rw [cell_of_row W g (0 + j) _ _ _ hg]
              match j, hj with
              | 0, hj => simp at hj; subst hj; rfl
              | 1, hj => simp at hj; subst hj; rfl
            · -- 19: Op.call { value (Operand.func 22), args := #[t85, t87], argT
              refine Keeps.step_call hB0 fun a W hR hold hnew => ?_
              have f85 : a.tmps.getD 85 undef = Value.slice A n c := hnew 16 85 (by kernel_rfl)
              have h87 : ∃ A' c', a.tmps.getD 87 undef = .slice A' 2 c' ∧ 2 ≤ c' ∧ c' ≤ 9223372036854775807 ∧ Sees W A' 2 [97, 98] := hnew 18 87 (by kernel_rfl)
              have g84 : a.tmps.getD 84 undef = .bool true := hnew 15 84 (by kernel_rfl)
              obtain ⟨A9, c9, f87, hc9, hm9, hs9⟩ := h87
              refine ⟨Facts.wanted_by rfl (by kernel_rfl) g84, 22, #[Value.slice A n c, .slice A9 2 c9], by simp [go_sem, Act.eval, f85, f87], ?_⟩
              have h := hlay A A9 n c 2 c9 v [97, 98] W (HV.out W (UP2.out W hR)) SM.out hs9 hc9 hm9 (by decide)
              rw [← QQ.out] at h
              refine h.mono ?_
              rintro e' w7 ⟨R9, rc9, rfl, hs9, hc9, hm9, hb9⟩
              exact ⟨_, rfl, hb9, R9, rc9, rfl, hc9, hm9, hs9⟩
            · -- 20: Op.convert 34 9 t88
              refine Keeps.step_is (Value.string ⟨qq.toArray⟩) fun a W hR hold hnew => ?_
              have h88 : ∃ A' c', a.tmps.getD 88 undef = .slice A' qq.length c' ∧ qq.length ≤ c' ∧ c' ≤ 9223372036854775807 ∧ Sees W A' qq.length qq := hnew 19 88 (by kernel_rfl)
              have g84 : a.tmps.getD 84 undef = .bool true := hnew 15 84 (by kernel_rfl)
              obtain ⟨A9, c9, f88, -, -, hs9⟩ := h88
              have r := (hs9).string (P := Try.prog) c9 (t := 34) (s := 9) (e := 5) Try.underlying34 Try.underlying5 Try.underlying9
              refine ⟨Facts.wanted_by rfl (by kernel_rfl) g84, ?_, fun _ => rfl⟩
              simp [go_sem, Act.eval, f88, r]
            · refine Keeps.step_is (Value.slice B5 (layL v).length c5) fun a W hR hold hnew => ?_
              have f5 : a.tmps.getD 5 undef = Value.slice B5 (layL v).length c5 := hold 5 (by kernel_rfl)
              have g84 : a.tmps.getD 84 undef = .bool true := hnew 15 84 (by kernel_rfl)
              refine ⟨Facts.wanted_by rfl (by kernel_rfl) g84, ?_, fun _ => rfl⟩
              simp [go_sem, Act.eval, f5]
            · refine Keeps.step_is (Value.string ⟨(layL v).toArray⟩) fun a W hR hold hnew => ?_
              have f90 : a.tmps.getD 90 undef = Value.slice B5 (layL v).length c5 := hnew 21 90 (by kernel_rfl)
              have g84 : a.tmps.getD 84 undef = .bool true := hnew 15 84 (by kernel_rfl)
              have r := (HB.out W (UP2.out W hR)).string (P := Try.prog) c5 (t := 34) (s := 9) (e := 5) Try.underlying34 Try.underlying5 Try.underlying9
              refine ⟨Facts.wanted_by rfl (by kernel_rfl) g84, ?_, fun _ => rfl⟩
              simp [go_sem, Act.eval, f90, r]
            · refine Keeps.step_is (Value.string ⟨qq.toArray⟩) fun a W hR hold hnew => ?_
              have f91 : a.tmps.getD 91 undef = Value.string ⟨(layL v).toArray⟩ := hnew 22 91 (by kernel_rfl)
              have g84 : a.tmps.getD 84 undef = .bool true := hnew 15 84 (by kernel_rfl)
              have r := strAdd (layL v)
              rw [← QQ.out] at r
              have hbnd : 2 + (layL v).length ≤ 9223372036854775807 := by have := LN.out; omega
              refine ⟨Facts.wanted_by rfl (by kernel_rfl) g84, ?_, fun _ => rfl⟩
              simp [go_sem, Act.eval, f91, r, hbnd]
            · refine Keeps.step_is (Value.bool true) fun a W hR hold hnew => ?_
              have f89 : a.tmps.getD 89 undef = Value.string ⟨qq.toArray⟩ := hnew 20 89 (by kernel_rfl)
              have f92 : a.tmps.getD 92 undef = Value.string ⟨qq.toArray⟩ := hnew 23 92 (by kernel_rfl)
              have g84 : a.tmps.getD 84 undef = .bool true := hnew 15 84 (by kernel_rfl)
              refine ⟨Facts.wanted_by rfl (by kernel_rfl) g84, ?_, fun _ => rfl⟩
              simp [go_sem, Act.eval, f89, f92]
            · refine Keeps.step_is (Value.bool true) fun a W hR hold hnew => ?_
              have f84 : a.tmps.getD 84 undef = Value.bool true := hnew 15 84 (by kernel_rfl)
              have f93 : a.tmps.getD 93 undef = Value.bool true := hnew 24 93 (by kernel_rfl)
              refine ⟨Facts.wanted_free rfl, ?_, fun _ => rfl⟩
              simp [go_sem, Act.eval, f84, f93]
            · refine Keeps.step_is (Value.bool true) fun a W hR hold hnew => ?_
              have f94 : a.tmps.getD 94 undef = Value.bool true := hnew 25 94 (by kernel_rfl)
              refine ⟨Facts.wanted_free rfl, ?_, fun _ => rfl⟩
              simp [go_sem, Act.eval, f94]
          · intro a w4 hR' hsize hdef hnew hold
            have f4 : a.tmps.getD 4 undef = Value.bool true := hnew 26 4 (by kernel_rfl)
            obtain ⟨tm, df⟩ := a
            simp only [] at hdef hsize f4
            have hlit : tm = #[tm.getD 0 undef, tm.getD 1 undef, tm.getD 2 undef, tm.getD 3 undef, tm.getD 4 undef, tm.getD 5 undef, tm.getD 6 undef, tm.getD 7 undef, tm.getD 8 undef, tm.getD 9 undef, tm.getD 10 undef, tm.getD 11 undef, tm.getD 12 undef, tm.getD 13 undef, tm.getD 14 undef, tm.getD 15 undef, tm.getD 16 undef, tm.getD 17 undef, tm.getD 18 undef, tm.getD 19 undef, tm.getD 20 undef, tm.getD 21 undef, tm.getD 22 undef, tm.getD 23 undef, tm.getD 24 undef, tm.getD 25 undef, tm.getD 26 undef, tm.getD 27 undef, tm.getD 28 undef, tm.getD 29 undef, tm.getD 30 undef, tm.getD 31 undef, tm.getD 32 undef, tm.getD 33 undef, tm.getD 34 undef, tm.getD 35 undef, tm.getD 36 undef, tm.getD 37 undef, tm.getD 38 undef, tm.getD 39 undef, tm.getD 40 undef, tm.getD 41 undef, tm.getD 42 undef, tm.getD 43 undef, tm.getD 44 undef, tm.getD 45 undef, tm.getD 46 undef, tm.getD 47 undef, tm.getD 48 undef, tm.getD 49 undef, tm.getD 50 undef, tm.getD 51 undef, tm.getD 52 undef, tm.getD 53 undef, tm.getD 54 undef, tm.getD 55 undef, tm.getD 56 undef, tm.getD 57 undef, tm.getD 58 undef, tm.getD 59 undef, tm.getD 60 undef, tm.getD 61 undef, tm.getD 62 undef, tm.getD 63 undef, tm.getD 64 undef, tm.getD 65 undef, tm.getD 66 undef, tm.getD 67 undef, tm.getD 68 undef, tm.getD 69 undef, tm.getD 70 undef, tm.getD 71 undef, tm.getD 72 undef, tm.getD 73 undef, tm.getD 74 undef, tm.getD 75 undef, tm.getD 76 undef, tm.getD 77 undef, tm.getD 78 undef, tm.getD 79 undef, tm.getD 80 undef, tm.getD 81 undef, tm.getD 82 undef, tm.getD 83 undef, tm.getD 84 undef, tm.getD 85 undef, tm.getD 86 undef, tm.getD 87 undef, tm.getD 88 undef, tm.getD 89 undef, tm.getD 90 undef, tm.getD 91 undef, tm.getD 92 undef, tm.getD 93 undef, tm.getD 94 undef] := (Facts.array_lit tm hsize).trans rfl
            rw [f4] at hlit
            clear f4 hsize hnew hold
            generalize tm.getD 0 undef = x0 at hlit
            generalize tm.getD 1 undef = x1 at hlit
            generalize tm.getD 2 undef = x2 at hlit
            generalize tm.getD 3 undef = x3 at hlit
            generalize tm.getD 5 undef = x5 at hlit
            generalize tm.getD 6 undef = x6 at hlit
            generalize tm.getD 7 undef = x7 at hlit
            generalize tm.getD 8 undef = x8 at hlit
            generalize tm.getD 9 undef = x9 at hlit
            generalize tm.getD 10 undef = x10 at hlit
            generalize tm.getD 11 undef = x11 at hlit
            generalize tm.getD 12 undef = x12 at hlit
            generalize tm.getD 13 undef = x13 at hlit
            generalize tm.getD 14 undef = x14 at hlit
            generalize tm.getD 15 undef = x15 at hlit
            generalize tm.getD 16 undef = x16 at hlit
            generalize tm.getD 17 undef = x17 at hlit
            generalize tm.getD 18 undef = x18 at hlit
            generalize tm.getD 19 undef = x19 at hlit
            generalize tm.getD 20 undef = x20 at hlit
            generalize tm.getD 21 undef = x21 at hlit
            generalize tm.getD 22 undef = x22 at hlit
            generalize tm.getD 23 undef = x23 at hlit
            generalize tm.getD 24 undef = x24 at hlit
            generalize tm.getD 25 undef = x25 at hlit
            generalize tm.getD 26 undef = x26 at hlit
            generalize tm.getD 27 undef = x27 at hlit
            generalize tm.getD 28 undef = x28 at hlit
            generalize tm.getD 29 undef = x29 at hlit
            generalize tm.getD 30 undef = x30 at hlit
            generalize tm.getD 31 undef = x31 at hlit
            generalize tm.getD 32 undef = x32 at hlit
            generalize tm.getD 33 undef = x33 at hlit
            generalize tm.getD 34 undef = x34 at hlit
            generalize tm.getD 35 undef = x35 at hlit
            generalize tm.getD 36 undef = x36 at hlit
            generalize tm.getD 37 undef = x37 at hlit
            generalize tm.getD 38 undef = x38 at hlit
            generalize tm.getD 39 undef = x39 at hlit
            generalize tm.getD 40 undef = x40 at hlit
            generalize tm.getD 41 undef = x41 at hlit
            generalize tm.getD 42 undef = x42 at hlit
            generalize tm.getD 43 undef = x43 at hlit
            generalize tm.getD 44 undef = x44 at hlit
            generalize tm.getD 45 undef = x45 at hlit
            generalize tm.getD 46 undef = x46 at hlit
            generalize tm.getD 47 undef = x47 at hlit
            generalize tm.getD 48 undef = x48 at hlit
            generalize tm.getD 49 undef = x49 at hlit
            generalize tm.getD 50 undef = x50 at hlit
            generalize tm.getD 51 undef = x51 at hlit
            generalize tm.getD 52 undef = x52 at hlit
            generalize tm.getD 53 undef = x53 at hlit
            generalize tm.getD 54 undef = x54 at hlit
            generalize tm.getD 55 undef = x55 at hlit
            generalize tm.getD 56 undef = x56 at hlit
            generalize tm.getD 57 undef = x57 at hlit
            generalize tm.getD 58 undef = x58 at hlit
            generalize tm.getD 59 undef = x59 at hlit
            generalize tm.getD 60 undef = x60 at hlit
            generalize tm.getD 61 undef = x61 at hlit
            generalize tm.getD 62 undef = x62 at hlit
            generalize tm.getD 63 undef = x63 at hlit
            generalize tm.getD 64 undef = x64 at hlit
            generalize tm.getD 65 undef = x65 at hlit
            generalize tm.getD 66 undef = x66 at hlit
            generalize tm.getD 67 undef = x67 at hlit
            generalize tm.getD 68 undef = x68 at hlit
            generalize tm.getD 69 undef = x69 at hlit
            generalize tm.getD 70 undef = x70 at hlit
            generalize tm.getD 71 undef = x71 at hlit
            generalize tm.getD 72 undef = x72 at hlit
            generalize tm.getD 73 undef = x73 at hlit
            generalize tm.getD 74 undef = x74 at hlit
            generalize tm.getD 75 undef = x75 at hlit
            generalize tm.getD 76 undef = x76 at hlit
            generalize tm.getD 77 undef = x77 at hlit
            generalize tm.getD 78 undef = x78 at hlit
            generalize tm.getD 79 undef = x79 at hlit
            generalize tm.getD 80 undef = x80 at hlit
            generalize tm.getD 81 undef = x81 at hlit
            generalize tm.getD 82 undef = x82 at hlit
            generalize tm.getD 83 undef = x83 at hlit
            generalize tm.getD 84 undef = x84 at hlit
            generalize tm.getD 85 undef = x85 at hlit
            generalize tm.getD 86 undef = x86 at hlit
            generalize tm.getD 87 undef = x87 at hlit
            generalize tm.getD 88 undef = x88 at hlit
            generalize tm.getD 89 undef = x89 at hlit
            generalize tm.getD 90 undef = x90 at hlit
            generalize tm.getD 91 undef = x91 at hlit
            generalize tm.getD 92 undef = x92 at hlit
            generalize tm.getD 93 undef = x93 at hlit
            generalize tm.getD 94 undef = x94 at hlit
            subst hlit
            subst hdef
            try simp only []
            have b4 := UP2.out w4 hR'
            clear UP2 hR'
            go_wp2
            go_ret
            exact ⟨rfl, bel.trans (b4.mono bel.size)⟩
      · go_wp2_with fail
        refine Facts.wp_region_preds (n := 95) (by kernel_rfl) (by kernel_rfl) rfl [Facts.Pred.is (Value.int .i64 5), Facts.Pred.is (Value.bool false), Facts.Pred.is (Value.bool false), Facts.Pred.is undef, Facts.Pred.is undef, Facts.Pred.is undef, Facts.Pred.is undef, Facts.Pred.is undef, Facts.Pred.is undef, Facts.Pred.is (Value.bool false), Facts.Pred.is (Value.bool false), Facts.Pred.is (Value.int .i64 5), Facts.Pred.is (Value.bool true), Facts.Pred.is (Value.bool true), Facts.Pred.is (Value.slice R8 0 c8), Facts.Pred.is (Value.int .i64 0), Facts.Pred.is (Value.bool false), Facts.Pred.is (Value.bool false), Facts.Pred.is (Value.int .i64 5), Facts.Pred.is (Value.bool true), Facts.Pred.is (Value.bool true), Facts.Pred.is (Value.int .i64 5), Facts.Pred.is (Value.bool false), Facts.Pred.is (Value.bool false), Facts.Pred.is (Value.bool false), Facts.Pred.is undef, Facts.Pred.is undef, Facts.Pred.is (Value.bool false), Facts.Pred.is (Value.bool false), Facts.Pred.is (Value.bool false), Facts.Pred.is (Value.bool false)] ?_ ?_
        · refine ⟨?_, ?_, ?_, ?_, ?_, ?_, ?_, ?_, ?_, ?_, ?_, ?_, ?_, ?_, ?_, ?_, ?_, ?_, ?_, ?_, ?_, ?_, ?_, ?_, ?_, ?_, ?_, ?_, ?_, ?_, ?_, trivial⟩
          · refine Facts.step_is (Value.int .i64 5) fun a W hR hold hnew => ?_
            have f9 : a.tmps.getD 9 undef = Value.int .i64 5 := hold 9 (by kernel_rfl)
            refine ⟨Facts.wanted_free rfl, ?_, fun _ => rfl⟩
            simp [go_sem, Act.eval, f9]
          · refine Facts.step_is (Value.bool false) fun a W hR hold hnew => ?_
            have f38 : a.tmps.getD 38 undef = Value.int .i64 5 := hnew 0 38 (by kernel_rfl)
            refine ⟨Facts.wanted_free rfl, ?_, fun _ => rfl⟩
            simp [go_sem, Act.eval, f38]
          · refine Facts.step_is (Value.bool false) fun a W hR hold hnew => ?_
            have f39 : a.tmps.getD 39 undef = Value.bool false := hnew 1 39 (by kernel_rfl)
            refine ⟨Facts.wanted_free rfl, ?_, fun _ => rfl⟩
            simp [go_sem, Act.eval, f39]
          · -- 3: Op.move t8
            refine step_skip (fun a W hnew => ?_) (fun _ => rfl)
            have g40 : a.tmps.getD 40 undef = .bool false := hnew 2 40 (by kernel_rfl)
            exact wanted_not rfl (by kernel_rfl) g40
          · -- 4: Op.call { value (Operand.func 19), args := #[t41], argTypes 
            refine step_skip (fun a W hnew => ?_) (fun _ => rfl)
            have g40 : a.tmps.getD 40 undef = .bool false := hnew 2 40 (by kernel_rfl)
            exact wanted_not rfl (by kernel_rfl) g40
          · -- 5: Op.convert 34 9 t42
            refine step_skip (fun a W hnew => ?_) (fun _ => rfl)
            have g40 : a.tmps.getD 40 undef = .bool false := hnew 2 40 (by kernel_rfl)
            exact wanted_not rfl (by kernel_rfl) g40
          · -- 6: Op.move t1
            refine step_skip (fun a W hnew => ?_) (fun _ => rfl)
            have g40 : a.tmps.getD 40 undef = .bool false := hnew 2 40 (by kernel_rfl)
            exact wanted_not rfl (by kernel_rfl) g40
          · -- 7: Op.convert 34 9 t44
            refine step_skip (fun a W hnew => ?_) (fun _ => rfl)
            have g40 : a.tmps.getD 40 undef = .bool false := hnew 2 40 (by kernel_rfl)
            exact wanted_not rfl (by kernel_rfl) g40
          · -- 8: Op.binOp BinOp.neq 9 t43 t45 9
            refine step_skip (fun a W hnew => ?_) (fun _ => rfl)
            have g40 : a.tmps.getD 40 undef = .bool false := hnew 2 40 (by kernel_rfl)
            exact wanted_not rfl (by kernel_rfl) g40
          · refine Facts.step_is (Value.bool false) fun a W hR hold hnew => ?_
            have f40 : a.tmps.getD 40 undef = Value.bool false := hnew 2 40 (by kernel_rfl)
            refine ⟨Facts.wanted_free rfl, ?_, fun _ => rfl⟩
            simp [go_sem, Act.eval, f40]
          · refine Facts.step_is (Value.bool false) fun a W hR hold hnew => ?_
            have f47 : a.tmps.getD 47 undef = Value.bool false := hnew 9 47 (by kernel_rfl)
            refine ⟨Facts.wanted_free rfl, ?_, fun _ => rfl⟩
            simp [go_sem, Act.eval, f47]
          · refine Facts.step_is (Value.int .i64 5) fun a W hR hold hnew => ?_
            have f9 : a.tmps.getD 9 undef = Value.int .i64 5 := hold 9 (by kernel_rfl)
            have g48 : a.tmps.getD 48 undef = .bool false := hnew 10 48 (by kernel_rfl)
            refine ⟨Facts.wanted_by rfl (by kernel_rfl) g48, ?_, fun _ => rfl⟩
            simp [go_sem, Act.eval, f9]
          · refine Facts.step_is (Value.bool true) fun a W hR hold hnew => ?_
            have f49 : a.tmps.getD 49 undef = Value.int .i64 5 := hnew 11 49 (by kernel_rfl)
            have g48 : a.tmps.getD 48 undef = .bool false := hnew 10 48 (by kernel_rfl)
            refine ⟨Facts.wanted_by rfl (by kernel_rfl) g48, ?_, fun _ => rfl⟩
            simp [go_sem, Act.eval, f49]
          · refine Facts.step_is (Value.bool true) fun a W hR hold hnew => ?_
            have f50 : a.tmps.getD 50 undef = Value.bool true := hnew 12 50 (by kernel_rfl)
            have g48 : a.tmps.getD 48 undef = .bool false := hnew 10 48 (by kernel_rfl)
            refine ⟨Facts.wanted_by rfl (by kernel_rfl) g48, ?_, fun _ => rfl⟩
            simp [go_sem, Act.eval, f50]
          · refine Facts.step_is (Value.slice R8 0 c8) fun a W hR hold hnew => ?_
            have f8 : a.tmps.getD 8 undef = Value.slice R8 0 c8 := hold 8 (by kernel_rfl)
            have g51 : a.tmps.getD 51 undef = .bool true := hnew 13 51 (by kernel_rfl)
            refine ⟨Facts.wanted_by rfl (by kernel_rfl) g51, ?_, fun _ => rfl⟩
            simp [go_sem, Act.eval, f8]
          · refine Facts.step_is (Value.int .i64 0) fun a W hR hold hnew => ?_
            have f52 : a.tmps.getD 52 undef = Value.slice R8 0 c8 := hnew 14 52 (by kernel_rfl)
            have g51 : a.tmps.getD 51 undef = .bool true := hnew 13 51 (by kernel_rfl)
            refine ⟨Facts.wanted_by rfl (by kernel_rfl) g51, ?_, fun _ => rfl⟩
            simp [go_sem, Act.eval, f52]
          · refine Facts.step_is (Value.bool false) fun a W hR hold hnew => ?_
            have f53 : a.tmps.getD 53 undef = Value.int .i64 0 := hnew 15 53 (by kernel_rfl)
            have g51 : a.tmps.getD 51 undef = .bool true := hnew 13 51 (by kernel_rfl)
            refine ⟨Facts.wanted_by rfl (by kernel_rfl) g51, ?_, fun _ => rfl⟩
            simp [go_sem, Act.eval, f53]
          · refine Facts.step_is (Value.bool false) fun a W hR hold hnew => ?_
            have f54 : a.tmps.getD 54 undef = Value.bool false := hnew 16 54 (by kernel_rfl)
            have g51 : a.tmps.getD 51 undef = .bool true := hnew 13 51 (by kernel_rfl)
            refine ⟨Facts.wanted_by rfl (by kernel_rfl) g51, ?_, fun _ => rfl⟩
            simp [go_sem, Act.eval, f54]
          · refine Facts.step_is (Value.int .i64 5) fun a W hR hold hnew => ?_
            have f9 : a.tmps.getD 9 undef = Value.int .i64 5 := hold 9 (by kernel_rfl)
            have g55 : a.tmps.getD 55 undef = .bool false := hnew 17 55 (by kernel_rfl)
            refine ⟨Facts.wanted_by rfl (by kernel_rfl) g55, ?_, fun _ => rfl⟩
            simp [go_sem, Act.eval, f9]
          · refine Facts.step_is (Value.bool true) fun a W hR hold hnew => ?_
            have f56 : a.tmps.getD 56 undef = Value.int .i64 5 := hnew 18 56 (by kernel_rfl)
            have g55 : a.tmps.getD 55 undef = .bool false := hnew 17 55 (by kernel_rfl)
            refine ⟨Facts.wanted_by rfl (by kernel_rfl) g55, ?_, fun _ => rfl⟩
            simp [go_sem, Act.eval, f56]
          · refine Facts.step_is (Value.bool true) fun a W hR hold hnew => ?_
            have f57 : a.tmps.getD 57 undef = Value.bool true := hnew 19 57 (by kernel_rfl)
            have g55 : a.tmps.getD 55 undef = .bool false := hnew 17 55 (by kernel_rfl)
            refine ⟨Facts.wanted_by rfl (by kernel_rfl) g55, ?_, fun _ => rfl⟩
            simp [go_sem, Act.eval, f57]
          · refine Facts.step_is (Value.int .i64 5) fun a W hR hold hnew => ?_
            have f9 : a.tmps.getD 9 undef = Value.int .i64 5 := hold 9 (by kernel_rfl)
            have g58 : a.tmps.getD 58 undef = .bool true := hnew 20 58 (by kernel_rfl)
            refine ⟨Facts.wanted_by rfl (by kernel_rfl) g58, ?_, fun _ => rfl⟩
            simp [go_sem, Act.eval, f9]
          · refine Facts.step_is (Value.bool false) fun a W hR hold hnew => ?_
            have f59 : a.tmps.getD 59 undef = Value.int .i64 5 := hnew 21 59 (by kernel_rfl)
            have g58 : a.tmps.getD 58 undef = .bool true := hnew 20 58 (by kernel_rfl)
            refine ⟨Facts.wanted_by rfl (by kernel_rfl) g58, ?_, fun _ => rfl⟩
            simp [go_sem, Act.eval, f59]
          · refine Facts.step_is (Value.bool false) fun a W hR hold hnew => ?_
            have f58 : a.tmps.getD 58 undef = Value.bool true := hnew 20 58 (by kernel_rfl)
            have f60 : a.tmps.getD 60 undef = Value.bool false := hnew 22 60 (by kernel_rfl)
            have g55 : a.tmps.getD 55 undef = .bool false := hnew 17 55 (by kernel_rfl)
            refine ⟨Facts.wanted_by rfl (by kernel_rfl) g55, ?_, fun _ => rfl⟩
            simp [go_sem, Act.eval, f58, f60]
          · refine Facts.step_is (Value.bool false) fun a W hR hold hnew => ?_
            have f61 : a.tmps.getD 61 undef = Value.bool false := hnew 23 61 (by kernel_rfl)
            have g55 : a.tmps.getD 55 undef = .bool false := hnew 17 55 (by kernel_rfl)
            refine ⟨Facts.wanted_by rfl (by kernel_rfl) g55, ?_, fun _ => rfl⟩
            simp [go_sem, Act.eval, f61]
          · -- 25: Op.move t9
            refine step_skip (fun a W hnew => ?_) (fun _ => rfl)
            have g62 : a.tmps.getD 62 undef = .bool false := hnew 24 62 (by kernel_rfl)
            exact wanted_not rfl (by kernel_rfl) g62
          · -- 26: Op.binOp BinOp.neq 37 t63 (const (6:i64)) 37
            refine step_skip (fun a W hnew => ?_) (fun _ => rfl)
            have g62 : a.tmps.getD 62 undef = .bool false := hnew 24 62 (by kernel_rfl)
            exact wanted_not rfl (by kernel_rfl) g62
          · refine Facts.step_is (Value.bool false) fun a W hR hold hnew => ?_
            have f62 : a.tmps.getD 62 undef = Value.bool false := hnew 24 62 (by kernel_rfl)
            have g55 : a.tmps.getD 55 undef = .bool false := hnew 17 55 (by kernel_rfl)
            refine ⟨Facts.wanted_by rfl (by kernel_rfl) g55, ?_, fun _ => rfl⟩
            simp [go_sem, Act.eval, f62]
          · refine Facts.step_is (Value.bool false) fun a W hR hold hnew => ?_
            have f55 : a.tmps.getD 55 undef = Value.bool false := hnew 17 55 (by kernel_rfl)
            have f65 : a.tmps.getD 65 undef = Value.bool false := hnew 27 65 (by kernel_rfl)
            have g51 : a.tmps.getD 51 undef = .bool true := hnew 13 51 (by kernel_rfl)
            refine ⟨Facts.wanted_by rfl (by kernel_rfl) g51, ?_, fun _ => rfl⟩
            simp [go_sem, Act.eval, f55, f65]
          · refine Facts.step_is (Value.bool false) fun a W hR hold hnew => ?_
            have f51 : a.tmps.getD 51 undef = Value.bool true := hnew 13 51 (by kernel_rfl)
            have f66 : a.tmps.getD 66 undef = Value.bool false := hnew 28 66 (by kernel_rfl)
            have g48 : a.tmps.getD 48 undef = .bool false := hnew 10 48 (by kernel_rfl)
            refine ⟨Facts.wanted_by rfl (by kernel_rfl) g48, ?_, fun _ => rfl⟩
            simp [go_sem, Act.eval, f51, f66]
          · refine Facts.step_is (Value.bool false) fun a W hR hold hnew => ?_
            have f48 : a.tmps.getD 48 undef = Value.bool false := hnew 10 48 (by kernel_rfl)
            have f67 : a.tmps.getD 67 undef = Value.bool false := hnew 29 67 (by kernel_rfl)
            refine ⟨Facts.wanted_free rfl, ?_, fun _ => rfl⟩
            simp [go_sem, Act.eval, f48, f67]
        · intro a w3 hR' hsize hdef hnew hold
          have f68 : a.tmps.getD 68 undef = Value.bool false := hnew 30 68 (by kernel_rfl)
          have f0 : a.tmps.getD 0 undef = Value.slice A n c := hold 0 (Facts.not_dst (by kernel_rfl))
          have f5 : a.tmps.getD 5 undef = Value.slice B5 (layL v).length c5 := hold 5 (Facts.not_dst (by kernel_rfl))
          have f6 : a.tmps.getD 6 undef = Value.slice R6 k6 c6 := hold 6 (Facts.not_dst (by kernel_rfl))
          have f7 : a.tmps.getD 7 undef = Value.int .i64 0 := hold 7 (Facts.not_dst (by kernel_rfl))
          obtain ⟨tm, df⟩ := a
          simp only [] at hdef hsize f68 f0 f5 f6 f7
          have hlit : tm = #[tm.getD 0 undef, tm.getD 1 undef, tm.getD 2 undef, tm.getD 3 undef, tm.getD 4 undef, tm.getD 5 undef, tm.getD 6 undef, tm.getD 7 undef, tm.getD 8 undef, tm.getD 9 undef, tm.getD 10 undef, tm.getD 11 undef, tm.getD 12 undef, tm.getD 13 undef, tm.getD 14 undef, tm.getD 15 undef, tm.getD 16 undef, tm.getD 17 undef, tm.getD 18 undef, tm.getD 19 undef, tm.getD 20 undef, tm.getD 21 undef, tm.getD 22 undef, tm.getD 23 undef, tm.getD 24 undef, tm.getD 25 undef, tm.getD 26 undef, tm.getD 27 undef, tm.getD 28 undef, tm.getD 29 undef, tm.getD 30 undef, tm.getD 31 undef, tm.getD 32 undef, tm.getD 33 undef, tm.getD 34 undef, tm.getD 35 undef, tm.getD 36 undef, tm.getD 37 undef, tm.getD 38 undef, tm.getD 39 undef, tm.getD 40 undef, tm.getD 41 undef, tm.getD 42 undef, tm.getD 43 undef, tm.getD 44 undef, tm.getD 45 undef, tm.getD 46 undef, tm.getD 47 undef, tm.getD 48 undef, tm.getD 49 undef, tm.getD 50 undef, tm.getD 51 undef, tm.getD 52 undef, tm.getD 53 undef, tm.getD 54 undef, tm.getD 55 undef, tm.getD 56 undef, tm.getD 57 undef, tm.getD 58 undef, tm.getD 59 undef, tm.getD 60 undef, tm.getD 61 undef, tm.getD 62 undef, tm.getD 63 undef, tm.getD 64 undef, tm.getD 65 undef, tm.getD 66 undef, tm.getD 67 undef, tm.getD 68 undef, tm.getD 69 undef, tm.getD 70 undef, tm.getD 71 undef, tm.getD 72 undef, tm.getD 73 undef, tm.getD 74 undef, tm.getD 75 undef, tm.getD 76 undef, tm.getD 77 undef, tm.getD 78 undef, tm.getD 79 undef, tm.getD 80 undef, tm.getD 81 undef, tm.getD 82 undef, tm.getD 83 undef, tm.getD 84 undef, tm.getD 85 undef, tm.getD 86 undef, tm.getD 87 undef, tm.getD 88 undef, tm.getD 89 undef, tm.getD 90 undef, tm.getD 91 undef, tm.getD 92 undef, tm.getD 93 undef, tm.getD 94 undef] := (Facts.array_lit tm hsize).trans rfl
          rw [f68, f0, f5, f6, f7] at hlit
          clear f68 f0 f5 f6 f7 hsize hnew hold
          generalize tm.getD 1 undef = x1 at hlit
          generalize tm.getD 2 undef = x2 at hlit
          generalize tm.getD 3 undef = x3 at hlit
          generalize tm.getD 4 undef = x4 at hlit
          generalize tm.getD 8 undef = x8 at hlit
          generalize tm.getD 9 undef = x9 at hlit
          generalize tm.getD 10 undef = x10 at hlit
          generalize tm.getD 11 undef = x11 at hlit
          generalize tm.getD 12 undef = x12 at hlit
          generalize tm.getD 13 undef = x13 at hlit
          generalize tm.getD 14 undef = x14 at hlit
          generalize tm.getD 15 undef = x15 at hlit
          generalize tm.getD 16 undef = x16 at hlit
          generalize tm.getD 17 undef = x17 at hlit
          generalize tm.getD 18 undef = x18 at hlit
          generalize tm.getD 19 undef = x19 at hlit
          generalize tm.getD 20 undef = x20 at hlit
          generalize tm.getD 21 undef = x21 at hlit
          generalize tm.getD 22 undef = x22 at hlit
          generalize tm.getD 23 undef = x23 at hlit
          generalize tm.getD 24 undef = x24 at hlit
          generalize tm.getD 25 undef = x25 at hlit
          generalize tm.getD 26 undef = x26 at hlit
          generalize tm.getD 27 undef = x27 at hlit
          generalize tm.getD 28 undef = x28 at hlit
          generalize tm.getD 29 undef = x29 at hlit
          generalize tm.getD 30 undef = x30 at hlit
          generalize tm.getD 31 undef = x31 at hlit
          generalize tm.getD 32 undef = x32 at hlit
          generalize tm.getD 33 undef = x33 at hlit
          generalize tm.getD 34 undef = x34 at hlit
          generalize tm.getD 35 undef = x35 at hlit
          generalize tm.getD 36 undef = x36 at hlit
          generalize tm.getD 37 undef = x37 at hlit
          generalize tm.getD 38 undef = x38 at hlit
          generalize tm.getD 39 undef = x39 at hlit
          generalize tm.getD 40 undef = x40 at hlit
          generalize tm.getD 41 undef = x41 at hlit
          generalize tm.getD 42 undef = x42 at hlit
          generalize tm.getD 43 undef = x43 at hlit
          generalize tm.getD 44 undef = x44 at hlit
          generalize tm.getD 45 undef = x45 at hlit
          generalize tm.getD 46 undef = x46 at hlit
          generalize tm.getD 47 undef = x47 at hlit
          generalize tm.getD 48 undef = x48 at hlit
          generalize tm.getD 49 undef = x49 at hlit
          generalize tm.getD 50 undef = x50 at hlit
          generalize tm.getD 51 undef = x51 at hlit
          generalize tm.getD 52 undef = x52 at hlit
          generalize tm.getD 53 undef = x53 at hlit
          generalize tm.getD 54 undef = x54 at hlit
          generalize tm.getD 55 undef = x55 at hlit
          generalize tm.getD 56 undef = x56 at hlit
          generalize tm.getD 57 undef = x57 at hlit
          generalize tm.getD 58 undef = x58 at hlit
          generalize tm.getD 59 undef = x59 at hlit
          generalize tm.getD 60 undef = x60 at hlit
          generalize tm.getD 61 undef = x61 at hlit
          generalize tm.getD 62 undef = x62 at hlit
          generalize tm.getD 63 undef = x63 at hlit
          generalize tm.getD 64 undef = x64 at hlit
          generalize tm.getD 65 undef = x65 at hlit
          generalize tm.getD 66 undef = x66 at hlit
          generalize tm.getD 67 undef = x67 at hlit
          generalize tm.getD 69 undef = x69 at hlit
          generalize tm.getD 70 undef = x70 at hlit
          generalize tm.getD 71 undef = x71 at hlit
          generalize tm.getD 72 undef = x72 at hlit
          generalize tm.getD 73 undef = x73 at hlit
          generalize tm.getD 74 undef = x74 at hlit
          generalize tm.getD 75 undef = x75 at hlit
          generalize tm.getD 76 undef = x76 at hlit
          generalize tm.getD 77 undef = x77 at hlit
          generalize tm.getD 78 undef = x78 at hlit
          generalize tm.getD 79 undef = x79 at hlit
          generalize tm.getD 80 undef = x80 at hlit
          generalize tm.getD 81 undef = x81 at hlit
          generalize tm.getD 82 undef = x82 at hlit
          generalize tm.getD 83 undef = x83 at hlit
          generalize tm.getD 84 undef = x84 at hlit
          generalize tm.getD 85 undef = x85 at hlit
          generalize tm.getD 86 undef = x86 at hlit
          generalize tm.getD 87 undef = x87 at hlit
          generalize tm.getD 88 undef = x88 at hlit
          generalize tm.getD 89 undef = x89 at hlit
          generalize tm.getD 90 undef = x90 at hlit
          generalize tm.getD 91 undef = x91 at hlit
          generalize tm.getD 92 undef = x92 at hlit
          generalize tm.getD 93 undef = x93 at hlit
          generalize tm.getD 94 undef = x94 at hlit
          subst hlit
          subst hdef
          try simp only []
          have b3 := UP.out w3 hR'
          clear UP hR'
          go_wp2_with fail
          have UP2 : Hid (∀ W, Keeps.R 2 w3.heap.size w3.drew W → Below u0.heap.size u0 W) := Lib.hid fun W hW => (b3.drew).trans (hW.1.mono b3.size)
          have hB0 : w3.heap.size ≤ w3.drew.heap.size := Nat.le_refl _
          refine Keeps.wp_region_keeps (n := 95) (by kernel_rfl) (by kernel_rfl) rfl w3.heap.size [Keeps.Pred.is (m := 2) (Value.slice B5 (layL v).length c5), Keeps.Pred.is (Value.string ⟨(layL v).toArray⟩), Keeps.Pred.is (Value.slice A n c), Keeps.Pred.row (layL v).length (layL v), Keeps.Pred.is (Value.string ⟨(layL v).toArray⟩), Keeps.Pred.is (Value.bool true), Keeps.Pred.is (Value.bool true), Keeps.Pred.is (Value.int .i64 0), Keeps.Pred.is (Value.bool true), Keeps.Pred.is (Value.bool true), Keeps.Pred.is (Value.bool true), Keeps.Pred.is (Value.slice R6 k6 c6), Keeps.Pred.is (Value.slice A n c), Keeps.Pred.is (Value.bool true), Keeps.Pred.is (Value.bool true), Keeps.Pred.is (Value.bool true), Keeps.Pred.is (Value.slice A n c), Keeps.Pred.laid (m := 2) w3.heap.size #[.int .u8 97, .int .u8 98] 5, Keeps.Pred.row 2 [97, 98], Keeps.Pred.row qq.length qq, Keeps.Pred.is (Value.string ⟨qq.toArray⟩), Keeps.Pred.is (Value.slice B5 (layL v).length c5), Keeps.Pred.is (Value.string ⟨(layL v).toArray⟩), Keeps.Pred.is (Value.string ⟨qq.toArray⟩), Keeps.Pred.is (Value.bool true), Keeps.Pred.is (Value.bool true), Keeps.Pred.is (Value.bool true)] ?_ ?_
          · refine ⟨?_, ?_, ?_, ?_, ?_, ?_, ?_, ?_, ?_, ?_, ?_, ?_, ?_, ?_, ?_, ?_, ?_, ?_, ?_, ?_, ?_, ?_, ?_, ?_, ?_, ?_, ?_, trivial⟩
            · refine Keeps.step_is (Value.slice B5 (layL v).length c5) fun a W hR hold hnew => ?_
              have f5 : a.tmps.getD 5 undef = Value.slice B5 (layL v).length c5 := hold 5 (by kernel_rfl)
              refine ⟨Facts.wanted_free rfl, ?_, fun _ => rfl⟩
              simp [go_sem, Act.eval, f5]
            · refine Keeps.step_is (Value.string ⟨(layL v).toArray⟩) fun a W hR hold hnew => ?_
              have f69 : a.tmps.getD 69 undef = Value.slice B5 (layL v).length c5 := hnew 0 69 (by kernel_rfl)
              have r := (HB.out W (UP2.out W hR)).string (P := Try.prog) c5 (t := 34) (s := 9) (e := 5) Try.underlying34 Try.underlying5 Try.underlying9
              refine ⟨Facts.wanted_free rfl, ?_, fun _ => rfl⟩
              simp [go_sem, Act.eval, f69, r]
            · refine Keeps.step_is (Value.slice A n c) fun a W hR hold hnew => ?_
              have f0 : a.tmps.getD 0 undef = Value.slice A n c := hold 0 (by kernel_rfl)
              refine ⟨Facts.wanted_free rfl, ?_, fun _ => rfl⟩
              simp [go_sem, Act.eval, f0]
            · -- 3: Op.call { value (Operand.func 21), args := #[const (Value.sl
              refine Keeps.step_call hB0 fun a W hR hold hnew => ?_
              have f71 : a.tmps.getD 71 undef = Value.slice A n c := hnew 2 71 (by kernel_rfl)
              refine ⟨Facts.wanted_free rfl, 21, #[.slice none 0 0, Value.slice A n c], by simp [go_sem, Act.eval, f71], ?_⟩
              have h := refLayV_any none A 0 0 n c [] v W (Sees.nil _ _) (HV.out W (UP2.out W hR)).1 SM.out (by decide)
              rw [Nat.zero_add, List.nil_append] at h
              refine h.mono ?_
              rintro e' w7 ⟨R9, rc9, rfl, hs9, hb9⟩
              exact ⟨_, rfl, hb9, R9, rc9, rfl, (Own.cap hs9).1, (Own.cap hs9).2, Sees.of_own hs9⟩
            · -- 4: Op.convert 34 9 t72
              refine Keeps.step_is (Value.string ⟨(layL v).toArray⟩) fun a W hR hold hnew => ?_
              have h72 : ∃ A' c', a.tmps.getD 72 undef = .slice A' (layL v).length c' ∧ (layL v).length ≤ c' ∧ c' ≤ 9223372036854775807 ∧ Sees W A' (layL v).length (layL v) := hnew 3 72 (by kernel_rfl)
              obtain ⟨A9, c9, f72, -, -, hs9⟩ := h72
              have r := (hs9).string (P := Try.prog) c9 (t := 34) (s := 9) (e := 5) Try.underlying34 Try.underlying5 Try.underlying9
              refine ⟨Facts.wanted_free rfl, ?_, fun _ => rfl⟩
              simp [go_sem, Act.eval, f72, r]
            · refine Keeps.step_is (Value.bool true) fun a W hR hold hnew => ?_
              have f70 : a.tmps.getD 70 undef = Value.string ⟨(layL v).toArray⟩ := hnew 1 70 (by kernel_rfl)
              have f73 : a.tmps.getD 73 undef = Value.string ⟨(layL v).toArray⟩ := hnew 4 73 (by kernel_rfl)
              refine ⟨Facts.wanted_free rfl, ?_, fun _ => rfl⟩
              simp [go_sem, Act.eval, f70, f73]
            · refine Keeps.step_is (Value.bool true) fun a W hR hold hnew => ?_
              have f74 : a.tmps.getD 74 undef = Value.bool true := hnew 5 74 (by kernel_rfl)
              refine ⟨Facts.wanted_free rfl, ?_, fun _ => rfl⟩
              simp [go_sem, Act.eval, f74]
            · refine Keeps.step_is (Value.int .i64 0) fun a W hR hold hnew => ?_
              have f7 : a.tmps.getD 7 undef = Value.int .i64 0 := hold 7 (by kernel_rfl)
              have g75 : a.tmps.getD 75 undef = .bool true := hnew 6 75 (by kernel_rfl)
              refine ⟨Facts.wanted_by rfl (by kernel_rfl) g75, ?_, fun _ => rfl⟩
              simp [go_sem, Act.eval, f7]
            · refine Keeps.step_is (Value.bool true) fun a W hR hold hnew => ?_
              have f76 : a.tmps.getD 76 undef = Value.int .i64 0 := hnew 7 76 (by kernel_rfl)
              have g75 : a.tmps.getD 75 undef = .bool true := hnew 6 75 (by kernel_rfl)
              refine ⟨Facts.wanted_by rfl (by kernel_rfl) g75, ?_, fun _ => rfl⟩
              simp [go_sem, Act.eval, f76]
            · refine Keeps.step_is (Value.bool true) fun a W hR hold hnew => ?_
              have f75 : a.tmps.getD 75 undef = Value.bool true := hnew 6 75 (by kernel_rfl)
              have f77 : a.tmps.getD 77 undef = Value.bool true := hnew 8 77 (by kernel_rfl)
              refine ⟨Facts.wanted_free rfl, ?_, fun _ => rfl⟩
              simp [go_sem, Act.eval, f75, f77]
            · refine Keeps.step_is (Value.bool true) fun a W hR hold hnew => ?_
              have f78 : a.tmps.getD 78 undef = Value.bool true := hnew 9 78 (by kernel_rfl)
              refine ⟨Facts.wanted_free rfl, ?_, fun _ => rfl⟩
              simp [go_sem, Act.eval, f78]
            · refine Keeps.step_is (Value.slice R6 k6 c6) fun a W hR hold hnew => ?_
              have f6 : a.tmps.getD 6 undef = Value.slice R6 k6 c6 := hold 6 (by kernel_rfl)
              have g79 : a.tmps.getD 79 undef = .bool true := hnew 10 79 (by kernel_rfl)
              refine ⟨Facts.wanted_by rfl (by kernel_rfl) g79, ?_, fun _ => rfl⟩
              simp [go_sem, Act.eval, f6]
            · refine Keeps.step_is (Value.slice A n c) fun a W hR hold hnew => ?_
              have f0 : a.tmps.getD 0 undef = Value.slice A n c := hold 0 (by kernel_rfl)
              have g79 : a.tmps.getD 79 undef = .bool true := hnew 10 79 (by kernel_rfl)
              refine ⟨Facts.wanted_by rfl (by kernel_rfl) g79, ?_, fun _ => rfl⟩
              simp [go_sem, Act.eval, f0]
            · -- 13: Op.call { value (Operand.func 15), args := #[t80, t81], argT
              refine Keeps.step_call hB0 fun a W hR hold hnew => ?_
              have f80 : a.tmps.getD 80 undef = Value.slice R6 k6 c6 := hnew 11 80 (by kernel_rfl); have f81 : a.tmps.getD 81 undef = Value.slice A n c := hnew 12 81 (by kernel_rfl); have g79 : a.tmps.getD 79 undef = .bool true := hnew 10 79 (by kernel_rfl)
              refine ⟨Facts.wanted_by rfl (by kernel_rfl) g79, 15, #[Value.slice R6 k6 c6, Value.slice A n c], by simp [go_sem, Act.eval, f80, f81], ?_⟩
              refine (hs _ _ _ _ _ _ _ _ W (HX.out W (UP2.out W hR)) (HV.out W (UP2.out W hR))).mono ?_
              rintro e' w7 ⟨rfl, hb9⟩
              exact ⟨_, rfl, hb9, congrArg Value.bool (same_yes fun i => trimL_at v i)⟩
            · refine Keeps.step_is (Value.bool true) fun a W hR hold hnew => ?_
              have f79 : a.tmps.getD 79 undef = Value.bool true := hnew 10 79 (by kernel_rfl)
              have f82 : a.tmps.getD 82 undef = Value.bool true := hnew 13 82 (by kernel_rfl)
              refine ⟨Facts.wanted_free rfl, ?_, fun _ => rfl⟩
              simp [go_sem, Act.eval, f79, f82]
            · refine Keeps.step_is (Value.bool true) fun a W hR hold hnew => ?_
              have f83 : a.tmps.getD 83 undef = Value.bool true := hnew 14 83 (by kernel_rfl)
              refine ⟨Facts.wanted_free rfl, ?_, fun _ => rfl⟩
              simp [go_sem, Act.eval, f83]
            · refine Keeps.step_is (Value.slice A n c) fun a W hR hold hnew => ?_
              have f0 : a.tmps.getD 0 undef = Value.slice A n c := hold 0 (by kernel_rfl)
              have g84 : a.tmps.getD 84 undef = .bool true := hnew 15 84 (by kernel_rfl)
              refine ⟨Facts.wanted_by rfl (by kernel_rfl) g84, ?_, fun _ => rfl⟩
              simp [go_sem, Act.eval, f0]
            · -- 17: Op.buildSlice 34 2 #[(0, const (97:u8)), (1, const (98:u8))]
              refine Keeps.step_new fun a W hR hold hnew => ?_
              have g84 : a.tmps.getD 84 undef = .bool true := hnew 15 84 (by kernel_rfl)
              have hl := Keeps.laid_new (m := 2) (B := w3.heap.size) W #[.int .u8 97, .int .u8 98] 5 hR.1.size
              exact ⟨Facts.wanted_by rfl (by kernel_rfl) g84, .slice (some ⟨W.heap.size, 0, none⟩) 2 2, W.alloc (.cells #[.int .u8 97, .int .u8 98] 5), by simp [go_sem, Act.eval], hl.1, hl.2⟩
            · -- 18: Op.convert 34 34 t86
              refine Keeps.step_new fun a W hR hold hnew => ?_
              have h86 : ∃ g fr, a.tmps.getD 86 undef = .slice (some ⟨g, 0, none⟩) 2 2 ∧ w3.heap.size ≤ g ∧ W.heap[g]? = some (.cells #[.int .u8 97, .int .u8 98] 5 fr) := hnew 17 86 (by kernel_rfl)
              have g84 : a.tmps.getD 84 undef = .bool true := hnew 15 84 (by kernel_rfl)
              obtain ⟨g, fr, f86, hgB, hg⟩ := h86
              obtain ⟨W', hrun, hR'⟩ := Keeps.run_mark (P := Try.prog) 2 2 Try.underlying34 Try.underlying5 hg hgB (m := 2) (Nat.le_refl _)
              refine ⟨Facts.wanted_by rfl (by kernel_rfl) g84, .slice (some ⟨g, 0, none⟩) 2 2, W', by simp [go_sem, Act.eval, f86, hrun], hR', _, 2, rfl, Nat.le_refl _, by omega, rfl, fun _ => ⟨g, 0, rfl, fun j u hj => hR'.2.cell ?_⟩⟩
              rw [cell_of_row W g (0 + j) _ _ _ hg]
              match j, hj with
              | 0, hj => simp at hj; subst hj; rfl
              | 1, hj => simp at hj; subst hj; rfl
            · -- 19: Op.call { value (Operand.func 22), args := #[t85, t87], argT
              refine Keeps.step_call hB0 fun a W hR hold hnew => ?_
              have f85 : a.tmps.getD 85 undef = Value.slice A n c := hnew 16 85 (by kernel_rfl)
              have h87 : ∃ A' c', a.tmps.getD 87 undef = .slice A' 2 c' ∧ 2 ≤ c' ∧ c' ≤ 9223372036854775807 ∧ Sees W A' 2 [97, 98] := hnew 18 87 (by kernel_rfl)
              have g84 : a.tmps.getD 84 undef = .bool true := hnew 15 84 (by kernel_rfl)
              obtain ⟨A9, c9, f87, hc9, hm9, hs9⟩ := h87
              refine ⟨Facts.wanted_by rfl (by kernel_rfl) g84, 22, #[Value.slice A n c, .slice A9 2 c9], by simp [go_sem, Act.eval, f85, f87], ?_⟩
              have h := hlay A A9 n c 2 c9 v [97, 98] W (HV.out W (UP2.out W hR)) SM.out hs9 hc9 hm9 (by decide)
              rw [← QQ.out] at h
              refine h.mono ?_
              rintro e' w7 ⟨R9, rc9, rfl, hs9, hc9, hm9, hb9⟩
              exact ⟨_, rfl, hb9, R9, rc9, rfl, hc9, hm9, hs9⟩
            · -- 20: Op.convert 34 9 t88
              refine Keeps.step_is (Value.string ⟨qq.toArray⟩) fun a W hR hold hnew => ?_
              have h88 : ∃ A' c', a.tmps.getD 88 undef = .slice A' qq.length c' ∧ qq.length ≤ c' ∧ c' ≤ 9223372036854775807 ∧ Sees W A' qq.length qq := hnew 19 88 (by kernel_rfl)
              have g84 : a.tmps.getD 84 undef = .bool true := hnew 15 84 (by kernel_rfl)
              obtain ⟨A9, c9, f88, -, -, hs9⟩ := h88
              have r := (hs9).string (P := Try.prog) c9 (t := 34) (s := 9) (e := 5) Try.underlying34 Try.underlying5 Try.underlying9
              refine ⟨Facts.wanted_by rfl (by kernel_rfl) g84, ?_, fun _ => rfl⟩
              simp [go_sem, Act.eval, f88, r]
            · refine Keeps.step_is (Value.slice B5 (layL v).length c5) fun a W hR hold hnew => ?_
              have f5 : a.tmps.getD 5 undef = Value.slice B5 (layL v).length c5 := hold 5 (by kernel_rfl)
              have g84 : a.tmps.getD 84 undef = .bool true := hnew 15 84 (by kernel_rfl)
              refine ⟨Facts.wanted_by rfl (by kernel_rfl) g84, ?_, fun _ => rfl⟩
              simp [go_sem, Act.eval, f5]
            · refine Keeps.step_is (Value.string ⟨(layL v).toArray⟩) fun a W hR hold hnew => ?_
              have f90 : a.tmps.getD 90 undef = Value.slice B5 (layL v).length c5 := hnew 21 90 (by kernel_rfl)
              have g84 : a.tmps.getD 84 undef = .bool true := hnew 15 84 (by kernel_rfl)
              have r := (HB.out W (UP2.out W hR)).string (P := Try.prog) c5 (t := 34) (s := 9) (e := 5) Try.underlying34 Try.underlying5 Try.underlying9
              refine ⟨Facts.wanted_by rfl (by kernel_rfl) g84, ?_, fun _ => rfl⟩
              simp [go_sem, Act.eval, f90, r]
            · refine Keeps.step_is (Value.string ⟨qq.toArray⟩) fun a W hR hold hnew => ?_
              have f91 : a.tmps.getD 91 undef = Value.string ⟨(layL v).toArray⟩ := hnew 22 91 (by kernel_rfl)
              have g84 : a.tmps.getD 84 undef = .bool true := hnew 15 84 (by kernel_rfl)
              have r := strAdd (layL v)
              rw [← QQ.out] at r
              have hbnd : 2 + (layL v).length ≤ 9223372036854775807 := by have := LN.out; omega
              refine ⟨Facts.wanted_by rfl (by kernel_rfl) g84, ?_, fun _ => rfl⟩
              simp [go_sem, Act.eval, f91, r, hbnd]
            · refine Keeps.step_is (Value.bool true) fun a W hR hold hnew => ?_
              have f89 : a.tmps.getD 89 undef = Value.string ⟨qq.toArray⟩ := hnew 20 89 (by kernel_rfl)
              have f92 : a.tmps.getD 92 undef = Value.string ⟨qq.toArray⟩ := hnew 23 92 (by kernel_rfl)
              have g84 : a.tmps.getD 84 undef = .bool true := hnew 15 84 (by kernel_rfl)
              refine ⟨Facts.wanted_by rfl (by kernel_rfl) g84, ?_, fun _ => rfl⟩
              simp [go_sem, Act.eval, f89, f92]
            · refine Keeps.step_is (Value.bool true) fun a W hR hold hnew => ?_
              have f84 : a.tmps.getD 84 undef = Value.bool true := hnew 15 84 (by kernel_rfl)
              have f93 : a.tmps.getD 93 undef = Value.bool true := hnew 24 93 (by kernel_rfl)
              refine ⟨Facts.wanted_free rfl, ?_, fun _ => rfl⟩
              simp [go_sem, Act.eval, f84, f93]
            · refine Keeps.step_is (Value.bool true) fun a W hR hold hnew => ?_
              have f94 : a.tmps.getD 94 undef = Value.bool true := hnew 25 94 (by kernel_rfl)
              refine ⟨Facts.wanted_free rfl, ?_, fun _ => rfl⟩
              simp [go_sem, Act.eval, f94]
          · intro a w4 hR' hsize hdef hnew hold
            have f4 : a.tmps.getD 4 undef = Value.bool true := hnew 26 4 (by kernel_rfl)
            obtain ⟨tm, df⟩ := a
            simp only [] at hdef hsize f4
            have hlit : tm = #[tm.getD 0 undef, tm.getD 1 undef, tm.getD 2 undef, tm.getD 3 undef, tm.getD 4 undef, tm.getD 5 undef, tm.getD 6 undef, tm.getD 7 undef, tm.getD 8 undef, tm.getD 9 undef, tm.getD 10 undef, tm.getD 11 undef, tm.getD 12 undef, tm.getD 13 undef, tm.getD 14 undef, tm.getD 15 undef, tm.getD 16 undef, tm.getD 17 undef, tm.getD 18 undef, tm.getD 19 undef, tm.getD 20 undef, tm.getD 21 undef, tm.getD 22 undef, tm.getD 23 undef, tm.getD 24 undef, tm.getD 25 undef, tm.getD 26 undef, tm.getD 27 undef, tm.getD 28 undef, tm.getD 29 undef, tm.getD 30 undef, tm.getD 31 undef, tm.getD 32 undef, tm.getD 33 undef, tm.getD 34 undef, tm.getD 35 undef, tm.getD 36 undef, tm.getD 37 undef, tm.getD 38 undef, tm.getD 39 undef, tm.getD 40 undef, tm.getD 41 undef, tm.getD 42 undef, tm.getD 43 undef, tm.getD 44 undef, tm.getD 45 undef, tm.getD 46 undef, tm.getD 47 undef, tm.getD 48 undef, tm.getD 49 undef, tm.getD 50 undef, tm.getD 51 undef, tm.getD 52 undef, tm.getD 53 undef, tm.getD 54 undef, tm.getD 55 undef, tm.getD 56 undef, tm.getD 57 undef, tm.getD 58 undef, tm.getD 59 undef, tm.getD 60 undef, tm.getD 61 undef, tm.getD 62 undef, tm.getD 63 undef, tm.getD 64 undef, tm.getD 65 undef, tm.getD 66 undef, tm.getD 67 undef, tm.getD 68 undef, tm.getD 69 undef, tm.getD 70 undef, tm.getD 71 undef, tm.getD 72 undef, tm.getD 73 undef, tm.getD 74 undef, tm.getD 75 undef, tm.getD 76 undef, tm.getD 77 undef, tm.getD 78 undef, tm.getD 79 undef, tm.getD 80 undef, tm.getD 81 undef, tm.getD 82 undef, tm.getD 83 undef, tm.getD 84 undef, tm.getD 85 undef, tm.getD 86 undef, tm.getD 87 undef, tm.getD 88 undef, tm.getD 89 undef, tm.getD 90 undef, tm.getD 91 undef, tm.getD 92 undef, tm.getD 93 undef, tm.getD 94 undef] := (Facts.array_lit tm hsize).trans rfl
            rw [f4] at hlit
            clear f4 hsize hnew hold
            generalize tm.getD 0 undef = x0 at hlit
            generalize tm.getD 1 undef = x1 at hlit
            generalize tm.getD 2 undef = x2 at hlit
            generalize tm.getD 3 undef = x3 at hlit
            generalize tm.getD 5 undef = x5 at hlit
            generalize tm.getD 6 undef = x6 at hlit
            generalize tm.getD 7 undef = x7 at hlit
            generalize tm.getD 8 undef = x8 at hlit
            generalize tm.getD 9 undef = x9 at hlit
            generalize tm.getD 10 undef = x10 at hlit
            generalize tm.getD 11 undef = x11 at hlit
            generalize tm.getD 12 undef = x12 at hlit
            generalize tm.getD 13 undef = x13 at hlit
            generalize tm.getD 14 undef = x14 at hlit
            generalize tm.getD 15 undef = x15 at hlit
            generalize tm.getD 16 undef = x16 at hlit
            generalize tm.getD 17 undef = x17 at hlit
            generalize tm.getD 18 undef = x18 at hlit
            generalize tm.getD 19 undef = x19 at hlit
            generalize tm.getD 20 undef = x20 at hlit
            generalize tm.getD 21 undef = x21 at hlit
            generalize tm.getD 22 undef = x22 at hlit
            generalize tm.getD 23 undef = x23 at hlit
            generalize tm.getD 24 undef = x24 at hlit
            generalize tm.getD 25 undef = x25 at hlit
            generalize tm.getD 26 undef = x26 at hlit
            generalize tm.getD 27 undef = x27 at hlit
            generalize tm.getD 28 undef = x28 at hlit
            generalize tm.getD 29 undef = x29 at hlit
            generalize tm.getD 30 undef = x30 at hlit
            generalize tm.getD 31 undef = x31 at hlit
            generalize tm.getD 32 undef = x32 at hlit
            generalize tm.getD 33 undef = x33 at hlit
            generalize tm.getD 34 undef = x34 at hlit
            generalize tm.getD 35 undef = x35 at hlit
            generalize tm.getD 36 undef = x36 at hlit
            generalize tm.getD 37 undef = x37 at hlit
            generalize tm.getD 38 undef = x38 at hlit
            generalize tm.getD 39 undef = x39 at hlit
            generalize tm.getD 40 undef = x40 at hlit
            generalize tm.getD 41 undef = x41 at hlit
            generalize tm.getD 42 undef = x42 at hlit
            generalize tm.getD 43 undef = x43 at hlit
            generalize tm.getD 44 undef = x44 at hlit
            generalize tm.getD 45 undef = x45 at hlit
            generalize tm.getD 46 undef = x46 at hlit
            generalize tm.getD 47 undef = x47 at hlit
            generalize tm.getD 48 undef = x48 at hlit
            generalize tm.getD 49 undef = x49 at hlit
            generalize tm.getD 50 undef = x50 at hlit
            generalize tm.getD 51 undef = x51 at hlit
            generalize tm.getD 52 undef = x52 at hlit
            generalize tm.getD 53 undef = x53 at hlit
            generalize tm.getD 54 undef = x54 at hlit
            generalize tm.getD 55 undef = x55 at hlit
            generalize tm.getD 56 undef = x56 at hlit
            generalize tm.getD 57 undef = x57 at hlit
            generalize tm.getD 58 undef = x58 at hlit
            generalize tm.getD 59 undef = x59 at hlit
            generalize tm.getD 60 undef = x60 at hlit
            generalize tm.getD 61 undef = x61 at hlit
            generalize tm.getD 62 undef = x62 at hlit
            generalize tm.getD 63 undef = x63 at hlit
            generalize tm.getD 64 undef = x64 at hlit
            generalize tm.getD 65 undef = x65 at hlit
            generalize tm.getD 66 undef = x66 at hlit
            generalize tm.getD 67 undef = x67 at hlit
            generalize tm.getD 68 undef = x68 at hlit
            generalize tm.getD 69 undef = x69 at hlit
            generalize tm.getD 70 undef = x70 at hlit
            generalize tm.getD 71 undef = x71 at hlit
            generalize tm.getD 72 undef = x72 at hlit
            generalize tm.getD 73 undef = x73 at hlit
            generalize tm.getD 74 undef = x74 at hlit
            generalize tm.getD 75 undef = x75 at hlit
            generalize tm.getD 76 undef = x76 at hlit
            generalize tm.getD 77 undef = x77 at hlit
            generalize tm.getD 78 undef = x78 at hlit
            generalize tm.getD 79 undef = x79 at hlit
            generalize tm.getD 80 undef = x80 at hlit
            generalize tm.getD 81 undef = x81 at hlit
            generalize tm.getD 82 undef = x82 at hlit
            generalize tm.getD 83 undef = x83 at hlit
            generalize tm.getD 84 undef = x84 at hlit
            generalize tm.getD 85 undef = x85 at hlit
            generalize tm.getD 86 undef = x86 at hlit
            generalize tm.getD 87 undef = x87 at hlit
            generalize tm.getD 88 undef = x88 at hlit
            generalize tm.getD 89 undef = x89 at hlit
            generalize tm.getD 90 undef = x90 at hlit
            generalize tm.getD 91 undef = x91 at hlit
            generalize tm.getD 92 undef = x92 at hlit
            generalize tm.getD 93 undef = x93 at hlit
            generalize tm.getD 94 undef = x94 at hlit
            subst hlit
            subst hdef
            try simp only []
            have b4 := UP2.out w4 hR'
            clear UP2 hR'
            go_wp2
            go_ret
            exact ⟨rfl, bel.trans (b4.mono bel.size)⟩
      · go_wp2_with fail
        refine Facts.wp_region_preds (n := 95) (by kernel_rfl) (by kernel_rfl) rfl [Facts.Pred.is (Value.int .i64 6), Facts.Pred.is (Value.bool false), Facts.Pred.is (Value.bool false), Facts.Pred.is undef, Facts.Pred.is undef, Facts.Pred.is undef, Facts.Pred.is undef, Facts.Pred.is undef, Facts.Pred.is undef, Facts.Pred.is (Value.bool false), Facts.Pred.is (Value.bool false), Facts.Pred.is (Value.int .i64 6), Facts.Pred.is (Value.bool true), Facts.Pred.is (Value.bool true), Facts.Pred.is (Value.slice R8 0 c8), Facts.Pred.is (Value.int .i64 0), Facts.Pred.is (Value.bool false), Facts.Pred.is (Value.bool false), Facts.Pred.is (Value.int .i64 6), Facts.Pred.is (Value.bool true), Facts.Pred.is (Value.bool true), Facts.Pred.is (Value.int .i64 6), Facts.Pred.is (Value.bool true), Facts.Pred.is (Value.bool true), Facts.Pred.is (Value.bool true), Facts.Pred.is (Value.int .i64 6), Facts.Pred.is (Value.bool false), Facts.Pred.is (Value.bool false), Facts.Pred.is (Value.bool false), Facts.Pred.is (Value.bool false), Facts.Pred.is (Value.bool false)] ?_ ?_
        · refine ⟨?_, ?_, ?_, ?_, ?_, ?_, ?_, ?_, ?_, ?_, ?_, ?_, ?_, ?_, ?_, ?_, ?_, ?_, ?_, ?_, ?_, ?_, ?_, ?_, ?_, ?_, ?_, ?_, ?_, ?_, ?_, trivial⟩
          · refine Facts.step_is (Value.int .i64 6) fun a W hR hold hnew => ?_
            have f9 : a.tmps.getD 9 undef = Value.int .i64 6 := hold 9 (by kernel_rfl)
            refine ⟨Facts.wanted_free rfl, ?_, fun _ => rfl⟩
            simp [go_sem, Act.eval, f9]
          · refine Facts.step_is (Value.bool false) fun a W hR hold hnew => ?_
            have f38 : a.tmps.getD 38 undef = Value.int .i64 6 := hnew 0 38 (by kernel_rfl)
            refine ⟨Facts.wanted_free rfl, ?_, fun _ => rfl⟩
            simp [go_sem, Act.eval, f38]
          · refine Facts.step_is (Value.bool false) fun a W hR hold hnew => ?_
            have f39 : a.tmps.getD 39 undef = Value.bool false := hnew 1 39 (by kernel_rfl)
            refine ⟨Facts.wanted_free rfl, ?_, fun _ => rfl⟩
            simp [go_sem, Act.eval, f39]
          · -- 3: Op.move t8
            refine step_skip (fun a W hnew => ?_) (fun _ => rfl)
            have g40 : a.tmps.getD 40 undef = .bool false := hnew 2 40 (by kernel_rfl)
            exact wanted_not rfl (by kernel_rfl) g40
          · -- 4: Op.call { value (Operand.func 19), args := #[t41], argTypes 
            refine step_skip (fun a W hnew => ?_) (fun _ => rfl)
            have g40 : a.tmps.getD 40 undef = .bool false := hnew 2 40 (by kernel_rfl)
            exact wanted_not rfl (by kernel_rfl) g40
          · -- 5: Op.convert 34 9 t42
            refine step_skip (fun a W hnew => ?_) (fun _ => rfl)
            have g40 : a.tmps.getD 40 undef = .bool false := hnew 2 40 (by kernel_rfl)
            exact wanted_not rfl (by kernel_rfl) g40
          · -- 6: Op.move t1
            refine step_skip (fun a W hnew => ?_) (fun _ => rfl)
            have g40 : a.tmps.getD 40 undef = .bool false := hnew 2 40 (by kernel_rfl)
            exact wanted_not rfl (by kernel_rfl) g40
          · -- 7: Op.convert 34 9 t44
            refine step_skip (fun a W hnew => ?_) (fun _ => rfl)
            have g40 : a.tmps.getD 40 undef = .bool false := hnew 2 40 (by kernel_rfl)
            exact wanted_not rfl (by kernel_rfl) g40
          · -- 8: Op.binOp BinOp.neq 9 t43 t45 9
            refine step_skip (fun a W hnew => ?_) (fun _ => rfl)
            have g40 : a.tmps.getD 40 undef = .bool false := hnew 2 40 (by kernel_rfl)
            exact wanted_not rfl (by kernel_rfl) g40
          · refine Facts.step_is (Value.bool false) fun a W hR hold hnew => ?_
            have f40 : a.tmps.getD 40 undef = Value.bool false := hnew 2 40 (by kernel_rfl)
            refine ⟨Facts.wanted_free rfl, ?_, fun _ => rfl⟩
            simp [go_sem, Act.eval, f40]
          · refine Facts.step_is (Value.bool false) fun a W hR hold hnew => ?_
            have f47 : a.tmps.getD 47 undef = Value.bool false := hnew 9 47 (by kernel_rfl)
            refine ⟨Facts.wanted_free rfl, ?_, fun _ => rfl⟩
            simp [go_sem, Act.eval, f47]
          · refine Facts.step_is (Value.int .i64 6) fun a W hR hold hnew => ?_
            have f9 : a.tmps.getD 9 undef = Value.int .i64 6 := hold 9 (by kernel_rfl)
            have g48 : a.tmps.getD 48 undef = .bool false := hnew 10 48 (by kernel_rfl)
            refine ⟨Facts.wanted_by rfl (by kernel_rfl) g48, ?_, fun _ => rfl⟩
            simp [go_sem, Act.eval, f9]
          · refine Facts.step_is (Value.bool true) fun a W hR hold hnew => ?_
            have f49 : a.tmps.getD 49 undef = Value.int .i64 6 := hnew 11 49 (by kernel_rfl)
            have g48 : a.tmps.getD 48 undef = .bool false := hnew 10 48 (by kernel_rfl)
            refine ⟨Facts.wanted_by rfl (by kernel_rfl) g48, ?_, fun _ => rfl⟩
            simp [go_sem, Act.eval, f49]
          · refine Facts.step_is (Value.bool true) fun a W hR hold hnew => ?_
            have f50 : a.tmps.getD 50 undef = Value.bool true := hnew 12 50 (by kernel_rfl)
            have g48 : a.tmps.getD 48 undef = .bool false := hnew 10 48 (by kernel_rfl)
            refine ⟨Facts.wanted_by rfl (by kernel_rfl) g48, ?_, fun _ => rfl⟩
            simp [go_sem, Act.eval, f50]
          · refine Facts.step_is (Value.slice R8 0 c8) fun a W hR hold hnew => ?_
            have f8 : a.tmps.getD 8 undef = Value.slice R8 0 c8 := hold 8 (by kernel_rfl)
            have g51 : a.tmps.getD 51 undef = .bool true := hnew 13 51 (by kernel_rfl)
            refine ⟨Facts.wanted_by rfl (by kernel_rfl) g51, ?_, fun _ => rfl⟩
            simp [go_sem, Act.eval, f8]
          · refine Facts.step_is (Value.int .i64 0) fun a W hR hold hnew => ?_
            have f52 : a.tmps.getD 52 undef = Value.slice R8 0 c8 := hnew 14 52 (by kernel_rfl)
            have g51 : a.tmps.getD 51 undef = .bool true := hnew 13 51 (by kernel_rfl)
            refine ⟨Facts.wanted_by rfl (by kernel_rfl) g51, ?_, fun _ => rfl⟩
            simp [go_sem, Act.eval, f52]
          · refine Facts.step_is (Value.bool false) fun a W hR hold hnew => ?_
            have f53 : a.tmps.getD 53 undef = Value.int .i64 0 := hnew 15 53 (by kernel_rfl)
            have g51 : a.tmps.getD 51 undef = .bool true := hnew 13 51 (by kernel_rfl)
            refine ⟨Facts.wanted_by rfl (by kernel_rfl) g51, ?_, fun _ => rfl⟩
            simp [go_sem, Act.eval, f53]
          · refine Facts.step_is (Value.bool false) fun a W hR hold hnew => ?_
            have f54 : a.tmps.getD 54 undef = Value.bool false := hnew 16 54 (by kernel_rfl)
            have g51 : a.tmps.getD 51 undef = .bool true := hnew 13 51 (by kernel_rfl)
            refine ⟨Facts.wanted_by rfl (by kernel_rfl) g51, ?_, fun _ => rfl⟩
            simp [go_sem, Act.eval, f54]
          · refine Facts.step_is (Value.int .i64 6) fun a W hR hold hnew => ?_
            have f9 : a.tmps.getD 9 undef = Value.int .i64 6 := hold 9 (by kernel_rfl)
            have g55 : a.tmps.getD 55 undef = .bool false := hnew 17 55 (by kernel_rfl)
            refine ⟨Facts.wanted_by rfl (by kernel_rfl) g55, ?_, fun _ => rfl⟩
            simp [go_sem, Act.eval, f9]
          · refine Facts.step_is (Value.bool true) fun a W hR hold hnew => ?_
            have f56 : a.tmps.getD 56 undef = Value.int .i64 6 := hnew 18 56 (by kernel_rfl)
            have g55 : a.tmps.getD 55 undef = .bool false := hnew 17 55 (by kernel_rfl)
            refine ⟨Facts.wanted_by rfl (by kernel_rfl) g55, ?_, fun _ => rfl⟩
            simp [go_sem, Act.eval, f56]
          · refine Facts.step_is (Value.bool true) fun a W hR hold hnew => ?_
            have f57 : a.tmps.getD 57 undef = Value.bool true := hnew 19 57 (by kernel_rfl)
            have g55 : a.tmps.getD 55 undef = .bool false := hnew 17 55 (by kernel_rfl)
            refine ⟨Facts.wanted_by rfl (by kernel_rfl) g55, ?_, fun _ => rfl⟩
            simp [go_sem, Act.eval, f57]
          · refine Facts.step_is (Value.int .i64 6) fun a W hR hold hnew => ?_
            have f9 : a.tmps.getD 9 undef = Value.int .i64 6 := hold 9 (by kernel_rfl)
            have g58 : a.tmps.getD 58 undef = .bool true := hnew 20 58 (by kernel_rfl)
            refine ⟨Facts.wanted_by rfl (by kernel_rfl) g58, ?_, fun _ => rfl⟩
            simp [go_sem, Act.eval, f9]
          · refine Facts.step_is (Value.bool true) fun a W hR hold hnew => ?_
            have f59 : a.tmps.getD 59 undef = Value.int .i64 6 := hnew 21 59 (by kernel_rfl)
            have g58 : a.tmps.getD 58 undef = .bool true := hnew 20 58 (by kernel_rfl)
            refine ⟨Facts.wanted_by rfl (by kernel_rfl) g58, ?_, fun _ => rfl⟩
            simp [go_sem, Act.eval, f59]
          · refine Facts.step_is (Value.bool true) fun a W hR hold hnew => ?_
            have f58 : a.tmps.getD 58 undef = Value.bool true := hnew 20 58 (by kernel_rfl)
            have f60 : a.tmps.getD 60 undef = Value.bool true := hnew 22 60 (by kernel_rfl)
            have g55 : a.tmps.getD 55 undef = .bool false := hnew 17 55 (by kernel_rfl)
            refine ⟨Facts.wanted_by rfl (by kernel_rfl) g55, ?_, fun _ => rfl⟩
            simp [go_sem, Act.eval, f58, f60]
          · refine Facts.step_is (Value.bool true) fun a W hR hold hnew => ?_
            have f61 : a.tmps.getD 61 undef = Value.bool true := hnew 23 61 (by kernel_rfl)
            have g55 : a.tmps.getD 55 undef = .bool false := hnew 17 55 (by kernel_rfl)
            refine ⟨Facts.wanted_by rfl (by kernel_rfl) g55, ?_, fun _ => rfl⟩
            simp [go_sem, Act.eval, f61]
          · refine Facts.step_is (Value.int .i64 6) fun a W hR hold hnew => ?_
            have f9 : a.tmps.getD 9 undef = Value.int .i64 6 := hold 9 (by kernel_rfl)
            have g62 : a.tmps.getD 62 undef = .bool true := hnew 24 62 (by kernel_rfl)
            refine ⟨Facts.wanted_by rfl (by kernel_rfl) g62, ?_, fun _ => rfl⟩
            simp [go_sem, Act.eval, f9]
          · refine Facts.step_is (Value.bool false) fun a W hR hold hnew => ?_
            have f63 : a.tmps.getD 63 undef = Value.int .i64 6 := hnew 25 63 (by kernel_rfl)
            have g62 : a.tmps.getD 62 undef = .bool true := hnew 24 62 (by kernel_rfl)
            refine ⟨Facts.wanted_by rfl (by kernel_rfl) g62, ?_, fun _ => rfl⟩
            simp [go_sem, Act.eval, f63]
          · refine Facts.step_is (Value.bool false) fun a W hR hold hnew => ?_
            have f62 : a.tmps.getD 62 undef = Value.bool true := hnew 24 62 (by kernel_rfl)
            have f64 : a.tmps.getD 64 undef = Value.bool false := hnew 26 64 (by kernel_rfl)
            have g55 : a.tmps.getD 55 undef = .bool false := hnew 17 55 (by kernel_rfl)
            refine ⟨Facts.wanted_by rfl (by kernel_rfl) g55, ?_, fun _ => rfl⟩
            simp [go_sem, Act.eval, f62, f64]
          · refine Facts.step_is (Value.bool false) fun a W hR hold hnew => ?_
            have f55 : a.tmps.getD 55 undef = Value.bool false := hnew 17 55 (by kernel_rfl)
            have f65 : a.tmps.getD 65 undef = Value.bool false := hnew 27 65 (by kernel_rfl)
            have g51 : a.tmps.getD 51 undef = .bool true := hnew 13 51 (by kernel_rfl)
            refine ⟨Facts.wanted_by rfl (by kernel_rfl) g51, ?_, fun _ => rfl⟩
            simp [go_sem, Act.eval, f55, f65]
          · refine Facts.step_is (Value.bool false) fun a W hR hold hnew => ?_
            have f51 : a.tmps.getD 51 undef = Value.bool true := hnew 13 51 (by kernel_rfl)
            have f66 : a.tmps.getD 66 undef = Value.bool false := hnew 28 66 (by kernel_rfl)
            have g48 : a.tmps.getD 48 undef = .bool false := hnew 10 48 (by kernel_rfl)
            refine ⟨Facts.wanted_by rfl (by kernel_rfl) g48, ?_, fun _ => rfl⟩
            simp [go_sem, Act.eval, f51, f66]
          · refine Facts.step_is (Value.bool false) fun a W hR hold hnew => ?_
            have f48 : a.tmps.getD 48 undef = Value.bool false := hnew 10 48 (by kernel_rfl)
            have f67 : a.tmps.getD 67 undef = Value.bool false := hnew 29 67 (by kernel_rfl)
            refine ⟨Facts.wanted_free rfl, ?_, fun _ => rfl⟩
            simp [go_sem, Act.eval, f48, f67]
        · intro a w3 hR' hsize hdef hnew hold
          have f68 : a.tmps.getD 68 undef = Value.bool false := hnew 30 68 (by kernel_rfl)
          have f0 : a.tmps.getD 0 undef = Value.slice A n c := hold 0 (Facts.not_dst (by kernel_rfl))
          have f5 : a.tmps.getD 5 undef = Value.slice B5 (layL v).length c5 := hold 5 (Facts.not_dst (by kernel_rfl))
          have f6 : a.tmps.getD 6 undef = Value.slice R6 k6 c6 := hold 6 (Facts.not_dst (by kernel_rfl))
          have f7 : a.tmps.getD 7 undef = Value.int .i64 0 := hold 7 (Facts.not_dst (by kernel_rfl))
          obtain ⟨tm, df⟩ := a
          simp only [] at hdef hsize f68 f0 f5 f6 f7
          have hlit : tm = #[tm.getD 0 undef, tm.getD 1 undef, tm.getD 2 undef, tm.getD 3 undef, tm.getD 4 undef, tm.getD 5 undef, tm.getD 6 undef, tm.getD 7 undef, tm.getD 8 undef, tm.getD 9 undef, tm.getD 10 undef, tm.getD 11 undef, tm.getD 12 undef, tm.getD 13 undef, tm.getD 14 undef, tm.getD 15 undef, tm.getD 16 undef, tm.getD 17 undef, tm.getD 18 undef, tm.getD 19 undef, tm.getD 20 undef, tm.getD 21 undef, tm.getD 22 undef, tm.getD 23 undef, tm.getD 24 undef, tm.getD 25 undef, tm.getD 26 undef, tm.getD 27 undef, tm.getD 28 undef, tm.getD 29 undef, tm.getD 30 undef, tm.getD 31 undef, tm.getD 32 undef, tm.getD 33 undef, tm.getD 34 undef, tm.getD 35 undef, tm.getD 36 undef, tm.getD 37 undef, tm.getD 38 undef, tm.getD 39 undef, tm.getD 40 undef, tm.getD 41 undef, tm.getD 42 undef, tm.getD 43 undef, tm.getD 44 undef, tm.getD 45 undef, tm.getD 46 undef, tm.getD 47 undef, tm.getD 48 undef, tm.getD 49 undef, tm.getD 50 undef, tm.getD 51 undef, tm.getD 52 undef, tm.getD 53 undef, tm.getD 54 undef, tm.getD 55 undef, tm.getD 56 undef, tm.getD 57 undef, tm.getD 58 undef, tm.getD 59 undef, tm.getD 60 undef, tm.getD 61 undef, tm.getD 62 undef, tm.getD 63 undef, tm.getD 64 undef, tm.getD 65 undef, tm.getD 66 undef, tm.getD 67 undef, tm.getD 68 undef, tm.getD 69 undef, tm.getD 70 undef, tm.getD 71 undef, tm.getD 72 undef, tm.getD 73 undef, tm.getD 74 undef, tm.getD 75 undef, tm.getD 76 undef, tm.getD 77 undef, tm.getD 78 undef, tm.getD 79 undef, tm.getD 80 undef, tm.getD 81 undef, tm.getD 82 undef, tm.getD 83 undef, tm.getD 84 undef, tm.getD 85 undef, tm.getD 86 undef, tm.getD 87 undef, tm.getD 88 undef, tm.getD 89 undef, tm.getD 90 undef, tm.getD 91 undef, tm.getD 92 undef, tm.getD 93 undef, tm.getD 94 undef] := (Facts.array_lit tm hsize).trans rfl
          rw [f68, f0, f5, f6, f7] at hlit
          clear f68 f0 f5 f6 f7 hsize hnew hold
          generalize tm.getD 1 undef = x1 at hlit
          generalize tm.getD 2 undef = x2 at hlit
          generalize tm.getD 3 undef = x3 at hlit
          generalize tm.getD 4 undef = x4 at hlit
          generalize tm.getD 8 undef = x8 at hlit
          generalize tm.getD 9 undef = x9 at hlit
          generalize tm.getD 10 undef = x10 at hlit
          generalize tm.getD 11 undef = x11 at hlit
          generalize tm.getD 12 undef = x12 at hlit
          generalize tm.getD 13 undef = x13 at hlit
          generalize tm.getD 14 undef = x14 at hlit
          generalize tm.getD 15 undef = x15 at hlit
          generalize tm.getD 16 undef = x16 at hlit
          generalize tm.getD 17 undef = x17 at hlit
          generalize tm.getD 18 undef = x18 at hlit
          generalize tm.getD 19 undef = x19 at hlit
          generalize tm.getD 20 undef = x20 at hlit
          generalize tm.getD 21 undef = x21 at hlit
          generalize tm.getD 22 undef = x22 at hlit
          generalize tm.getD 23 undef = x23 at hlit
          generalize tm.getD 24 undef = x24 at hlit
          generalize tm.getD 25 undef = x25 at hlit
          generalize tm.getD 26 undef = x26 at hlit
          generalize tm.getD 27 undef = x27 at hlit
          generalize tm.getD 28 undef = x28 at hlit
          generalize tm.getD 29 undef = x29 at hlit
          generalize tm.getD 30 undef = x30 at hlit
          generalize tm.getD 31 undef = x31 at hlit
          generalize tm.getD 32 undef = x32 at hlit
          generalize tm.getD 33 undef = x33 at hlit
          generalize tm.getD 34 undef = x34 at hlit
          generalize tm.getD 35 undef = x35 at hlit
          generalize tm.getD 36 undef = x36 at hlit
          generalize tm.getD 37 undef = x37 at hlit
          generalize tm.getD 38 undef = x38 at hlit
          generalize tm.getD 39 undef = x39 at hlit
          generalize tm.getD 40 undef = x40 at hlit
          generalize tm.getD 41 undef = x41 at hlit
          generalize tm.getD 42 undef = x42 at hlit
          generalize tm.getD 43 undef = x43 at hlit
          generalize tm.getD 44 undef = x44 at hlit
          generalize tm.getD 45 undef = x45 at hlit
          generalize tm.getD 46 undef = x46 at hlit
          generalize tm.getD 47 undef = x47 at hlit
          generalize tm.getD 48 undef = x48 at hlit
          generalize tm.getD 49 undef = x49 at hlit
          generalize tm.getD 50 undef = x50 at hlit
          generalize tm.getD 51 undef = x51 at hlit
          generalize tm.getD 52 undef = x52 at hlit
          generalize tm.getD 53 undef = x53 at hlit
          generalize tm.getD 54 undef = x54 at hlit
          generalize tm.getD 55 undef = x55 at hlit
          generalize tm.getD 56 undef = x56 at hlit
          generalize tm.getD 57 undef = x57 at hlit
          generalize tm.getD 58 undef = x58 at hlit
          generalize tm.getD 59 undef = x59 at hlit
          generalize tm.getD 60 undef = x60 at hlit
          generalize tm.getD 61 undef = x61 at hlit
          generalize tm.getD 62 undef = x62 at hlit
          generalize tm.getD 63 undef = x63 at hlit
          generalize tm.getD 64 undef = x64 at hlit
          generalize tm.getD 65 undef = x65 at hlit
          generalize tm.getD 66 undef = x66 at hlit
          generalize tm.getD 67 undef = x67 at hlit
          generalize tm.getD 69 undef = x69 at hlit
          generalize tm.getD 70 undef = x70 at hlit
          generalize tm.getD 71 undef = x71 at hlit
          generalize tm.getD 72 undef = x72 at hlit
          generalize tm.getD 73 undef = x73 at hlit
          generalize tm.getD 74 undef = x74 at hlit
          generalize tm.getD 75 undef = x75 at hlit
          generalize tm.getD 76 undef = x76 at hlit
          generalize tm.getD 77 undef = x77 at hlit
          generalize tm.getD 78 undef = x78 at hlit
          generalize tm.getD 79 undef = x79 at hlit
          generalize tm.getD 80 undef = x80 at hlit
          generalize tm.getD 81 undef = x81 at hlit
          generalize tm.getD 82 undef = x82 at hlit
          generalize tm.getD 83 undef = x83 at hlit
          generalize tm.getD 84 undef = x84 at hlit
          generalize tm.getD 85 undef = x85 at hlit
          generalize tm.getD 86 undef = x86 at hlit
          generalize tm.getD 87 undef = x87 at hlit
          generalize tm.getD 88 undef = x88 at hlit
          generalize tm.getD 89 undef = x89 at hlit
          generalize tm.getD 90 undef = x90 at hlit
          generalize tm.getD 91 undef = x91 at hlit
          generalize tm.getD 92 undef = x92 at hlit
          generalize tm.getD 93 undef = x93 at hlit
          generalize tm.getD 94 undef = x94 at hlit
          subst hlit
          subst hdef
          try simp only []
          have b3 := UP.out w3 hR'
          clear UP hR'
          go_wp2_with fail
          have UP2 : Hid (∀ W, Keeps.R 2 w3.heap.size w3.drew W → Below u0.heap.size u0 W) := Lib.hid fun W hW => (b3.drew).trans (hW.1.mono b3.size)
          have hB0 : w3.heap.size ≤ w3.drew.heap.size := Nat.le_refl _
          refine Keeps.wp_region_keeps (n := 95) (by kernel_rfl) (by kernel_rfl) rfl w3.heap.size [Keeps.Pred.is (m := 2) (Value.slice B5 (layL v).length c5), Keeps.Pred.is (Value.string ⟨(layL v).toArray⟩), Keeps.Pred.is (Value.slice A n c), Keeps.Pred.row (layL v).length (layL v), Keeps.Pred.is (Value.string ⟨(layL v).toArray⟩), Keeps.Pred.is (Value.bool true), Keeps.Pred.is (Value.bool true), Keeps.Pred.is (Value.int .i64 0), Keeps.Pred.is (Value.bool true), Keeps.Pred.is (Value.bool true), Keeps.Pred.is (Value.bool true), Keeps.Pred.is (Value.slice R6 k6 c6), Keeps.Pred.is (Value.slice A n c), Keeps.Pred.is (Value.bool true), Keeps.Pred.is (Value.bool true), Keeps.Pred.is (Value.bool true), Keeps.Pred.is (Value.slice A n c), Keeps.Pred.laid (m := 2) w3.heap.size #[.int .u8 97, .int .u8 98] 5, Keeps.Pred.row 2 [97, 98], Keeps.Pred.row qq.length qq, Keeps.Pred.is (Value.string ⟨qq.toArray⟩), Keeps.Pred.is (Value.slice B5 (layL v).length c5), Keeps.Pred.is (Value.string ⟨(layL v).toArray⟩), Keeps.Pred.is (Value.string ⟨qq.toArray⟩), Keeps.Pred.is (Value.bool true), Keeps.Pred.is (Value.bool true), Keeps.Pred.is (Value.bool true)] ?_ ?_
          · refine ⟨?_, ?_, ?_, ?_, ?_, ?_, ?_, ?_, ?_, ?_, ?_, ?_, ?_, ?_, ?_, ?_, ?_, ?_, ?_, ?_, ?_, ?_, ?_, ?_, ?_, ?_, ?_, trivial⟩
            · refine Keeps.step_is (Value.slice B5 (layL v).length c5) fun a W hR hold hnew => ?_
              have f5 : a.tmps.getD 5 undef = Value.slice B5 (layL v).length c5 := hold 5 (by kernel_rfl)
              refine ⟨Facts.wanted_free rfl, ?_, fun _ => rfl⟩
              simp [go_sem, Act.eval, f5]
            · refine Keeps.step_is (Value.string ⟨(layL v).toArray⟩) fun a W hR hold hnew => ?_
              have f69 : a.tmps.getD 69 undef = Value.slice B5 (layL v).length c5 := hnew 0 69 (by kernel_rfl)
              have r := (HB.out W (UP2.out W hR)).string (P := Try.prog) c5 (t := 34) (s := 9) (e := 5) Try.underlying34 Try.underlying5 Try.underlying9
              refine ⟨Facts.wanted_free rfl, ?_, fun _ => rfl⟩
              simp [go_sem, Act.eval, f69, r]
            · refine Keeps.step_is (Value.slice A n c) fun a W hR hold hnew => ?_
              have f0 : a.tmps.getD 0 undef = Value.slice A n c := hold 0 (by kernel_rfl)
              refine ⟨Facts.wanted_free rfl, ?_, fun _ => rfl⟩
              simp [go_sem, Act.eval, f0]
            · -- 3: Op.call { value (Operand.func 21), args := #[const (Value.sl
              refine Keeps.step_call hB0 fun a W hR hold hnew => ?_
              have f71 : a.tmps.getD 71 undef = Value.slice A n c := hnew 2 71 (by kernel_rfl)
              refine ⟨Facts.wanted_free rfl, 21, #[.slice none 0 0, Value.slice A n c], by simp [go_sem, Act.eval, f71], ?_⟩
              have h := refLayV_any none A 0 0 n c [] v W (Sees.nil _ _) (HV.out W (UP2.out W hR)).1 SM.out (by decide)
              rw [Nat.zero_add, List.nil_append] at h
              refine h.mono ?_
              rintro e' w7 ⟨R9, rc9, rfl, hs9, hb9⟩
              exact ⟨_, rfl, hb9, R9, rc9, rfl, (Own.cap hs9).1, (Own.cap hs9).2, Sees.of_own hs9⟩
            · -- 4: Op.convert 34 9 t72
              refine Keeps.step_is (Value.string ⟨(layL v).toArray⟩) fun a W hR hold hnew => ?_
              have h72 : ∃ A' c', a.tmps.getD 72 undef = .slice A' (layL v).length c' ∧ (layL v).length ≤ c' ∧ c' ≤ 9223372036854775807 ∧ Sees W A' (layL v).length (layL v) := hnew 3 72 (by kernel_rfl)
              obtain ⟨A9, c9, f72, -, -, hs9⟩ := h72
              have r := (hs9).string (P := Try.prog) c9 (t := 34) (s := 9) (e := 5) Try.underlying34 Try.underlying5 Try.underlying9
              refine ⟨Facts.wanted_free rfl, ?_, fun _ => rfl⟩
              simp [go_sem, Act.eval, f72, r]
            · refine Keeps.step_is (Value.bool true) fun a W hR hold hnew => ?_
              have f70 : a.tmps.getD 70 undef = Value.string ⟨(layL v).toArray⟩ := hnew 1 70 (by kernel_rfl)
              have f73 : a.tmps.getD 73 undef = Value.string ⟨(layL v).toArray⟩ := hnew 4 73 (by kernel_rfl)
              refine ⟨Facts.wanted_free rfl, ?_, fun _ => rfl⟩
              simp [go_sem, Act.eval, f70, f73]
            · refine Keeps.step_is (Value.bool true) fun a W hR hold hnew => ?_
              have f74 : a.tmps.getD 74 undef = Value.bool true := hnew 5 74 (by kernel_rfl)
              refine ⟨Facts.wanted_free rfl, ?_, fun _ => rfl⟩
              simp [go_sem, Act.eval, f74]
            · refine Keeps.step_is (Value.int .i64 0) fun a W hR hold hnew => ?_
              have f7 : a.tmps.getD 7 undef = Value.int .i64 0 := hold 7 (by kernel_rfl)
              have g75 : a.tmps.getD 75 undef = .bool true := hnew 6 75 (by kernel_rfl)
              refine ⟨Facts.wanted_by rfl (by kernel_rfl) g75, ?_, fun _ => rfl⟩
              simp [go_sem, Act.eval, f7]
            · refine Keeps.step_is (Value.bool true) fun a W hR hold hnew => ?_
              have f76 : a.tmps.getD 76 undef = Value.int .i64 0 := hnew 7 76 (by kernel_rfl)
              have g75 : a.tmps.getD 75 undef = .bool true := hnew 6 75 (by kernel_rfl)
              refine ⟨Facts.wanted_by rfl (by kernel_rfl) g75, ?_, fun _ => rfl⟩
              simp [go_sem, Act.eval, f76]
            · refine Keeps.step_is (Value.bool true) fun a W hR hold hnew => ?_
              have f75 : a.tmps.getD 75 undef = Value.bool true := hnew 6 75 (by kernel_rfl)
              have f77 : a.tmps.getD 77 undef = Value.bool true := hnew 8 77 (by kernel_rfl)
              refine ⟨Facts.wanted_free rfl, ?_, fun _ => rfl⟩
              simp [go_sem, Act.eval, f75, f77]
            · refine Keeps.step_is (Value.bool true) fun a W hR hold hnew => ?_
              have f78 : a.tmps.getD 78 undef = Value.bool true := hnew 9 78 (by kernel_rfl)
              refine ⟨Facts.wanted_free rfl, ?_, fun _ => rfl⟩
              simp [go_sem, Act.eval, f78]
            · refine Keeps.step_is (Value.slice R6 k6 c6) fun a W hR hold hnew => ?_
              have f6 : a.tmps.getD 6 undef = Value.slice R6 k6 c6 := hold 6 (by kernel_rfl)
              have g79 : a.tmps.getD 79 undef = .bool true := hnew 10 79 (by kernel_rfl)
              refine ⟨Facts.wanted_by rfl (by kernel_rfl) g79, ?_, fun _ => rfl⟩
              simp [go_sem, Act.eval, f6]
            · refine Keeps.step_is (Value.slice A n c) fun a W hR hold hnew => ?_
              have f0 : a.tmps.getD 0 undef = Value.slice A n c := hold 0 (by kernel_rfl)
              have g79 : a.tmps.getD 79 undef = .bool true := hnew 10 79 (by kernel_rfl)
              refine ⟨Facts.wanted_by rfl (by kernel_rfl) g79, ?_, fun _ => rfl⟩
              simp [go_sem, Act.eval, f0]
            · -- 13: Op.call { value (Operand.func 15), args := #[t80, t81], argT
              refine Keeps.step_call hB0 fun a W hR hold hnew => ?_
              have f80 : a.tmps.getD 80 undef = Value.slice R6 k6 c6 := hnew 11 80 (by kernel_rfl); have f81 : a.tmps.getD 81 undef = Value.slice A n c := hnew 12 81 (by kernel_rfl); have g79 : a.tmps.getD 79 undef = .bool true := hnew 10 79 (by kernel_rfl)
              refine ⟨Facts.wanted_by rfl (by kernel_rfl) g79, 15, #[Value.slice R6 k6 c6, Value.slice A n c], by simp [go_sem, Act.eval, f80, f81], ?_⟩
              refine (hs _ _ _ _ _ _ _ _ W (HX.out W (UP2.out W hR)) (HV.out W (UP2.out W hR))).mono ?_
              rintro e' w7 ⟨rfl, hb9⟩
              exact ⟨_, rfl, hb9, congrArg Value.bool (same_yes fun i => trimL_at v i)⟩
            · refine Keeps.step_is (Value.bool true) fun a W hR hold hnew => ?_
              have f79 : a.tmps.getD 79 undef = Value.bool true := hnew 10 79 (by kernel_rfl)
              have f82 : a.tmps.getD 82 undef = Value.bool true := hnew 13 82 (by kernel_rfl)
              refine ⟨Facts.wanted_free rfl, ?_, fun _ => rfl⟩
              simp [go_sem, Act.eval, f79, f82]
            · refine Keeps.step_is (Value.bool true) fun a W hR hold hnew => ?_
              have f83 : a.tmps.getD 83 undef = Value.bool true := hnew 14 83 (by kernel_rfl)
              refine ⟨Facts.wanted_free rfl, ?_, fun _ => rfl⟩
              simp [go_sem, Act.eval, f83]
            · refine Keeps.step_is (Value.slice A n c) fun a W hR hold hnew => ?_
              have f0 : a.tmps.getD 0 undef = Value.slice A n c := hold 0 (by kernel_rfl)
              have g84 : a.tmps.getD 84 undef = .bool true := hnew 15 84 (by kernel_rfl)
              refine ⟨Facts.wanted_by rfl (by kernel_rfl) g84, ?_, fun _ => rfl⟩
              simp [go_sem, Act.eval, f0]
            · -- 17: Op.buildSlice 34 2 #[(0, const (97:u8)), (1, const (98:u8))]
              refine Keeps.step_new fun a W hR hold hnew => ?_
              have g84 : a.tmps.getD 84 undef = .bool true := hnew 15 84 (by kernel_rfl)
              have hl := Keeps.laid_new (m := 2) (B := w3.heap.size) W #[.int .u8 97, .int .u8 98] 5 hR.1.size
              exact ⟨Facts.wanted_by rfl (by kernel_rfl) g84, .slice (some ⟨W.heap.size, 0, none⟩) 2 2, W.alloc (.cells #[.int .u8 97, .int .u8 98] 5), by simp [go_sem, Act.eval], hl.1, hl.2⟩
            · -- 18: Op.convert 34 34 t86
              refine Keeps.step_new fun a W hR hold hnew => ?_
              have h86 : ∃ g fr, a.tmps.getD 86 undef = .slice (some ⟨g, 0, none⟩) 2 2 ∧ w3.heap.size ≤ g ∧ W.heap[g]? = some (.cells #[.int .u8 97, .int .u8 98] 5 fr) := hnew 17 86 (by kernel_rfl)
              have g84 : a.tmps.getD 84 undef = .bool true := hnew 15 84 (by kernel_rfl)
              obtain ⟨g, fr, f86, hgB, hg⟩ := h86
              obtain ⟨W', hrun, hR'⟩ := Keeps.run_mark (P := Try.prog) 2 2 Try.underlying34 Try.underlying5 hg hgB (m := 2) (Nat.le_refl _)
              refine ⟨Facts.wanted_by rfl (by kernel_rfl) g84, .slice (some ⟨g, 0, none⟩) 2 2, W', by simp [go_sem, Act.eval, f86, hrun], hR', _, 2, rfl, Nat.le_refl _, by omega, rfl, fun _ => ⟨g, 0, rfl, fun j u hj => hR'.2.cell ?_⟩⟩
              rw [cell_of_row W g (0 + j) _ _ _ hg]
              match j, hj with
              | 0, hj => simp at hj; subst hj; rfl
              | 1, hj => simp at hj; subst hj; rfl
            · -- 19: Op.call { value (Operand.func 22), args := #[t85, t87], argT
              refine Keeps.step_call hB0 fun a W hR hold hnew => ?_
              have f85 : a.tmps.getD 85 undef = Value.slice A n c := hnew 16 85 (by kernel_rfl)
              have h87 : ∃ A' c', a.tmps.getD 87 undef = .slice A' 2 c' ∧ 2 ≤ c' ∧ c' ≤ 9223372036854775807 ∧ Sees W A' 2 [97, 98] := hnew 18 87 (by kernel_rfl)
              have g84 : a.tmps.getD 84 undef = .bool true := hnew 15 84 (by kernel_rfl)
              obtain ⟨A9, c9, f87, hc9, hm9, hs9⟩ := h87
              refine ⟨Facts.wanted_by rfl (by kernel_rfl) g84, 22, #[Value.slice A n c, .slice A9 2 c9], by simp [go_sem, Act.eval, f85, f87], ?_⟩
              have h := hlay A A9 n c 2 c9 v [97, 98] W (HV.out W (UP2.out W hR)) SM.out hs9 hc9 hm9 (by decide)
              rw [← QQ.out] at h
              refine h.mono ?_
              rintro e' w7 ⟨R9, rc9, rfl, hs9, hc9, hm9, hb9⟩
              exact ⟨_, rfl, hb9, R9, rc9, rfl, hc9, hm9, hs9⟩
            · -- 20: Op.convert 34 9 t88
              refine Keeps.step_is (Value.string ⟨qq.toArray⟩) fun a W hR hold hnew => ?_
              have h88 : ∃ A' c', a.tmps.getD 88 undef = .slice A' qq.length c' ∧ qq.length ≤ c' ∧ c' ≤ 9223372036854775807 ∧ Sees W A' qq.length qq := hnew 19 88 (by kernel_rfl)
              have g84 : a.tmps.getD 84 undef = .bool true := hnew 15 84 (by kernel_rfl)
              obtain ⟨A9, c9, f88, -, -, hs9⟩ := h88
              have r := (hs9).string (P := Try.prog) c9 (t := 34) (s := 9) (e := 5) Try.underlying34 Try.underlying5 Try.underlying9
              refine ⟨Facts.wanted_by rfl (by kernel_rfl) g84, ?_, fun _ => rfl⟩
              simp [go_sem, Act.eval, f88, r]
            · refine Keeps.step_is (Value.slice B5 (layL v).length c5) fun a W hR hold hnew => ?_
              have f5 : a.tmps.getD 5 undef = Value.slice B5 (layL v).length c5 := hold 5 (by kernel_rfl)
              have g84 : a.tmps.getD 84 undef = .bool true := hnew 15 84 (by kernel_rfl)
              refine ⟨Facts.wanted_by rfl (by kernel_rfl) g84, ?_, fun _ => rfl⟩
              simp [go_sem, Act.eval, f5]
            · refine Keeps.step_is (Value.string ⟨(layL v).toArray⟩) fun a W hR hold hnew => ?_
              have f90 : a.tmps.getD 90 undef = Value.slice B5 (layL v).length c5 := hnew 21 90 (by kernel_rfl)
              have g84 : a.tmps.getD 84 undef = .bool true := hnew 15 84 (by kernel_rfl)
              have r := (HB.out W (UP2.out W hR)).string (P := Try.prog) c5 (t := 34) (s := 9) (e := 5) Try.underlying34 Try.underlying5 Try.underlying9
              refine ⟨Facts.wanted_by rfl (by kernel_rfl) g84, ?_, fun _ => rfl⟩
              simp [go_sem, Act.eval, f90, r]
            · refine Keeps.step_is (Value.string ⟨qq.toArray⟩) fun a W hR hold hnew => ?_
              have f91 : a.tmps.getD 91 undef = Value.string ⟨(layL v).toArray⟩ := hnew 22 91 (by kernel_rfl)
              have g84 : a.tmps.getD 84 undef = .bool true := hnew 15 84 (by kernel_rfl)
              have r := strAdd (layL v)
              rw [← QQ.out] at r
              have hbnd : 2 + (layL v).length ≤ 9223372036854775807 := by have := LN.out; omega
              refine ⟨Facts.wanted_by rfl (by kernel_rfl) g84, ?_, fun _ => rfl⟩
              simp [go_sem, Act.eval, f91, r, hbnd]
            · refine Keeps.step_is (Value.bool true) fun a W hR hold hnew => ?_
              have f89 : a.tmps.getD 89 undef = Value.string ⟨qq.toArray⟩ := hnew 20 89 (by kernel_rfl)
              have f92 : a.tmps.getD 92 undef = Value.string ⟨qq.toArray⟩ := hnew 23 92 (by kernel_rfl)
              have g84 : a.tmps.getD 84 undef = .bool true := hnew 15 84 (by kernel_rfl)
              refine ⟨Facts.wanted_by rfl (by kernel_rfl) g84, ?_, fun _ => rfl⟩
              simp [go_sem, Act.eval, f89, f92]
            · refine Keeps.step_is (Value.bool true) fun a W hR hold hnew => ?_
              have f84 : a.tmps.getD 84 undef = Value.bool true := hnew 15 84 (by kernel_rfl)
              have f93 : a.tmps.getD 93 undef = Value.bool true := hnew 24 93 (by kernel_rfl)
              refine ⟨Facts.wanted_free rfl, ?_, fun _ => rfl⟩
              simp [go_sem, Act.eval, f84, f93]
            · refine Keeps.step_is (Value.bool true) fun a W hR hold hnew => ?_
              have f94 : a.tmps.getD 94 undef = Value.bool true := hnew 25 94 (by kernel_rfl)
              refine ⟨Facts.wanted_free rfl, ?_, fun _ => rfl⟩
              simp [go_sem, Act.eval, f94]
          · intro a w4 hR' hsize hdef hnew hold
            have f4 : a.tmps.getD 4 undef = Value.bool true := hnew 26 4 (by kernel_rfl)
            obtain ⟨tm, df⟩ := a
            simp only [] at hdef hsize f4
            have hlit : tm = #[tm.getD 0 undef, tm.getD 1 undef, tm.getD 2 undef, tm.getD 3 undef, tm.getD 4 undef, tm.getD 5 undef, tm.getD 6 undef, tm.getD 7 undef, tm.getD 8 undef, tm.getD 9 undef, tm.getD 10 undef, tm.getD 11 undef, tm.getD 12 undef, tm.getD 13 undef, tm.getD 14 undef, tm.getD 15 undef, tm.getD 16 undef, tm.getD 17 undef, tm.getD 18 undef, tm.getD 19 undef, tm.getD 20 undef, tm.getD 21 undef, tm.getD 22 undef, tm.getD 23 undef, tm.getD 24 undef, tm.getD 25 undef, tm.getD 26 undef, tm.getD 27 undef, tm.getD 28 undef, tm.getD 29 undef, tm.getD 30 undef, tm.getD 31 undef, tm.getD 32 undef, tm.getD 33 undef, tm.getD 34 undef, tm.getD 35 undef, tm.getD 36 undef, tm.getD 37 undef, tm.getD 38 undef, tm.getD 39 undef, tm.getD 40 undef, tm.getD 41 undef, tm.getD 42 undef, tm.getD 43 undef, tm.getD 44 undef, tm.getD 45 undef, tm.getD 46 undef, tm.getD 47 undef, tm.getD 48 undef, tm.getD 49 undef, tm.getD 50 undef, tm.getD 51 undef, tm.getD 52 undef, tm.getD 53 undef, tm.getD 54 undef, tm.getD 55 undef, tm.getD 56 undef, tm.getD 57 undef, tm.getD 58 undef, tm.getD 59 undef, tm.getD 60 undef, tm.getD 61 undef, tm.getD 62 undef, tm.getD 63 undef, tm.getD 64 undef, tm.getD 65 undef, tm.getD 66 undef, tm.getD 67 undef, tm.getD 68 undef, tm.getD 69 undef, tm.getD 70 undef, tm.getD 71 undef, tm.getD 72 undef, tm.getD 73 undef, tm.getD 74 undef, tm.getD 75 undef, tm.getD 76 undef, tm.getD 77 undef, tm.getD 78 undef, tm.getD 79 undef, tm.getD 80 undef, tm.getD 81 undef, tm.getD 82 undef, tm.getD 83 undef, tm.getD 84 undef, tm.getD 85 undef, tm.getD 86 undef, tm.getD 87 undef, tm.getD 88 undef, tm.getD 89 undef, tm.getD 90 undef, tm.getD 91 undef, tm.getD 92 undef, tm.getD 93 undef, tm.getD 94 undef] := (Facts.array_lit tm hsize).trans rfl
            rw [f4] at hlit
            clear f4 hsize hnew hold
            generalize tm.getD 0 undef = x0 at hlit
            generalize tm.getD 1 undef = x1 at hlit
            generalize tm.getD 2 undef = x2 at hlit
            generalize tm.getD 3 undef = x3 at hlit
            generalize tm.getD 5 undef = x5 at hlit
            generalize tm.getD 6 undef = x6 at hlit
            generalize tm.getD 7 undef = x7 at hlit
            generalize tm.getD 8 undef = x8 at hlit
            generalize tm.getD 9 undef = x9 at hlit
            generalize tm.getD 10 undef = x10 at hlit
            generalize tm.getD 11 undef = x11 at hlit
            generalize tm.getD 12 undef = x12 at hlit
            generalize tm.getD 13 undef = x13 at hlit
            generalize tm.getD 14 undef = x14 at hlit
            generalize tm.getD 15 undef = x15 at hlit
            generalize tm.getD 16 undef = x16 at hlit
            generalize tm.getD 17 undef = x17 at hlit
            generalize tm.getD 18 undef = x18 at hlit
            generalize tm.getD 19 undef = x19 at hlit
            generalize tm.getD 20 undef = x20 at hlit
            generalize tm.getD 21 undef = x21 at hlit
            generalize tm.getD 22 undef = x22 at hlit
            generalize tm.getD 23 undef = x23 at hlit
            generalize tm.getD 24 undef = x24 at hlit
            generalize tm.getD 25 undef = x25 at hlit
            generalize tm.getD 26 undef = x26 at hlit
            generalize tm.getD 27 undef = x27 at hlit
            generalize tm.getD 28 undef = x28 at hlit
            generalize tm.getD 29 undef = x29 at hlit
            generalize tm.getD 30 undef = x30 at hlit
            generalize tm.getD 31 undef = x31 at hlit
            generalize tm.getD 32 undef = x32 at hlit
            generalize tm.getD 33 undef = x33 at hlit
            generalize tm.getD 34 undef = x34 at hlit
            generalize tm.getD 35 undef = x35 at hlit
            generalize tm.getD 36 undef = x36 at hlit
            generalize tm.getD 37 undef = x37 at hlit
            generalize tm.getD 38 undef = x38 at hlit
            generalize tm.getD 39 undef = x39 at hlit
            generalize tm.getD 40 undef = x40 at hlit
            generalize tm.getD 41 undef = x41 at hlit
            generalize tm.getD 42 undef = x42 at hlit
            generalize tm.getD 43 undef = x43 at hlit
            generalize tm.getD 44 undef = x44 at hlit
            generalize tm.getD 45 undef = x45 at hlit
            generalize tm.getD 46 undef = x46 at hlit
            generalize tm.getD 47 undef = x47 at hlit
            generalize tm.getD 48 undef = x48 at hlit
            generalize tm.getD 49 undef = x49 at hlit
            generalize tm.getD 50 undef = x50 at hlit
            generalize tm.getD 51 undef = x51 at hlit
            generalize tm.getD 52 undef = x52 at hlit
            generalize tm.getD 53 undef = x53 at hlit
            generalize tm.getD 54 undef = x54 at hlit
            generalize tm.getD 55 undef = x55 at hlit
            generalize tm.getD 56 undef = x56 at hlit
            generalize tm.getD 57 undef = x57 at hlit
            generalize tm.getD 58 undef = x58 at hlit
            generalize tm.getD 59 undef = x59 at hlit
            generalize tm.getD 60 undef = x60 at hlit
            generalize tm.getD 61 undef = x61 at hlit
            generalize tm.getD 62 undef = x62 at hlit
            generalize tm.getD 63 undef = x63 at hlit
            generalize tm.getD 64 undef = x64 at hlit
            generalize tm.getD 65 undef = x65 at hlit
            generalize tm.getD 66 undef = x66 at hlit
            generalize tm.getD 67 undef = x67 at hlit
            generalize tm.getD 68 undef = x68 at hlit
            generalize tm.getD 69 undef = x69 at hlit
            generalize tm.getD 70 undef = x70 at hlit
            generalize tm.getD 71 undef = x71 at hlit
            generalize tm.getD 72 undef = x72 at hlit
            generalize tm.getD 73 undef = x73 at hlit
            generalize tm.getD 74 undef = x74 at hlit
            generalize tm.getD 75 undef = x75 at hlit
            generalize tm.getD 76 undef = x76 at hlit
            generalize tm.getD 77 undef = x77 at hlit
            generalize tm.getD 78 undef = x78 at hlit
            generalize tm.getD 79 undef = x79 at hlit
            generalize tm.getD 80 undef = x80 at hlit
            generalize tm.getD 81 undef = x81 at hlit
            generalize tm.getD 82 undef = x82 at hlit
            generalize tm.getD 83 undef = x83 at hlit
            generalize tm.getD 84 undef = x84 at hlit
            generalize tm.getD 85 undef = x85 at hlit
            generalize tm.getD 86 undef = x86 at hlit
            generalize tm.getD 87 undef = x87 at hlit
            generalize tm.getD 88 undef = x88 at hlit
            generalize tm.getD 89 undef = x89 at hlit
            generalize tm.getD 90 undef = x90 at hlit
            generalize tm.getD 91 undef = x91 at hlit
            generalize tm.getD 92 undef = x92 at hlit
            generalize tm.getD 93 undef = x93 at hlit
            generalize tm.getD 94 undef = x94 at hlit
            subst hlit
            subst hdef
            try simp only []
            have b4 := UP2.out w4 hR'
            clear UP2 hR'
            go_wp2
            go_ret
            exact ⟨rfl, bel.trans (b4.mono bel.size)⟩
    | inr y =>
      obtain ⟨rfl, hsy, hty⟩ := decV_ok g
      rw [g] at hg
      obtain ⟨R8, k8, c8, rfl, hs8, hk8, hk8', hb5⟩ := hg
      have ty5 : Took2 u0 R8 k8 c8 y := ⟨hs8, small_fits hsy, hk8, hk8', by have := hs8.1; have := hsy.1; omega⟩
      have bel := bel4.trans (hb5.mono bel4.size)
      have hp5 := hp4.below hb5
      have tv5 := tv4.below hb5
      have hB5 := hB4.below hb5
      have tx5 := tx4.below hb5
      have HP : Hid (∀ W, Below u0.heap.size u0 W → Sees W Q pn (layL y)) := Lib.hid fun W hW => hp5.below hW
      have HB : Hid (∀ W, Below u0.heap.size u0 W → Sees W B5 (layL v).length (layL v)) := Lib.hid fun W hW => hB5.below hW
      have HV : Hid (∀ W, Below u0.heap.size u0 W → Took2 W A n c v) := Lib.hid fun W hW => tv5.below hW
      have HX : Hid (∀ W, Below u0.heap.size u0 W → Took2 W R6 k6 c6 (trimL v)) := Lib.hid fun W hW => tx5.below hW
      have HY : Hid (∀ W, Below u0.heap.size u0 W → Took2 W R8 k8 c8 y) := Lib.hid fun W hW => ty5.below hW
      have SY := Lib.hid hsy
      clear hp4 tv4 hB4 tx4 hb5 hp5 tv5 hB5 tx5 hsm HOF6 g bel3 bel4 hln hcB hcB2 hk6 hk6' h1 h2 hc hpc hc2 hpc2 ty5 hs8 hk8 hk8' hsy hty
      have UP : Hid (∀ W, Below u0.drew.heap.size u0.drew W → Below u0.heap.size u0 W) := Lib.hid fun W hW => ((Below.refl _ _).drew).trans hW
      go_wp2_with fail
      refine Facts.wp_region_preds (n := 95) (by kernel_rfl) (by kernel_rfl) rfl [Facts.Pred.is (Value.int .i64 0), Facts.Pred.is (Value.bool true), Facts.Pred.is (Value.bool true), Facts.Pred.is (Value.slice R8 k8 c8), Facts.Pred.shows (layL y).length (layL y), Facts.Pred.is (Value.string ⟨(layL y).toArray⟩), Facts.Pred.is (Value.slice Q pn pc), Facts.Pred.is (Value.string ⟨(layL y).toArray⟩), Facts.Pred.is (Value.bool false), Facts.Pred.is (Value.bool false), Facts.Pred.is (Value.bool false), Facts.Pred.is (Value.int .i64 0), Facts.Pred.is (Value.bool false), Facts.Pred.is (Value.bool false), Facts.Pred.is undef, Facts.Pred.is undef, Facts.Pred.is undef, Facts.Pred.is undef, Facts.Pred.is undef, Facts.Pred.is undef, Facts.Pred.is undef, Facts.Pred.is undef, Facts.Pred.is undef, Facts.Pred.is undef, Facts.Pred.is undef, Facts.Pred.is undef, Facts.Pred.is undef, Facts.Pred.is undef, Facts.Pred.is undef, Facts.Pred.is (Value.bool false), Facts.Pred.is (Value.bool false)] ?_ ?_
      · refine ⟨?_, ?_, ?_, ?_, ?_, ?_, ?_, ?_, ?_, ?_, ?_, ?_, ?_, ?_, ?_, ?_, ?_, ?_, ?_, ?_, ?_, ?_, ?_, ?_, ?_, ?_, ?_, ?_, ?_, ?_, ?_, trivial⟩
        · refine Facts.step_is (Value.int .i64 0) fun a W hR hold hnew => ?_
          have f9 : a.tmps.getD 9 undef = Value.int .i64 0 := hold 9 (by kernel_rfl)
          refine ⟨Facts.wanted_free rfl, ?_, fun _ => rfl⟩
          simp [go_sem, Act.eval, f9]
        · refine Facts.step_is (Value.bool true) fun a W hR hold hnew => ?_
          have f38 : a.tmps.getD 38 undef = Value.int .i64 0 := hnew 0 38 (by kernel_rfl)
          refine ⟨Facts.wanted_free rfl, ?_, fun _ => rfl⟩
          simp [go_sem, Act.eval, f38]
        · refine Facts.step_is (Value.bool true) fun a W hR hold hnew => ?_
          have f39 : a.tmps.getD 39 undef = Value.bool true := hnew 1 39 (by kernel_rfl)
          refine ⟨Facts.wanted_free rfl, ?_, fun _ => rfl⟩
          simp [go_sem, Act.eval, f39]
        · refine Facts.step_is (Value.slice R8 k8 c8) fun a W hR hold hnew => ?_
          have f8 : a.tmps.getD 8 undef = Value.slice R8 k8 c8 := hold 8 (by kernel_rfl)
          have g40 : a.tmps.getD 40 undef = .bool true := hnew 2 40 (by kernel_rfl)
          refine ⟨Facts.wanted_by rfl (by kernel_rfl) g40, ?_, fun _ => rfl⟩
          simp [go_sem, Act.eval, f8]
        · -- 4: Op.call { value (Operand.func 19), args := #[t41], argTypes 
          refine Facts.step_call fun a W hR hold hnew => ?_
          have f41 : a.tmps.getD 41 undef = Value.slice R8 k8 c8 := hnew 3 41 (by kernel_rfl); have g40 : a.tmps.getD 40 undef = .bool true := hnew 2 40 (by kernel_rfl)
          refine ⟨Facts.wanted_by rfl (by kernel_rfl) g40, 19, #[Value.slice R8 k8 c8], by simp [go_sem, Act.eval, f41], ?_⟩
          refine (hby R8 k8 c8 y W (HY.out W (UP.out W hR)) SY.out).mono ?_
          rintro e' w7 ⟨R9, rc9, rfl, hs9, -, -, hb9⟩
          exact ⟨_, rfl, hb9, R9, rc9, rfl, hs9⟩
        · -- 5: Op.convert 34 9 t42
          refine Facts.step_is (Value.string ⟨(layL y).toArray⟩) fun a W hR hold hnew => ?_
          have h42 : ∃ A' c', a.tmps.getD 42 undef = .slice A' (layL y).length c' ∧ Sees W A' (layL y).length (layL y) := hnew 4 42 (by kernel_rfl)
          have g40 : a.tmps.getD 40 undef = .bool true := hnew 2 40 (by kernel_rfl)
          obtain ⟨A9, c9, f42, hs9⟩ := h42
          have r := (hs9).string (P := Try.prog) c9 (t := 34) (s := 9) (e := 5) Try.underlying34 Try.underlying5 Try.underlying9
          refine ⟨Facts.wanted_by rfl (by kernel_rfl) g40, ?_, fun _ => rfl⟩
          simp [go_sem, Act.eval, f42, r]
        · refine Facts.step_is (Value.slice Q pn pc) fun a W hR hold hnew => ?_
          have f1 : a.tmps.getD 1 undef = Value.slice Q pn pc := hold 1 (by kernel_rfl)
          have g40 : a.tmps.getD 40 undef = .bool true := hnew 2 40 (by kernel_rfl)
          refine ⟨Facts.wanted_by rfl (by kernel_rfl) g40, ?_, fun _ => rfl⟩
          simp [go_sem, Act.eval, f1]
        · refine Facts.step_is (Value.string ⟨(layL y).toArray⟩) fun a W hR hold hnew => ?_
          have f44 : a.tmps.getD 44 undef = Value.slice Q pn pc := hnew 6 44 (by kernel_rfl)
          have g40 : a.tmps.getD 40 undef = .bool true := hnew 2 40 (by kernel_rfl)
          have r := (HP.out W (UP.out W hR)).string (P := Try.prog) pc (t := 34) (s := 9) (e := 5) Try.underlying34 Try.underlying5 Try.underlying9
          refine ⟨Facts.wanted_by rfl (by kernel_rfl) g40, ?_, fun _ => rfl⟩
          simp [go_sem, Act.eval, f44, r]
        · refine Facts.step_is (Value.bool false) fun a W hR hold hnew => ?_
          have f43 : a.tmps.getD 43 undef = Value.string ⟨(layL y).toArray⟩ := hnew 5 43 (by kernel_rfl)
          have f45 : a.tmps.getD 45 undef = Value.string ⟨(layL y).toArray⟩ := hnew 7 45 (by kernel_rfl)
          have g40 : a.tmps.getD 40 undef = .bool true := hnew 2 40 (by kernel_rfl)
          refine ⟨Facts.wanted_by rfl (by kernel_rfl) g40, ?_, fun _ => rfl⟩
          simp [go_sem, Act.eval, f43, f45]
        · refine Facts.step_is (Value.bool false) fun a W hR hold hnew => ?_
          have f40 : a.tmps.getD 40 undef = Value.bool true := hnew 2 40 (by kernel_rfl)
          have f46 : a.tmps.getD 46 undef = Value.bool false := hnew 8 46 (by kernel_rfl)
          refine ⟨Facts.wanted_free rfl, ?_, fun _ => rfl⟩
          simp [go_sem, Act.eval, f40, f46]
        · refine Facts.step_is (Value.bool false) fun a W hR hold hnew => ?_
          have f47 : a.tmps.getD 47 undef = Value.bool false := hnew 9 47 (by kernel_rfl)
          refine ⟨Facts.wanted_free rfl, ?_, fun _ => rfl⟩
          simp [go_sem, Act.eval, f47]
        · refine Facts.step_is (Value.int .i64 0) fun a W hR hold hnew => ?_
          have f9 : a.tmps.getD 9 undef = Value.int .i64 0 := hold 9 (by kernel_rfl)
          have g48 : a.tmps.getD 48 undef = .bool false := hnew 10 48 (by kernel_rfl)
          refine ⟨Facts.wanted_by rfl (by kernel_rfl) g48, ?_, fun _ => rfl⟩
          simp [go_sem, Act.eval, f9]
        · refine Facts.step_is (Value.bool false) fun a W hR hold hnew => ?_
          have f49 : a.tmps.getD 49 undef = Value.int .i64 0 := hnew 11 49 (by kernel_rfl)
          have g48 : a.tmps.getD 48 undef = .bool false := hnew 10 48 (by kernel_rfl)
          refine ⟨Facts.wanted_by rfl (by kernel_rfl) g48, ?_, fun _ => rfl⟩
          simp [go_sem, Act.eval, f49]
        · refine Facts.step_is (Value.bool false) fun a W hR hold hnew => ?_
          have f50 : a.tmps.getD 50 undef = Value.bool false := hnew 12 50 (by kernel_rfl)
          have g48 : a.tmps.getD 48 undef = .bool false := hnew 10 48 (by kernel_rfl)
          refine ⟨Facts.wanted_by rfl (by kernel_rfl) g48, ?_, fun _ => rfl⟩
          simp [go_sem, Act.eval, f50]
        · -- 14: Op.move t8
          refine step_skip (fun a W hnew => ?_) (fun _ => rfl)
          have g51 : a.tmps.getD 51 undef = .bool false := hnew 13 51 (by kernel_rfl)
          exact wanted_not rfl (by kernel_rfl) g51
        · -- 15: Op.call { builtin len, args := #[t52], argTypes := #[24] }
          refine step_skip (fun a W hnew => ?_) (fun _ => rfl)
          have g51 : a.tmps.getD 51 undef = .bool false := hnew 13 51 (by kernel_rfl)
          exact wanted_not rfl (by kernel_rfl) g51
        · -- 16: Op.binOp BinOp.neq 3 t53 (const (0:i64)) 3
          refine step_skip (fun a W hnew => ?_) (fun _ => rfl)
          have g51 : a.tmps.getD 51 undef = .bool false := hnew 13 51 (by kernel_rfl)
          exact wanted_not rfl (by kernel_rfl) g51
        · -- 17: Op.move t54
          refine step_skip (fun a W hnew => ?_) (fun _ => rfl)
          have g51 : a.tmps.getD 51 undef = .bool false := hnew 13 51 (by kernel_rfl)
          exact wanted_not rfl (by kernel_rfl) g51
        · -- 18: Op.move t9
          refine step_skip (fun a W hnew => ?_) (fun _ => rfl)
          have g55 : a.tmps.getD 55 undef = undef := hnew 17 55 (by kernel_rfl)
          exact wanted_undef rfl (by kernel_rfl) g55
        · -- 19: Op.binOp BinOp.neq 37 t56 (const (4:i64)) 37
          refine step_skip (fun a W hnew => ?_) (fun _ => rfl)
          have g55 : a.tmps.getD 55 undef = undef := hnew 17 55 (by kernel_rfl)
          exact wanted_undef rfl (by kernel_rfl) g55
        · -- 20: Op.move t57
          refine step_skip (fun a W hnew => ?_) (fun _ => rfl)
          have g55 : a.tmps.getD 55 undef = undef := hnew 17 55 (by kernel_rfl)
          exact wanted_undef rfl (by kernel_rfl) g55
        · -- 21: Op.move t9
          refine step_skip (fun a W hnew => ?_) (fun _ => rfl)
          have g58 : a.tmps.getD 58 undef = undef := hnew 20 58 (by kernel_rfl)
          exact wanted_undef rfl (by kernel_rfl) g58
        · -- 22: Op.binOp BinOp.neq 37 t59 (const (5:i64)) 37
          refine step_skip (fun a W hnew => ?_) (fun _ => rfl)
          have g58 : a.tmps.getD 58 undef = undef := hnew 20 58 (by kernel_rfl)
          exact wanted_undef rfl (by kernel_rfl) g58
        · -- 23: Op.pick t58 t60 (const (Value.bool false))
          refine step_skip (fun a W hnew => ?_) (fun _ => rfl)
          have g55 : a.tmps.getD 55 undef = undef := hnew 17 55 (by kernel_rfl)
          exact wanted_undef rfl (by kernel_rfl) g55
        · -- 24: Op.move t61
          refine step_skip (fun a W hnew => ?_) (fun _ => rfl)
          have g55 : a.tmps.getD 55 undef = undef := hnew 17 55 (by kernel_rfl)
          exact wanted_undef rfl (by kernel_rfl) g55
        · -- 25: Op.move t9
          refine step_skip (fun a W hnew => ?_) (fun _ => rfl)
          have g62 : a.tmps.getD 62 undef = undef := hnew 24 62 (by kernel_rfl)
          exact wanted_undef rfl (by kernel_rfl) g62
        · -- 26: Op.binOp BinOp.neq 37 t63 (const (6:i64)) 37
          refine step_skip (fun a W hnew => ?_) (fun _ => rfl)
          have g62 : a.tmps.getD 62 undef = undef := hnew 24 62 (by kernel_rfl)
          exact wanted_undef rfl (by kernel_rfl) g62
        · -- 27: Op.pick t62 t64 (const (Value.bool false))
          refine step_skip (fun a W hnew => ?_) (fun _ => rfl)
          have g55 : a.tmps.getD 55 undef = undef := hnew 17 55 (by kernel_rfl)
          exact wanted_undef rfl (by kernel_rfl) g55
        · -- 28: Op.pick t55 (const (Value.bool true)) t65
          refine step_skip (fun a W hnew => ?_) (fun _ => rfl)
          have g51 : a.tmps.getD 51 undef = .bool false := hnew 13 51 (by kernel_rfl)
          exact wanted_not rfl (by kernel_rfl) g51
        · refine Facts.step_is (Value.bool false) fun a W hR hold hnew => ?_
          have f51 : a.tmps.getD 51 undef = Value.bool false := hnew 13 51 (by kernel_rfl)
          have g48 : a.tmps.getD 48 undef = .bool false := hnew 10 48 (by kernel_rfl)
          refine ⟨Facts.wanted_by rfl (by kernel_rfl) g48, ?_, fun _ => rfl⟩
          simp [go_sem, Act.eval, f51]
        · refine Facts.step_is (Value.bool false) fun a W hR hold hnew => ?_
          have f48 : a.tmps.getD 48 undef = Value.bool false := hnew 10 48 (by kernel_rfl)
          have f67 : a.tmps.getD 67 undef = Value.bool false := hnew 29 67 (by kernel_rfl)
          refine ⟨Facts.wanted_free rfl, ?_, fun _ => rfl⟩
          simp [go_sem, Act.eval, f48, f67]
      · intro a w3 hR' hsize hdef hnew hold
        have f68 : a.tmps.getD 68 undef = Value.bool false := hnew 30 68 (by kernel_rfl)
        have f0 : a.tmps.getD 0 undef = Value.slice A n c := hold 0 (Facts.not_dst (by kernel_rfl))
        have f5 : a.tmps.getD 5 undef = Value.slice B5 (layL v).length c5 := hold 5 (Facts.not_dst (by kernel_rfl))
        have f6 : a.tmps.getD 6 undef = Value.slice R6 k6 c6 := hold 6 (Facts.not_dst (by kernel_rfl))
        have f7 : a.tmps.getD 7 undef = Value.int .i64 0 := hold 7 (Facts.not_dst (by kernel_rfl))
        obtain ⟨tm, df⟩ := a
        simp only [] at hdef hsize f68 f0 f5 f6 f7
        have hlit : tm = #[tm.getD 0 undef, tm.getD 1 undef, tm.getD 2 undef, tm.getD 3 undef, tm.getD 4 undef, tm.getD 5 undef, tm.getD 6 undef, tm.getD 7 undef, tm.getD 8 undef, tm.getD 9 undef, tm.getD 10 undef, tm.getD 11 undef, tm.getD 12 undef, tm.getD 13 undef, tm.getD 14 undef, tm.getD 15 undef, tm.getD 16 undef, tm.getD 17 undef, tm.getD 18 undef, tm.getD 19 undef, tm.getD 20 undef, tm.getD 21 undef, tm.getD 22 undef, tm.getD 23 undef, tm.getD 24 undef, tm.getD 25 undef, tm.getD 26 undef, tm.getD 27 undef, tm.getD 28 undef, tm.getD 29 undef, tm.getD 30 undef, tm.getD 31 undef, tm.getD 32 undef, tm.getD 33 undef, tm.getD 34 undef, tm.getD 35 undef, tm.getD 36 undef, tm.getD 37 undef, tm.getD 38 undef, tm.getD 39 undef, tm.getD 40 undef, tm.getD 41 undef, tm.getD 42 undef, tm.getD 43 undef, tm.getD 44 undef, tm.getD 45 undef, tm.getD 46 undef, tm.getD 47 undef, tm.getD 48 undef, tm.getD 49 undef, tm.getD 50 undef, tm.getD 51 undef, tm.getD 52 undef, tm.getD 53 undef, tm.getD 54 undef, tm.getD 55 undef, tm.getD 56 undef, tm.getD 57 undef, tm.getD 58 undef, tm.getD 59 undef, tm.getD 60 undef, tm.getD 61 undef, tm.getD 62 undef, tm.getD 63 undef, tm.getD 64 undef, tm.getD 65 undef, tm.getD 66 undef, tm.getD 67 undef, tm.getD 68 undef, tm.getD 69 undef, tm.getD 70 undef, tm.getD 71 undef, tm.getD 72 undef, tm.getD 73 undef, tm.getD 74 undef, tm.getD 75 undef, tm.getD 76 undef, tm.getD 77 undef, tm.getD 78 undef, tm.getD 79 undef, tm.getD 80 undef, tm.getD 81 undef, tm.getD 82 undef, tm.getD 83 undef, tm.getD 84 undef, tm.getD 85 undef, tm.getD 86 undef, tm.getD 87 undef, tm.getD 88 undef, tm.getD 89 undef, tm.getD 90 undef, tm.getD 91 undef, tm.getD 92 undef, tm.getD 93 undef, tm.getD 94 undef] := (Facts.array_lit tm hsize).trans rfl
        rw [f68, f0, f5, f6, f7] at hlit
        clear f68 f0 f5 f6 f7 hsize hnew hold
        generalize tm.getD 1 undef = x1 at hlit
        generalize tm.getD 2 undef = x2 at hlit
        generalize tm.getD 3 undef = x3 at hlit
        generalize tm.getD 4 undef = x4 at hlit
        generalize tm.getD 8 undef = x8 at hlit
        generalize tm.getD 9 undef = x9 at hlit
        generalize tm.getD 10 undef = x10 at hlit
        generalize tm.getD 11 undef = x11 at hlit
        generalize tm.getD 12 undef = x12 at hlit
        generalize tm.getD 13 undef = x13 at hlit
        generalize tm.getD 14 undef = x14 at hlit
        generalize tm.getD 15 undef = x15 at hlit
        generalize tm.getD 16 undef = x16 at hlit
        generalize tm.getD 17 undef = x17 at hlit
        generalize tm.getD 18 undef = x18 at hlit
        generalize tm.getD 19 undef = x19 at hlit
        generalize tm.getD 20 undef = x20 at hlit
        generalize tm.getD 21 undef = x21 at hlit
        generalize tm.getD 22 undef = x22 at hlit
        generalize tm.getD 23 undef = x23 at hlit
        generalize tm.getD 24 undef = x24 at hlit
        generalize tm.getD 25 undef = x25 at hlit
        generalize tm.getD 26 undef = x26 at hlit
        generalize tm.getD 27 undef = x27 at hlit
        generalize tm.getD 28 undef = x28 at hlit
        generalize tm.getD 29 undef = x29 at hlit
        generalize tm.getD 30 undef = x30 at hlit
        generalize tm.getD 31 undef = x31 at hlit
        generalize tm.getD 32 undef = x32 at hlit
        generalize tm.getD 33 undef = x33 at hlit
        generalize tm.getD 34 undef = x34 at hlit
        generalize tm.getD 35 undef = x35 at hlit
        generalize tm.getD 36 undef = x36 at hlit
        generalize tm.getD 37 undef = x37 at hlit
        generalize tm.getD 38 undef = x38 at hlit
        generalize tm.getD 39 undef = x39 at hlit
        generalize tm.getD 40 undef = x40 at hlit
        generalize tm.getD 41 undef = x41 at hlit
        generalize tm.getD 42 undef = x42 at hlit
        generalize tm.getD 43 undef = x43 at hlit
        generalize tm.getD 44 undef = x44 at hlit
        generalize tm.getD 45 undef = x45 at hlit
        generalize tm.getD 46 undef = x46 at hlit
        generalize tm.getD 47 undef = x47 at hlit
        generalize tm.getD 48 undef = x48 at hlit
        generalize tm.getD 49 undef = x49 at hlit
        generalize tm.getD 50 undef = x50 at hlit
        generalize tm.getD 51 undef = x51 at hlit
        generalize tm.getD 52 undef = x52 at hlit
        generalize tm.getD 53 undef = x53 at hlit
        generalize tm.getD 54 undef = x54 at hlit
        generalize tm.getD 55 undef = x55 at hlit
        generalize tm.getD 56 undef = x56 at hlit
        generalize tm.getD 57 undef = x57 at hlit
        generalize tm.getD 58 undef = x58 at hlit
        generalize tm.getD 59 undef = x59 at hlit
        generalize tm.getD 60 undef = x60 at hlit
        generalize tm.getD 61 undef = x61 at hlit
        generalize tm.getD 62 undef = x62 at hlit
        generalize tm.getD 63 undef = x63 at hlit
        generalize tm.getD 64 undef = x64 at hlit
        generalize tm.getD 65 undef = x65 at hlit
        generalize tm.getD 66 undef = x66 at hlit
        generalize tm.getD 67 undef = x67 at hlit
        generalize tm.getD 69 undef = x69 at hlit
        generalize tm.getD 70 undef = x70 at hlit
        generalize tm.getD 71 undef = x71 at hlit
        generalize tm.getD 72 undef = x72 at hlit
        generalize tm.getD 73 undef = x73 at hlit
        generalize tm.getD 74 undef = x74 at hlit
        generalize tm.getD 75 undef = x75 at hlit
        generalize tm.getD 76 undef = x76 at hlit
        generalize tm.getD 77 undef = x77 at hlit
        generalize tm.getD 78 undef = x78 at hlit
        generalize tm.getD 79 undef = x79 at hlit
        generalize tm.getD 80 undef = x80 at hlit
        generalize tm.getD 81 undef = x81 at hlit
        generalize tm.getD 82 undef = x82 at hlit
        generalize tm.getD 83 undef = x83 at hlit
        generalize tm.getD 84 undef = x84 at hlit
        generalize tm.getD 85 undef = x85 at hlit
        generalize tm.getD 86 undef = x86 at hlit
        generalize tm.getD 87 undef = x87 at hlit
        generalize tm.getD 88 undef = x88 at hlit
        generalize tm.getD 89 undef = x89 at hlit
        generalize tm.getD 90 undef = x90 at hlit
        generalize tm.getD 91 undef = x91 at hlit
        generalize tm.getD 92 undef = x92 at hlit
        generalize tm.getD 93 undef = x93 at hlit
        generalize tm.getD 94 undef = x94 at hlit
        subst hlit
        subst hdef
        try simp only []
        have b3 := UP.out w3 hR'
        clear UP hR'
        go_wp2_with fail
        have UP2 : Hid (∀ W, Keeps.R 2 w3.heap.size w3.drew W → Below u0.heap.size u0 W) := Lib.hid fun W hW => (b3.drew).trans (hW.1.mono b3.size)
        have hB0 : w3.heap.size ≤ w3.drew.heap.size := Nat.le_refl _
        refine Keeps.wp_region_keeps (n := 95) (by kernel_rfl) (by kernel_rfl) rfl w3.heap.size [Keeps.Pred.is (m := 2) (Value.slice B5 (layL v).length c5), Keeps.Pred.is (Value.string ⟨(layL v).toArray⟩), Keeps.Pred.is (Value.slice A n c), Keeps.Pred.row (layL v).length (layL v), Keeps.Pred.is (Value.string ⟨(layL v).toArray⟩), Keeps.Pred.is (Value.bool true), Keeps.Pred.is (Value.bool true), Keeps.Pred.is (Value.int .i64 0), Keeps.Pred.is (Value.bool true), Keeps.Pred.is (Value.bool true), Keeps.Pred.is (Value.bool true), Keeps.Pred.is (Value.slice R6 k6 c6), Keeps.Pred.is (Value.slice A n c), Keeps.Pred.is (Value.bool true), Keeps.Pred.is (Value.bool true), Keeps.Pred.is (Value.bool true), Keeps.Pred.is (Value.slice A n c), Keeps.Pred.laid (m := 2) w3.heap.size #[.int .u8 97, .int .u8 98] 5, Keeps.Pred.row 2 [97, 98], Keeps.Pred.row qq.length qq, Keeps.Pred.is (Value.string ⟨qq.toArray⟩), Keeps.Pred.is (Value.slice B5 (layL v).length c5), Keeps.Pred.is (Value.string ⟨(layL v).toArray⟩), Keeps.Pred.is (Value.string ⟨qq.toArray⟩), Keeps.Pred.is (Value.bool true), Keeps.Pred.is (Value.bool true), Keeps.Pred.is (Value.bool true)] ?_ ?_
        · refine ⟨?_, ?_, ?_, ?_, ?_, ?_, ?_, ?_, ?_, ?_, ?_, ?_, ?_, ?_, ?_, ?_, ?_, ?_, ?_, ?_, ?_, ?_, ?_, ?_, ?_, ?_, ?_, trivial⟩
          · refine Keeps.step_is (Value.slice B5 (layL v).length c5) fun a W hR hold hnew => ?_
            have f5 : a.tmps.getD 5 undef = Value.slice B5 (layL v).length c5 := hold 5 (by kernel_rfl)
            refine ⟨Facts.wanted_free rfl, ?_, fun _ => rfl⟩
            simp [go_sem, Act.eval, f5]
          · refine Keeps.step_is (Value.string ⟨(layL v).toArray⟩) fun a W hR hold hnew => ?_
            have f69 : a.tmps.getD 69 undef = Value.slice B5 (layL v).length c5 := hnew 0 69 (by kernel_rfl)
            have r := (HB.out W (UP2.out W hR)).string (P := Try.prog) c5 (t := 34) (s := 9) (e := 5) Try.underlying34 Try.underlying5 Try.underlying9
            refine ⟨Facts.wanted_free rfl, ?_, fun _ => rfl⟩
            simp [go_sem, Act.eval, f69, r]
          · refine Keeps.step_is (Value.slice A n c) fun a W hR hold hnew => ?_
            have f0 : a.tmps.getD 0 undef = Value.slice A n c := hold 0 (by kernel_rfl)
            refine ⟨Facts.wanted_free rfl, ?_, fun _ => rfl⟩
            simp [go_sem, Act.eval, f0]
          · -- 3: Op.call { value (Operand.func 21), args := #[const (Value.sl
            refine Keeps.step_call hB0 fun a W hR hold hnew => ?_
            have f71 : a.tmps.getD 71 undef = Value.slice A n c := hnew 2 71 (by kernel_rfl)
            refine ⟨Facts.wanted_free rfl, 21, #[.slice none 0 0, Value.slice A n c], by simp [go_sem, Act.eval, f71], ?_⟩
            have h := refLayV_any none A 0 0 n c [] v W (Sees.nil _ _) (HV.out W (UP2.out W hR)).1 SM.out (by decide)
            rw [Nat.zero_add, List.nil_append] at h
            refine h.mono ?_
            rintro e' w7 ⟨R9, rc9, rfl, hs9, hb9⟩
            exact ⟨_, rfl, hb9, R9, rc9, rfl, (Own.cap hs9).1, (Own.cap hs9).2, Sees.of_own hs9⟩
          · -- 4: Op.convert 34 9 t72
            refine Keeps.step_is (Value.string ⟨(layL v).toArray⟩) fun a W hR hold hnew => ?_
            have h72 : ∃ A' c', a.tmps.getD 72 undef = .slice A' (layL v).length c' ∧ (layL v).length ≤ c' ∧ c' ≤ 9223372036854775807 ∧ Sees W A' (layL v).length (layL v) := hnew 3 72 (by kernel_rfl)
            obtain ⟨A9, c9, f72, -, -, hs9⟩ := h72
            have r := (hs9).string (P := Try.prog) c9 (t := 34) (s := 9) (e := 5) Try.underlying34 Try.underlying5 Try.underlying9
            refine ⟨Facts.wanted_free rfl, ?_, fun _ => rfl⟩
            simp [go_sem, Act.eval, f72, r]
          · refine Keeps.step_is (Value.bool true) fun a W hR hold hnew => ?_
            have f70 : a.tmps.getD 70 undef = Value.string ⟨(layL v).toArray⟩ := hnew 1 70 (by kernel_rfl)
            have f73 : a.tmps.getD 73 undef = Value.string ⟨(layL v).toArray⟩ := hnew 4 73 (by kernel_rfl)
            refine ⟨Facts.wanted_free rfl, ?_, fun _ => rfl⟩
            simp [go_sem, Act.eval, f70, f73]
          · refine Keeps.step_is (Value.bool true) fun a W hR hold hnew => ?_
            have f74 : a.tmps.getD 74 undef = Value.bool true := hnew 5 74 (by kernel_rfl)
            refine ⟨Facts.wanted_free rfl, ?_, fun _ => rfl⟩
            simp [go_sem, Act.eval, f74]
          · refine Keeps.step_is (Value.int .i64 0) fun a W hR hold hnew => ?_
            have f7 : a.tmps.getD 7 undef = Value.int .i64 0 := hold 7 (by kernel_rfl)
            have g75 : a.tmps.getD 75 undef = .bool true := hnew 6 75 (by kernel_rfl)
            refine ⟨Facts.wanted_by rfl (by kernel_rfl) g75, ?_, fun _ => rfl⟩
            simp [go_sem, Act.eval, f7]
          · refine Keeps.step_is (Value.bool true) fun a W hR hold hnew => ?_
            have f76 : a.tmps.getD 76 undef = Value.int .i64 0 := hnew 7 76 (by kernel_rfl)
            have g75 : a.tmps.getD 75 undef = .bool true := hnew 6 75 (by kernel_rfl)
            refine ⟨Facts.wanted_by rfl (by kernel_rfl) g75, ?_, fun _ => rfl⟩
            simp [go_sem, Act.eval, f76]
          · refine Keeps.step_is (Value.bool true) fun a W hR hold hnew => ?_
            have f75 : a.tmps.getD 75 undef = Value.bool true := hnew 6 75 (by kernel_rfl)
            have f77 : a.tmps.getD 77 undef = Value.bool true := hnew 8 77 (by kernel_rfl)
            refine ⟨Facts.wanted_free rfl, ?_, fun _ => rfl⟩
            simp [go_sem, Act.eval, f75, f77]
          · refine Keeps.step_is (Value.bool true) fun a W hR hold hnew => ?_
            have f78 : a.tmps.getD 78 undef = Value.bool true := hnew 9 78 (by kernel_rfl)
            refine ⟨Facts.wanted_free rfl, ?_, fun _ => rfl⟩
            simp [go_sem, Act.eval, f78]
          · refine Keeps.step_is (Value.slice R6 k6 c6) fun a W hR hold hnew => ?_
            have f6 : a.tmps.getD 6 undef = Value.slice R6 k6 c6 := hold 6 (by kernel_rfl)
            have g79 : a.tmps.getD 79 undef = .bool true := hnew 10 79 (by kernel_rfl)
            refine ⟨Facts.wanted_by rfl (by kernel_rfl) g79, ?_, fun _ => rfl⟩
            simp [go_sem, Act.eval, f6]
          · refine Keeps.step_is (Value.slice A n c) fun a W hR hold hnew => ?_
            have f0 : a.tmps.getD 0 undef = Value.slice A n c := hold 0 (by kernel_rfl)
            have g79 : a.tmps.getD 79 undef = .bool true := hnew 10 79 (by kernel_rfl)
            refine ⟨Facts.wanted_by rfl (by kernel_rfl) g79, ?_, fun _ => rfl⟩
            simp [go_sem, Act.eval, f0]
          · -- 13: Op.call { value (Operand.func 15), args := #[t80, t81], argT
            refine Keeps.step_call hB0 fun a W hR hold hnew => ?_
            have f80 : a.tmps.getD 80 undef = Value.slice R6 k6 c6 := hnew 11 80 (by kernel_rfl); have f81 : a.tmps.getD 81 undef = Value.slice A n c := hnew 12 81 (by kernel_rfl); have g79 : a.tmps.getD 79 undef = .bool true := hnew 10 79 (by kernel_rfl)
            refine ⟨Facts.wanted_by rfl (by kernel_rfl) g79, 15, #[Value.slice R6 k6 c6, Value.slice A n c], by simp [go_sem, Act.eval, f80, f81], ?_⟩
            refine (hs _ _ _ _ _ _ _ _ W (HX.out W (UP2.out W hR)) (HV.out W (UP2.out W hR))).mono ?_
            rintro e' w7 ⟨rfl, hb9⟩
            exact ⟨_, rfl, hb9, congrArg Value.bool (same_yes fun i => trimL_at v i)⟩
          · refine Keeps.step_is (Value.bool true) fun a W hR hold hnew => ?_
            have f79 : a.tmps.getD 79 undef = Value.bool true := hnew 10 79 (by kernel_rfl)
            have f82 : a.tmps.getD 82 undef = Value.bool true := hnew 13 82 (by kernel_rfl)
            refine ⟨Facts.wanted_free rfl, ?_, fun _ => rfl⟩
            simp [go_sem, Act.eval, f79, f82]
          · refine Keeps.step_is (Value.bool true) fun a W hR hold hnew => ?_
            have f83 : a.tmps.getD 83 undef = Value.bool true := hnew 14 83 (by kernel_rfl)
            refine ⟨Facts.wanted_free rfl, ?_, fun _ => rfl⟩
            simp [go_sem, Act.eval, f83]
          · refine Keeps.step_is (Value.slice A n c) fun a W hR hold hnew => ?_
            have f0 : a.tmps.getD 0 undef = Value.slice A n c := hold 0 (by kernel_rfl)
            have g84 : a.tmps.getD 84 undef = .bool true := hnew 15 84 (by kernel_rfl)
            refine ⟨Facts.wanted_by rfl (by kernel_rfl) g84, ?_, fun _ => rfl⟩
            simp [go_sem, Act.eval, f0]
          · -- 17: Op.buildSlice 34 2 #[(0, const (97:u8)), (1, const (98:u8))]
            refine Keeps.step_new fun a W hR hold hnew => ?_
            have g84 : a.tmps.getD 84 undef = .bool true := hnew 15 84 (by kernel_rfl)
            have hl := Keeps.laid_new (m := 2) (B := w3.heap.size) W #[.int .u8 97, .int .u8 98] 5 hR.1.size
            exact ⟨Facts.wanted_by rfl (by kernel_rfl) g84, .slice (some ⟨W.heap.size, 0, none⟩) 2 2, W.alloc (.cells #[.int .u8 97, .int .u8 98] 5), by simp [go_sem, Act.eval], hl.1, hl.2⟩
          · -- 18: Op.convert 34 34 t86
            refine Keeps.step_new fun a W hR hold hnew => ?_
            have h86 : ∃ g fr, a.tmps.getD 86 undef = .slice (some ⟨g, 0, none⟩) 2 2 ∧ w3.heap.size ≤ g ∧ W.heap[g]? = some (.cells #[.int .u8 97, .int .u8 98] 5 fr) := hnew 17 86 (by kernel_rfl)
            have g84 : a.tmps.getD 84 undef = .bool true := hnew 15 84 (by kernel_rfl)
            obtain ⟨g, fr, f86, hgB, hg⟩ := h86
            obtain ⟨W', hrun, hR'⟩ := Keeps.run_mark (P := Try.prog) 2 2 Try.underlying34 Try.underlying5 hg hgB (m := 2) (Nat.le_refl _)
            refine ⟨Facts.wanted_by rfl (by kernel_rfl) g84, .slice (some ⟨g, 0, none⟩) 2 2, W', by simp [go_sem, Act.eval, f86, hrun], hR', _, 2, rfl, Nat.le_refl _, by omega, rfl, fun _ => ⟨g, 0, rfl, fun j u hj => hR'.2.cell ?_⟩⟩
            rw [cell_of_row W g (0 + j) _ _ _ hg]
            match j, hj with
            | 0, hj => simp at hj; subst hj; rfl
            | 1, hj => simp at hj; subst hj; rfl
          · -- 19: Op.call { value (Operand.func 22), args := #[t85, t87], argT
            refine Keeps.step_call hB0 fun a W hR hold hnew => ?_
            have f85 : a.tmps.getD 85 undef = Value.slice A n c := hnew 16 85 (by kernel_rfl)
            have h87 : ∃ A' c', a.tmps.getD 87 undef = .slice A' 2 c' ∧ 2 ≤ c' ∧ c' ≤ 9223372036854775807 ∧ Sees W A' 2 [97, 98] := hnew 18 87 (by kernel_rfl)
            have g84 : a.tmps.getD 84 undef = .bool true := hnew 15 84 (by kernel_rfl)
            obtain ⟨A9, c9, f87, hc9, hm9, hs9⟩ := h87
            refine ⟨Facts.wanted_by rfl (by kernel_rfl) g84, 22, #[Value.slice A n c, .slice A9 2 c9], by simp [go_sem, Act.eval, f85, f87], ?_⟩
            have h := hlay A A9 n c 2 c9 v [97, 98] W (HV.out W (UP2.out W hR)) SM.out hs9 hc9 hm9 (by decide)
            rw [← QQ.out] at h
            refine h.mono ?_
            rintro e' w7 ⟨R9, rc9, rfl, hs9, hc9, hm9, hb9⟩
            exact ⟨_, rfl, hb9, R9, rc9, rfl, hc9, hm9, hs9⟩
          · -- 20: Op.convert 34 9 t88
            refine Keeps.step_is (Value.string ⟨qq.toArray⟩) fun a W hR hold hnew => ?_
            have h88 : ∃ A' c', a.tmps.getD 88 undef = .slice A' qq.length c' ∧ qq.length ≤ c' ∧ c' ≤ 9223372036854775807 ∧ Sees W A' qq.length qq := hnew 19 88 (by kernel_rfl)
            have g84 : a.tmps.getD 84 undef = .bool true := hnew 15 84 (by kernel_rfl)
            obtain ⟨A9, c9, f88, -, -, hs9⟩ := h88
            have r := (hs9).string (P := Try.prog) c9 (t := 34) (s := 9) (e := 5) Try.underlying34 Try.underlying5 Try.underlying9
            refine ⟨Facts.wanted_by rfl (by kernel_rfl) g84, ?_, fun _ => rfl⟩
            simp [go_sem, Act.eval, f88, r]
          · refine Keeps.step_is (Value.slice B5 (layL v).length c5) fun a W hR hold hnew => ?_
            have f5 : a.tmps.getD 5 undef = Value.slice B5 (layL v).length c5 := hold 5 (by kernel_rfl)
            have g84 : a.tmps.getD 84 undef = .bool true := hnew 15 84 (by kernel_rfl)
            refine ⟨Facts.wanted_by rfl (by kernel_rfl) g84, ?_, fun _ => rfl⟩
            simp [go_sem, Act.eval, f5]
          · refine Keeps.step_is (Value.string ⟨(layL v).toArray⟩) fun a W hR hold hnew => ?_
            have f90 : a.tmps.getD 90 undef = Value.slice B5 (layL v).length c5 := hnew 21 90 (by kernel_rfl)
            have g84 : a.tmps.getD 84 undef = .bool true := hnew 15 84 (by kernel_rfl)
            have r := (HB.out W (UP2.out W hR)).string (P := Try.prog) c5 (t := 34) (s := 9) (e := 5) Try.underlying34 Try.underlying5 Try.underlying9
            refine ⟨Facts.wanted_by rfl (by kernel_rfl) g84, ?_, fun _ => rfl⟩
            simp [go_sem, Act.eval, f90, r]
          · refine Keeps.step_is (Value.string ⟨qq.toArray⟩) fun a W hR hold hnew => ?_
            have f91 : a.tmps.getD 91 undef = Value.string ⟨(layL v).toArray⟩ := hnew 22 91 (by kernel_rfl)
            have g84 : a.tmps.getD 84 undef = .bool true := hnew 15 84 (by kernel_rfl)
            have r := strAdd (layL v)
            rw [← QQ.out] at r
            have hbnd : 2 + (layL v).length ≤ 9223372036854775807 := by have := LN.out; omega
            refine ⟨Facts.wanted_by rfl (by kernel_rfl) g84, ?_, fun _ => rfl⟩
            simp [go_sem, Act.eval, f91, r, hbnd]
          · refine Keeps.step_is (Value.bool true) fun a W hR hold hnew => ?_
            have f89 : a.tmps.getD 89 undef = Value.string ⟨qq.toArray⟩ := hnew 20 89 (by kernel_rfl)
            have f92 : a.tmps.getD 92 undef = Value.string ⟨qq.toArray⟩ := hnew 23 92 (by kernel_rfl)
            have g84 : a.tmps.getD 84 undef = .bool true := hnew 15 84 (by kernel_rfl)
            refine ⟨Facts.wanted_by rfl (by kernel_rfl) g84, ?_, fun _ => rfl⟩
            simp [go_sem, Act.eval, f89, f92]
          · refine Keeps.step_is (Value.bool true) fun a W hR hold hnew => ?_
            have f84 : a.tmps.getD 84 undef = Value.bool true := hnew 15 84 (by kernel_rfl)
            have f93 : a.tmps.getD 93 undef = Value.bool true := hnew 24 93 (by kernel_rfl)
            refine ⟨Facts.wanted_free rfl, ?_, fun _ => rfl⟩
            simp [go_sem, Act.eval, f84, f93]
          · refine Keeps.step_is (Value.bool true) fun a W hR hold hnew => ?_
            have f94 : a.tmps.getD 94 undef = Value.bool true := hnew 25 94 (by kernel_rfl)
            refine ⟨Facts.wanted_free rfl, ?_, fun _ => rfl⟩
            simp [go_sem, Act.eval, f94]
        · intro a w4 hR' hsize hdef hnew hold
          have f4 : a.tmps.getD 4 undef = Value.bool true := hnew 26 4 (by kernel_rfl)
          obtain ⟨tm, df⟩ := a
          simp only [] at hdef hsize f4
          have hlit : tm = #[tm.getD 0 undef, tm.getD 1 undef, tm.getD 2 undef, tm.getD 3 undef, tm.getD 4 undef, tm.getD 5 undef, tm.getD 6 undef, tm.getD 7 undef, tm.getD 8 undef, tm.getD 9 undef, tm.getD 10 undef, tm.getD 11 undef, tm.getD 12 undef, tm.getD 13 undef, tm.getD 14 undef, tm.getD 15 undef, tm.getD 16 undef, tm.getD 17 undef, tm.getD 18 undef, tm.getD 19 undef, tm.getD 20 undef, tm.getD 21 undef, tm.getD 22 undef, tm.getD 23 undef, tm.getD 24 undef, tm.getD 25 undef, tm.getD 26 undef, tm.getD 27 undef, tm.getD 28 undef, tm.getD 29 undef, tm.getD 30 undef, tm.getD 31 undef, tm.getD 32 undef, tm.getD 33 undef, tm.getD 34 undef, tm.getD 35 undef, tm.getD 36 undef, tm.getD 37 undef, tm.getD 38 undef, tm.getD 39 undef, tm.getD 40 undef, tm.getD 41 undef, tm.getD 42 undef, tm.getD 43 undef, tm.getD 44 undef, tm.getD 45 undef, tm.getD 46 undef, tm.getD 47 undef, tm.getD 48 undef, tm.getD 49 undef, tm.getD 50 undef, tm.getD 51 undef, tm.getD 52 undef, tm.getD 53 undef, tm.getD 54 undef, tm.getD 55 undef, tm.getD 56 undef, tm.getD 57 undef, tm.getD 58 undef, tm.getD 59 undef, tm.getD 60 undef, tm.getD 61 undef, tm.getD 62 undef, tm.getD 63 undef, tm.getD 64 undef, tm.getD 65 undef, tm.getD 66 undef, tm.getD 67 undef, tm.getD 68 undef, tm.getD 69 undef, tm.getD 70 undef, tm.getD 71 undef, tm.getD 72 undef, tm.getD 73 undef, tm.getD 74 undef, tm.getD 75 undef, tm.getD 76 undef, tm.getD 77 undef, tm.getD 78 undef, tm.getD 79 undef, tm.getD 80 undef, tm.getD 81 undef, tm.getD 82 undef, tm.getD 83 undef, tm.getD 84 undef, tm.getD 85 undef, tm.getD 86 undef, tm.getD 87 undef, tm.getD 88 undef, tm.getD 89 undef, tm.getD 90 undef, tm.getD 91 undef, tm.getD 92 undef, tm.getD 93 undef, tm.getD 94 undef] := (Facts.array_lit tm hsize).trans rfl
          rw [f4] at hlit
          clear f4 hsize hnew hold
          generalize tm.getD 0 undef = x0 at hlit
          generalize tm.getD 1 undef = x1 at hlit
          generalize tm.getD 2 undef = x2 at hlit
          generalize tm.getD 3 undef = x3 at hlit
          generalize tm.getD 5 undef = x5 at hlit
          generalize tm.getD 6 undef = x6 at hlit
          generalize tm.getD 7 undef = x7 at hlit
          generalize tm.getD 8 undef = x8 at hlit
          generalize tm.getD 9 undef = x9 at hlit
          generalize tm.getD 10 undef = x10 at hlit
          generalize tm.getD 11 undef = x11 at hlit
          generalize tm.getD 12 undef = x12 at hlit
          generalize tm.getD 13 undef = x13 at hlit
          generalize tm.getD 14 undef = x14 at hlit
          generalize tm.getD 15 undef = x15 at hlit
          generalize tm.getD 16 undef = x16 at hlit
          generalize tm.getD 17 undef = x17 at hlit
          generalize tm.getD 18 undef = x18 at hlit
          generalize tm.getD 19 undef = x19 at hlit
          generalize tm.getD 20 undef = x20 at hlit
          generalize tm.getD 21 undef = x21 at hlit
          generalize tm.getD 22 undef = x22 at hlit
          generalize tm.getD 23 undef = x23 at hlit
          generalize tm.getD 24 undef = x24 at hlit
          generalize tm.getD 25 undef = x25 at hlit
          generalize tm.getD 26 undef = x26 at hlit
          generalize tm.getD 27 undef = x27 at hlit
          generalize tm.getD 28 undef = x28 at hlit
          generalize tm.getD 29 undef = x29 at hlit
          generalize tm.getD 30 undef = x30 at hlit
          generalize tm.getD 31 undef = x31 at hlit
          generalize tm.getD 32 undef = x32 at hlit
          generalize tm.getD 33 undef = x33 at hlit
          generalize tm.getD 34 undef = x34 at hlit
          generalize tm.getD 35 undef = x35 at hlit
          generalize tm.getD 36 undef = x36 at hlit
          generalize tm.getD 37 undef = x37 at hlit
          generalize tm.getD 38 undef = x38 at hlit
          generalize tm.getD 39 undef = x39 at hlit
          generalize tm.getD 40 undef = x40 at hlit
          generalize tm.getD 41 undef = x41 at hlit
          generalize tm.getD 42 undef = x42 at hlit
          generalize tm.getD 43 undef = x43 at hlit
          generalize tm.getD 44 undef = x44 at hlit
          generalize tm.getD 45 undef = x45 at hlit
          generalize tm.getD 46 undef = x46 at hlit
          generalize tm.getD 47 undef = x47 at hlit
          generalize tm.getD 48 undef = x48 at hlit
          generalize tm.getD 49 undef = x49 at hlit
          generalize tm.getD 50 undef = x50 at hlit
          generalize tm.getD 51 undef = x51 at hlit
          generalize tm.getD 52 undef = x52 at hlit
          generalize tm.getD 53 undef = x53 at hlit
          generalize tm.getD 54 undef = x54 at hlit
          generalize tm.getD 55 undef = x55 at hlit
          generalize tm.getD 56 undef = x56 at hlit
          generalize tm.getD 57 undef = x57 at hlit
          generalize tm.getD 58 undef = x58 at hlit
          generalize tm.getD 59 undef = x59 at hlit
          generalize tm.getD 60 undef = x60 at hlit
          generalize tm.getD 61 undef = x61 at hlit
          generalize tm.getD 62 undef = x62 at hlit
          generalize tm.getD 63 undef = x63 at hlit
          generalize tm.getD 64 undef = x64 at hlit
          generalize tm.getD 65 undef = x65 at hlit
          generalize tm.getD 66 undef = x66 at hlit
          generalize tm.getD 67 undef = x67 at hlit
          generalize tm.getD 68 undef = x68 at hlit
          generalize tm.getD 69 undef = x69 at hlit
          generalize tm.getD 70 undef = x70 at hlit
          generalize tm.getD 71 undef = x71 at hlit
          generalize tm.getD 72 undef = x72 at hlit
          generalize tm.getD 73 undef = x73 at hlit
          generalize tm.getD 74 undef = x74 at hlit
          generalize tm.getD 75 undef = x75 at hlit
          generalize tm.getD 76 undef = x76 at hlit
          generalize tm.getD 77 undef = x77 at hlit
          generalize tm.getD 78 undef = x78 at hlit
          generalize tm.getD 79 undef = x79 at hlit
          generalize tm.getD 80 undef = x80 at hlit
          generalize tm.getD 81 undef = x81 at hlit
          generalize tm.getD 82 undef = x82 at hlit
          generalize tm.getD 83 undef = x83 at hlit
          generalize tm.getD 84 undef = x84 at hlit
          generalize tm.getD 85 undef = x85 at hlit
          generalize tm.getD 86 undef = x86 at hlit
          generalize tm.getD 87 undef = x87 at hlit
          generalize tm.getD 88 undef = x88 at hlit
          generalize tm.getD 89 undef = x89 at hlit
          generalize tm.getD 90 undef = x90 at hlit
          generalize tm.getD 91 undef = x91 at hlit
          generalize tm.getD 92 undef = x92 at hlit
          generalize tm.getD 93 undef = x93 at hlit
          generalize tm.getD 94 undef = x94 at hlit
          subst hlit
          subst hdef
          try simp only []
          have b4 := UP2.out w4 hR'
          clear UP2 hR'
          go_wp2
          go_ret
          exact ⟨rfl, bel.trans (b4.mono bel.size)⟩
end Go.Proofs.Ytpfmgjfkjjnadaa.Vec
