/- Order: sort.Search, at any closure; the closure of Upto. -/
import Derived.Test.YtlacihgoammjgaaOrdJ
namespace Go.Proofs.Ytlacihgoammjgaa.Ord
open Go Go.RowKit Go.Proofs.Ytlacihgoammjgaa.Words Go.Proofs.Ytlacihgoammjgaa.Enc Go.Proofs.Ytlacihgoammjgaa.Evt Go.Proofs.Ytlacihgoammjgaa.Seg
set_option linter.unusedVariables false
set_option linter.unusedSimpArgs false

/-- At how many of the first n places p doesn't hold. -/
def misses (p : Nat → Bool) (n : Nat) : Nat := (List.range n).countP fun i => !p i
theorem misses_at {p : Nat → Bool} {n k : Nat} (hk : k ≤ n) (h1 : ∀ t, t < k → p t = false) (h2 : ∀ t, k ≤ t → t < n → p t = true) : misses p n = k := by
  unfold misses
  induction n with
  | zero => simp; omega
  | succ n ih =>
    rw [List.range_succ, List.countP_append]
    by_cases hkn : k = n + 1
    · subst hkn
      have hall : (List.range n).countP (fun i => !p i) = n := by
        rw [List.countP_eq_length.2 (fun a ha => by rw [h1 a (by have := List.mem_range.1 ha; omega)]; rfl), List.length_range]
      rw [hall]
      simp [h1 n (by omega)]
    · rw [ih (by omega) (fun t h3 h4 => h2 t h3 (by omega))]
      simp [h2 n (by omega) (by omega)]

set_option maxRecDepth 100000 in
set_option maxHeartbeats 4000000 in
theorem search_any (g : Nat) (cb : Array Value) (n : Nat) (p : Nat → Bool) (w : World) (eg : ∀ args w, (callFunc g args).run Try.prog w = .ok (.enter g args) w) (hn : n ≤ 1000000000)
    (hf : ∀ (W : World) (i : Nat), Below w.heap.size w W → i < n → Calls Try.prog g (#[.int .i64 (i : Int)] ++ cb) W fun e w' => e = .returned (.bool (p i)) ∧ Below W.heap.size W w')
    (hmono : ∀ a b, a ≤ b → b < n → p a = true → p b = true) :
    Calls Try.prog 53 #[.int .i64 (n : Int), .func (.func g) #[] cb] w fun e w' => e = .returned (.int .i64 (misses p n : Int)) ∧ Below w.heap.size w w' := by
  have HF := Lib.hid hf
  have HM := Lib.hid hmono
  have hnot : ∀ (x : Bool) (w : World), (Op.unary .not (.bool x)).run Try.prog w = .ok (.bool (!x)) w := fun _ _ => rfl
  clear hf hmono
  go_enter Try.func53, Try.ntmps53
  go_wp2_with fail
  go_loopw [5, 6] (fun s5 s6 W => ∃ lo hi : Nat, s5 = .int .i64 (lo : Int) ∧ s6 = .int .i64 (hi : Int) ∧ lo ≤ hi ∧ hi ≤ n ∧ Hid (Below w.heap.size w W ∧ (∀ t, t < lo → p t = false) ∧ (∀ t, hi ≤ t → t < n → p t = true))) (fun s5 s6 _ => (intOf s6).toNat - (intOf s5).toNat)
  case atStart => exact ⟨0, n, rfl, rfl, Nat.zero_le _, Nat.le_refl _, Lib.hid ⟨Below.refl _ _, fun t ht => absurd ht (Nat.not_lt_zero _), fun t h1 h2 => by omega⟩⟩
  case round =>
    obtain ⟨lo, hi, rfl, rfl, hlh, hin, HR⟩ := hrel
    by_cases hlt : lo < hi
    · obtain ⟨mid, hmid⟩ : ∃ mid, mid = (lo + hi) / 2 := ⟨_, rfl⟩
      have zm : ((lo : Int) + (hi : Int)) / 2 = (mid : Int) := by omega
      have hc := HF.out wr mid HR.out.1 (by omega)
      have hml : lo ≤ mid := by omega
      have hmh : mid < hi := by omega
      clear hmid
      cases hp : p mid with
      | false =>
        rw [hp] at hc
        have HP := Lib.hid hp
        clear hp
        go_wp2_with (go_at_fn g; refine hc.mono ?_; rintro e w1 ⟨rfl, hb⟩)
        go_roundw
        case rel => exact ⟨mid + 1, hi, rfl, rfl, by omega, hin, Lib.hid ⟨HR.out.1.trans (hb.mono HR.out.1.size), fun t ht => (by
          cases h : p t with
          | false => rfl
          | true =>
            have := HM.out t mid (by omega) (by omega) h
            rw [HP.out] at this
            cases this), HR.out.2.2⟩⟩
        case measure => simp [intOf]; omega
      | true =>
        rw [hp] at hc
        have HP := Lib.hid hp
        clear hp
        go_wp2_with (go_at_fn g; refine hc.mono ?_; rintro e w1 ⟨rfl, hb⟩)
        go_roundw
        case rel => exact ⟨lo, mid, rfl, rfl, by omega, by omega, Lib.hid ⟨HR.out.1.trans (hb.mono HR.out.1.size), HR.out.2.1, fun t h1 h2 => HM.out mid t h1 h2 HP.out⟩⟩
        case measure => simp [intOf]; omega
    · have e : lo = hi := by omega
      subst e
      have hms := misses_at hin HR.out.2.1 HR.out.2.2
      have HMS := Lib.hid hms
      clear hms
      go_wp2
      go_ret
      exact ⟨by rw [HMS.out]; rfl, HR.out.1⟩

end Go.Proofs.Ytlacihgoammjgaa.Ord
