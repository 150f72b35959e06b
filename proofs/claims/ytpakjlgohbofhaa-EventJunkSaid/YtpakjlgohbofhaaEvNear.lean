/- The laws' near: an event whose numbers are near what may be. -/
import Derived.Test.YtpakjlgohbofhaaBEvent
namespace Go.Proofs.Ytpakjlgohbofhaa.Evt
open Go Go.RowKit Go.Proofs.Ytpakjlgohbofhaa.Words Go.Proofs.Ytpakjlgohbofhaa.Enc Go.Proofs.Ytpakjlgohbofhaa.Q
set_option linter.unusedVariables false

def nearE (e : Ev) (how : Nat) : Ev :=
  if how < 64 then e else
  { writer := e.writer % 64, node := e.node % 64, kind := 1 + e.kind % 6, seq := 1 + e.seq % 4611686018427387904, time := 1 + e.time % 4611686018427387904
    key := if e.key.size = 0 then ⟨#[107]⟩ else e.key, text := e.text, num := e.num }

theorem near_text (e : Ev) (how : Nat) : (nearE e how).text = e.text := by unfold nearE; split <;> rfl
theorem near_num (e : Ev) (how : Nat) : (nearE e how).num = e.num := by unfold nearE; split <;> rfl
theorem near_fit {e : Ev} {how : Nat} (h : e.Fit) : (nearE e how).Fit := by
  unfold nearE
  split
  · exact h
  · obtain ⟨a, b, c, d, f, g, i, j⟩ := h
    refine ⟨?_, ?_, ?_, ?_, ?_, g, ?_, ?_⟩ <;> simp only <;> omega
theorem near_key {e : Ev} {how m : Nat} (h : e.key.size ≤ m) (hm : 1 ≤ m) : (nearE e how).key.size ≤ m := by
  unfold nearE
  split
  · exact h
  · simp only
    split
    · exact hm
    · exact h
/-- Near enough, an event may be. -/
theorem near_right {e : Ev} {how : Nat} (hh : ¬ how < 64) (hk : e.key.size ≤ 64) (ht : e.text.length ≤ 1048576) : Right (nearE e how) := by
  unfold nearE
  rw [if_neg hh]
  refine ⟨?_, ?_, ?_, ?_, ?_, ?_, ?_, ?_, fun _ => ⟨?_, ?_⟩, fun _ => ?_, fun _ => ht⟩ <;> simp only <;> try omega
  split
  · exact ⟨Nat.le_refl _, by decide⟩
  · omega

theorem wrap_mod (x : Int) : IntKind.i64.wrap ((IntKind.u64.wrap x).tmod 64) = x % 64 := by
  have h : IntKind.u64.wrap x = x % 18446744073709551616 := rfl
  rw [h, Int.tmod_eq_emod_of_nonneg (by omega)]
  have e : x % 18446744073709551616 % 64 = x % 64 := by omega
  rw [e]
  exact IntWalk.i64_in _ (by omega)

set_option maxRecDepth 100000 in
theorem near_any (e : Ev) (A : Option Addr) (n c : Nat) (how : Nat) (w : World) (hf : e.Fit) (hl : e.key.size ≤ 9223372036854775807) :
    Calls Try.prog 7 #[e.val A n c, .int .u8 (how : Int)] w fun e' w' => e' = .returned ((nearE e how).val A n c) ∧ Below w.heap.size w w' := by
  show Calls _ _ #[.agg (e.row A n c), _] _ _
  unfold Ev.row
  have hsf := store_float Try.prog e.num
  by_cases hh : how < 64
  · have hh' : ¬ (64 : Int) ≤ (how : Int) := by omega
    have e1 : nearE e how = e := if_pos hh
    rw [e1]
    clear e1 hh
    go_enter Try.func7, Try.ntmps7
    go_wp2
    refine bodyPost_ret (v := e.val A n c) ?_ rfl ⟨rfl, ((Below.refl _ _).alloc (Nat.le_refl _) _).alloc (by simp) _⟩
    simp [results, Try.results7, go_sem, Ev.val]
  · have hh' : (64 : Int) ≤ (how : Int) := by omega
    obtain ⟨hw1, hw2, hs64, ht64, hk256, hq, hn1, hn2⟩ := hf
    have a1 := wrap_mod e.writer
    have a2 := wrap_mod e.node
    by_cases hk : e.key.size = 0
    · have hk' : ((e.key.size : Int) == 0) = true := by simp [hk]
      have e1 : (nearE e how).val A n c = .agg #[.int .i64 (e.writer % 64), .int .u64 (1 + (e.seq : Int) % 4611686018427387904), .int .u64 (1 + (e.time : Int) % 4611686018427387904), .int .u8 (1 + (e.kind : Int) % 6), .string ⟨#[107]⟩, .slice A n c, .float .f64 e.num, .int .i64 (e.node % 64)] := by
        unfold nearE
        rw [if_neg hh, if_pos hk]
        simp [Ev.val]
      rw [e1]
      clear e1 hh hk
      go_enter Try.func7, Try.ntmps7
      go_wp2
      refine bodyPost_ret (v := .agg #[.int .i64 (e.writer % 64), .int .u64 (1 + (e.seq : Int) % 4611686018427387904), .int .u64 (1 + (e.time : Int) % 4611686018427387904), .int .u8 (1 + (e.kind : Int) % 6), .string ⟨#[107]⟩, .slice A n c, .float .f64 e.num, .int .i64 (e.node % 64)]) ?_ rfl ⟨rfl, ((Below.refl _ _).alloc (Nat.le_refl _) _).alloc (by simp) _⟩
      simp [results, Try.results7, go_sem]
    · have hk' : ((e.key.size : Int) == 0) = false := by rw [beq_eq_false_iff_ne]; omega
      have e1 : (nearE e how).val A n c = .agg #[.int .i64 (e.writer % 64), .int .u64 (1 + (e.seq : Int) % 4611686018427387904), .int .u64 (1 + (e.time : Int) % 4611686018427387904), .int .u8 (1 + (e.kind : Int) % 6), .string e.key, .slice A n c, .float .f64 e.num, .int .i64 (e.node % 64)] := by
        unfold nearE
        rw [if_neg hh, if_neg hk]
        simp [Ev.val]
      rw [e1]
      clear e1 hh hk
      go_enter Try.func7, Try.ntmps7
      go_wp2
      refine bodyPost_ret (v := .agg #[.int .i64 (e.writer % 64), .int .u64 (1 + (e.seq : Int) % 4611686018427387904), .int .u64 (1 + (e.time : Int) % 4611686018427387904), .int .u8 (1 + (e.kind : Int) % 6), .string e.key, .slice A n c, .float .f64 e.num, .int .i64 (e.node % 64)]) ?_ rfl ⟨rfl, ((Below.refl _ _).alloc (Nat.le_refl _) _).alloc (by simp) _⟩
      simp [results, Try.results7, go_sem]
end Go.Proofs.Ytpakjlgohbofhaa.Evt
