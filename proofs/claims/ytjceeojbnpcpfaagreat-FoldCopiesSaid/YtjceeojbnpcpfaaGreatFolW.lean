/- The document's fold: put and drop, as they are called in Apply. -/
import Derived.Test.YtjceeojbnpcpfaaGreatFolU0
namespace Go.Proofs.YtjceeojbnpcpfaaGreat.Fol
open Go Go.RowKit Go.Proofs.YtjceeojbnpcpfaaGreat.Words Go.Proofs.YtjceeojbnpcpfaaGreat.Enc Go.Proofs.YtjceeojbnpcpfaaGreat.Q Go.Proofs.YtjceeojbnpcpfaaGreat.Evt Go.Proofs.YtjceeojbnpcpfaaGreat.Facts
set_option linter.unusedVariables false
set_option linter.unusedSimpArgs false

theorem put_lit (La : Option Addr) (lc : Nat) (L : List (Key × RC)) (Ja : Option Addr) (Jc : Nat) (Ra : Option Addr) (Rc : Nat) (Ha : Option Addr) (Hc tm wr mk : Nat) (k : Key) (m : RC) (cs : Array Value) (hcs : (rcCells (k, m)).toArray = cs) (n : Nat) (hnl : n = L.length) (S : List Nat) (w : World)
    (hs : SeesV w S La (rowsR L)) (hn : L.length ≤ 1000000) (hc : L.length ≤ lc) (hc2 : lc ≤ 9223372036854775807) (hr : Rise L) (hS : ∀ x ∈ S, x < w.heap.size) :
    Calls Tryz.prog 24 #[.agg #[.slice La n lc, .slice Ja 64 Jc, .slice Ra 64 Rc, .slice Ha 64 Hc, .int .u64 (tm : Int), .int .i64 (wr : Int), .int .u64 (mk : Int)], .agg cs] w fun e w' => ∃ A' c' N, e = .returned (.agg #[.slice A' N c', .slice Ja 64 Jc, .slice Ra 64 Rc, .slice Ha 64 Hc, .int .u64 (tm : Int), .int .i64 (wr : Int), .int .u64 (mk : Int)]) ∧ N = (ins k m L).length ∧ SeesV w' S A' (rowsR (ins k m L)) ∧ N ≤ c' ∧ c' ≤ 9223372036854775807 ∧ Below w.heap.size w w' := by
  subst hcs; subst hnl
  refine (put_any La lc L ⟨Ja, Jc, Ra, Rc, Ha, Hc, tm, wr, mk⟩ k m S w hs hn hc hc2 hr hS).mono ?_
  rintro e w1 ⟨A', c', rfl, h1, h2, h3, h4⟩
  exact ⟨A', c', _, rfl, rfl, h1, h2, h3, h4⟩
theorem drop_lit (La : Option Addr) (lc : Nat) (L : List (Key × RC)) (Ja : Option Addr) (Jc : Nat) (Ra : Option Addr) (Rc : Nat) (Ha : Option Addr) (Hc tm wr mk : Nat) (k : Key) (kv : Value) (hkv : keyV k = kv) (n : Nat) (hnl : n = L.length) (S : List Nat) (w : World)
    (hs : SeesV w S La (rowsR L)) (hn : L.length ≤ 1000000) (hc : L.length ≤ lc) (hc2 : lc ≤ 9223372036854775807) (hr : Rise L) (hS : ∀ x ∈ S, x < w.heap.size) :
    Calls Tryz.prog 27 #[.agg #[.slice La n lc, .slice Ja 64 Jc, .slice Ra 64 Rc, .slice Ha 64 Hc, .int .u64 (tm : Int), .int .i64 (wr : Int), .int .u64 (mk : Int)], kv] w fun e w' => ∃ A' c' N, e = .returned (.agg #[.slice A' N c', .slice Ja 64 Jc, .slice Ra 64 Rc, .slice Ha 64 Hc, .int .u64 (tm : Int), .int .i64 (wr : Int), .int .u64 (mk : Int)]) ∧ N = (del k L).length ∧ SeesV w' S A' (rowsR (del k L)) ∧ N ≤ c' ∧ c' ≤ 9223372036854775807 ∧ Below w.heap.size w w' := by
  subst hkv; subst hnl
  refine (dropK_any La lc L ⟨Ja, Jc, Ra, Rc, Ha, Hc, tm, wr, mk⟩ k S w hs hn hc hc2 hr hS).mono ?_
  rintro e w1 ⟨A', c', rfl, h1, h2, h3, h4⟩
  exact ⟨A', c', _, rfl, rfl, h1, h2, h3, h4⟩
theorem find_lit (La : Option Addr) (lc : Nat) (L : List (Key × RC)) (Ja : Option Addr) (Jc : Nat) (Ra : Option Addr) (Rc : Nat) (Ha : Option Addr) (Hc tm wr mk : Nat) (k : Key) (kv : Value) (hkv : keyV k = kv) (n : Nat) (hnl : n = L.length) (I : Nat) (hI : I = idx k L) (T : Bool) (hT : T = there k L) (S : List Nat) (w : World)
    (hs : SeesV w S La (rowsR L)) (hn : L.length ≤ 1000000) :
    Calls Tryz.prog 26 #[.agg #[.slice La n lc, .slice Ja 64 Jc, .slice Ra 64 Rc, .slice Ha 64 Hc, .int .u64 (tm : Int), .int .i64 (wr : Int), .int .u64 (mk : Int)], kv] w fun e w' => e = .returned (.tuple #[.int .i64 (I : Int), .bool T]) ∧ Below w.heap.size w w' := by
  subst hkv; subst hnl; subst hI; subst hT
  exact find_any La lc L k _ _ _ _ _ _ S w hs hn (by simp [Value.oneCell'])

/-- A quantity as it is kept: some NaN for each. -/
def PPl (q : Nat) : Facts.Pred := ⟨fun v _ => ∃ r, v = .float .f64 r ∧ qb r = q, fun _ _ _ h _ => h⟩
def PCel (key : ByteArray) (q : Nat) : Facts.Pred := ⟨fun v _ => ∃ r, v = .agg #[.string key, .int .u8 2, .slice none 0 0, .float .f64 r] ∧ qb r = q, fun _ _ _ h _ => h⟩
theorem sum_none {F : Fo} {L : List (Key × RC)} {k : Key} (hc : mapV RC.cel L = F.L) (hr : Rise L) (ht : there k L = false) (x : Nat) : sumOf F k x = qb x := by
  have h : lk k F.L = none := by rw [← hc, mapV_lk, lk_idx hr, ht]; rfl
  unfold sumOf; rw [h]
theorem sum_other {F : Fo} {L : List (Key × RC)} {k : Key} (hc : mapV RC.cel L = F.L) (hr : Rise L) (ht : there k L = true) {p : Key × RC} (hp : L[idx k L]? = some p) (hk : p.2.kind ≠ 2) (x : Nat) : sumOf F k x = qb x := by
  have h : lk k F.L = some p.2.cel := by rw [← hc, mapV_lk, lk_idx hr, ht, if_pos rfl, hp]; rfl
  unfold sumOf; rw [h]; exact if_neg hk
theorem sum_two {F : Fo} {L : List (Key × RC)} {k : Key} (hc : mapV RC.cel L = F.L) (hr : Rise L) (ht : there k L = true) {p : Key × RC} (hp : L[idx k L]? = some p) (hk : p.2.kind = 2) (x : Nat) : sumOf F k x = ob (FloatKind.f64.format.add p.2.num x) := by
  have h : lk k F.L = some p.2.cel := by rw [← hc, mapV_lk, lk_idx hr, ht, if_pos rfl, hp]; rfl
  unfold sumOf; rw [h]
  refine (if_pos hk).trans ?_
  exact ob_add (qb_qb _) (qb_qb _)
theorem there_get {L : List (Key × RC)} {k : Key} (ht : there k L = true) : ∃ p, L[idx k L]? = some p := by
  unfold there at ht
  cases hp : L[idx k L]? with
  | none => rw [hp] at ht; cases ht
  | some p => exact ⟨p, rfl⟩
end Go.Proofs.YtjceeojbnpcpfaaGreat.Fol
