/- The document's fold: Find, put, drop. -/
import Derived.Test.YtjceeojbnpcpfaaGreatFolR
namespace Go.Proofs.YtjceeojbnpcpfaaGreat.Fol
open Go Go.RowKit Go.Proofs.YtjceeojbnpcpfaaGreat.Words Go.Proofs.YtjceeojbnpcpfaaGreat.Enc Go.Proofs.YtjceeojbnpcpfaaGreat.Q Go.Proofs.YtjceeojbnpcpfaaGreat.Evt
set_option linter.unusedVariables false
set_option linter.unusedSimpArgs false

/-- What a key has in the document's list. -/
structure RC where
  kind : Nat
  A : Option Addr
  c : Nat
  text : List UInt8
  num : Nat
def RC.cel (m : RC) : Cel := ⟨m.kind, m.text, qb m.num⟩
def keyV (k : Key) : Value := .string ⟨k.toArray⟩
def rcCells (p : Key × RC) : List Value := [keyV p.1, .int .u8 (p.2.kind : Int), .slice p.2.A p.2.text.length p.2.c, .float .f64 p.2.num]
def rowsR (L : List (Key × RC)) : List Value := L.flatMap rcCells
theorem rowsR_len (L : List (Key × RC)) : (rowsR L).length = L.length * 4 := by
  induction L with
  | nil => rfl
  | cons p r ih => simp only [rowsR, List.flatMap_cons, List.length_append, List.length_cons] at ih ⊢; rw [ih]; simp [rcCells]; omega
theorem rowsR_append (L M : List (Key × RC)) : rowsR (L ++ M) = rowsR L ++ rowsR M := by simp [rowsR]
theorem rowsR_one (L : List (Key × RC)) : ∀ u ∈ rowsR L, u.oneCell' = true := by
  intro u hu
  obtain ⟨p, _, hp⟩ := List.mem_flatMap.1 hu
  simp only [rcCells, List.mem_cons, List.not_mem_nil, or_false] at hp
  rcases hp with rfl | rfl | rfl | rfl <;> rfl
theorem rowsR_take (L : List (Key × RC)) (k : Nat) : rowsR (L.take k) = (rowsR L).take (k * 4) := by
  induction k generalizing L with
  | zero => simp [rowsR]
  | succ k ih =>
    cases L with
    | nil => simp [rowsR]
    | cons p r =>
      have h := ih r
      simp only [rowsR, List.take_succ_cons, List.flatMap_cons] at h ⊢
      rw [h, show (k + 1) * 4 = (rcCells p).length + k * 4 by simp [rcCells]; omega, List.take_length_add_append]
theorem rowsR_drop (L : List (Key × RC)) (k : Nat) : rowsR (L.drop k) = (rowsR L).drop (k * 4) := by
  induction k generalizing L with
  | zero => simp [rowsR]
  | succ k ih =>
    cases L with
    | nil => simp [rowsR]
    | cons p r =>
      have h := ih r
      simp only [rowsR, List.drop_succ_cons, List.flatMap_cons] at h ⊢
      rw [h, show (k + 1) * 4 = (rcCells p).length + k * 4 by simp [rcCells]; omega, List.drop_length_add_append]
theorem rowsR_get {L : List (Key × RC)} {j : Nat} {p : Key × RC} (h : L[j]? = some p) {k : Nat} {v : Value} (hk : k < 4) (hv : (rcCells p)[k]? = some v) : (rowsR L)[j * 4 + k]? = some v := by
  induction L generalizing j with
  | nil => cases h
  | cons q r ih =>
    simp only [rowsR, List.flatMap_cons]
    cases j with
    | zero =>
      simp at h
      subst h
      rw [List.getElem?_append_left (by simp [rcCells]; omega)]
      simpa using hv
    | succ j =>
      rw [List.getElem?_append_right (by simp [rcCells]; omega), show (j + 1) * 4 + k - (rcCells q).length = j * 4 + k by simp [rcCells]; omega]
      exact ih (by simpa using h)
theorem key_less (a k : Key) : Op.bytesLess (⟨a.toArray⟩ : ByteArray).toList (⟨k.toArray⟩ : ByteArray).toList = decide (a < k) := by rw [bytes_toList, bytes_toList, bytesLess_eq]
theorem key_beq (a k : Key) : ((⟨a.toArray⟩ : ByteArray).toList == (⟨k.toArray⟩ : ByteArray).toList) = decide (a = k) := by rw [bytes_toList, bytes_toList, str_beq]

theorem below_drewN {B : Nat} {a w : World} (h : Below B a w) (q : Nat) : Below B a (w.drewN q) := ⟨h.os, h.tape, h.output, h.size, h.block⟩
set_option maxRecDepth 100000 in
set_option maxHeartbeats 2000000 in
theorem find_any (La : Option Addr) (lc : Nat) (L : List (Key × RC)) (k : Key) (v1 v2 v3 v4 v5 v6 : Value) (S : List Nat) (w : World) (hs : SeesV w S La (rowsR L)) (hn : L.length ≤ 1000000) (h1 : ∀ v ∈ [v1, v2, v3, v4, v5, v6], v.oneCell' = true) :
    Calls Tryz.prog 26 #[.agg #[.slice La L.length lc, v1, v2, v3, v4, v5, v6], keyV k] w fun e w' => e = .returned (.tuple #[.int .i64 (idx k L : Int), .bool (there k L)]) ∧ Below w.heap.size w w' := by
  obtain ⟨n, hnl⟩ : ∃ n, n = L.length := ⟨_, rfl⟩
  rw [← hnl] at hn ⊢
  have hb : Below w.heap.size w (w.alloc (.cells #[.slice La n lc, v1, v2, v3, v4, v5, v6] 33)) := (Below.refl _ _).alloc (Nat.le_refl _) _
  have HS := Lib.hid (hs.below hb)
  have HN := Lib.hid hnl
  have HB := Lib.hid hb
  have hcell : (w.alloc (.cells #[.slice La n lc, v1, v2, v3, v4, v5, v6] 33)).cell? ⟨w.heap.size, 0, none⟩ = some (.slice La n lc) := by
    rw [cell_of_row _ _ _ _ _ _ (heap_alloc_new w _)]; rfl
  obtain ⟨u, hu⟩ : ∃ u, u = w.alloc (.cells #[.slice La n lc, v1, v2, v3, v4, v5, v6] 33) := ⟨_, rfl⟩
  rw [← hu] at HS HB hcell
  have HU := Lib.hid hu
  obtain ⟨kb, hkb⟩ : ∃ kb : ByteArray, kb = ⟨k.toArray⟩ := ⟨_, rfl⟩
  unfold keyV
  rw [← hkb]
  have HK := Lib.hid hkb
  obtain ⟨I, hI⟩ : ∃ I, I = idx k L := ⟨_, rfl⟩
  obtain ⟨T, hT⟩ : ∃ T, T = there k L := ⟨_, rfl⟩
  rw [← hI, ← hT]
  have HI := Lib.hid hI
  have HT := Lib.hid hT
  clear hs hb hnl hu hkb hI hT h1
  go_enter Tryz.func26, Tryz.ntmps26
  go_wp2_with fail
  rw [← HU.out]
  go_loopw [6] (fun y wr => ∃ j : Nat, y = .int .i64 (j : Int) ∧ j ≤ n ∧ Hid (∀ i p, i < j → L[i]? = some p → p.1 < k) ∧ u = wr) (fun y _ => n - (intOf y).toNat)
  case atStart => exact ⟨0, rfl, by omega, Lib.hid fun i p hi => by omega, rfl⟩
  case round =>
    obtain ⟨j, rfl, hj, HJ, rfl⟩ := hrel
    by_cases hlt : j < n
    · obtain ⟨p, hp⟩ : ∃ p, L[j]? = some p := ⟨_, List.getElem?_eq_getElem (by rw [← HN.out]; exact hlt)⟩
      obtain ⟨b, o, rfl, hc⟩ := HS.out.get (rowsR_get hp (k := 0) (v := keyV p.1) (by omega) rfl)
      unfold keyV at hc
      obtain ⟨pb, hpb⟩ : ∃ pb : ByteArray, pb = ⟨p.1.toArray⟩ := ⟨_, rfl⟩
      rw [← hpb] at hc
      rw [Nat.add_zero] at hc
      have hd : decide ((j : Int) < (n : Int)) = true := decide_eq_true (by omega)
      have hless : Op.bytesLess pb.toList kb.toList = decide (p.1 < k) := by rw [hpb, HK.out]; exact key_less _ _
      have hbeq : (pb.toList == kb.toList) = decide (p.1 = k) := by rw [hpb, HK.out]; exact key_beq _ _
      have HP := Lib.hid hp
      by_cases hk : p.1 < k
      · rw [decide_eq_true hk] at hless
        have HJ2 := Lib.hid (fun (i : Nat) (q : Key × RC) (hi : i < j + 1) (hq : L[i]? = some q) => (by
          rcases Nat.lt_or_ge i j with h | h
          · exact HJ.out i q h hq
          · obtain rfl : i = j := by omega
            rw [hp] at hq
            injection hq with hq
            subst hq
            exact hk : q.1 < k))
        clear hpb hp hbeq hk
        go_wp2
        go_roundw
        case rel => exact ⟨j + 1, by simp, by omega, HJ2, by trivial⟩
        case measure => simp [intOf]; omega
      · rw [decide_eq_false hk] at hless
        have hij : j = I := by
          rw [HI.out]
          exact idx_is (by rw [← HN.out]; omega) HJ.out fun q hq => by rw [hp] at hq; injection hq with hq; subst hq; exact hk
        have hth : decide (p.1 = k) = T := by
          rw [HT.out]
          unfold there
          rw [← HI.out, ← hij, hp]
        rw [hth] at hbeq
        have HIJ := Lib.hid hij
        clear hpb hp hk hij hth
        go_wp2
        go_region
        go_wp2
        go_ret2
        exact ⟨by rw [← HIJ.out]; rfl, below_drewN HB.out _⟩
    · obtain rfl : j = n := by omega
      have hd : decide ((j : Int) < (j : Int)) = false := decide_eq_false (by omega)
      have hij : j = I := by
        rw [HI.out]
        exact idx_is (by rw [← HN.out]; exact Nat.le_refl _) HJ.out fun q hq => by
          have := (List.getElem?_eq_some_iff.1 hq).1
          rw [← HN.out] at this; omega
      have hth : T = false := by
        rw [HT.out]
        unfold there
        rw [← HI.out, ← hij, List.getElem?_eq_none (by rw [← HN.out]; exact Nat.le_refl _)]
      subst hth
      have HIJ := Lib.hid hij
      clear hij
      go_wp2
      go_quiet (fail)
      go_wp2
      go_ret2
      exact ⟨by rw [← HIJ.out]; rfl, below_drewN HB.out _⟩
end Go.Proofs.YtjceeojbnpcpfaaGreat.Fol
