/- What is read of bytes, as plain data: what is read has just these bytes; an event's bytes are read as it is kept. -/
import Derived.Test.YtocokfgkbdfodaaEvTake
namespace Go.Proofs.Ytocokfgkbdfodaa.Evt
open Go Go.RowKit Go.Proofs.Ytocokfgkbdfodaa.Words Go.Proofs.Ytocokfgkbdfodaa.Enc Go.Proofs.Ytocokfgkbdfodaa.Q Go.Proofs.Ytocokfgkbdfodaa.Tape
set_option linter.unusedVariables false

theorem numG_enc {most N : Nat} {l rest : List UInt8} (h : numG most l = .ok N rest) : l = enc N ++ rest ∧ N ≤ most := by
  obtain ⟨h1, h2, h3, rfl⟩ := numG_ok h
  have h4 := @Take.tk_one l (tk 0 0 l).1 (tk 0 0 l).2.1 (Prod.ext rfl (Prod.ext rfl h1))
  refine ⟨?_, by omega⟩
  rw [← h2, ← h4.1, List.take_append_drop]
theorem textG_enc {most : Nat} {T l rest : List UInt8} (h : textG most l = .ok T rest) : l = enc T.length ++ (T ++ rest) ∧ T.length ≤ most := by
  obtain ⟨h1, h2, rfl⟩ := textG_ok h
  unfold Take.texted at h1 h2 ⊢
  split at h1
  · rename_i h0; exact absurd h1 h0
  · rename_i h0
    rw [if_neg h0] at h2 ⊢
    split at h1
    · cases h1
    · rename_i h5
      rw [if_neg h5] at h2 ⊢
      split at h1
      · cases h1
      · rename_i h6
        rw [if_neg h6] at h2 ⊢
        simp only at h2 ⊢
        have h4 := @Take.tk_one l (tk 0 0 l).1 (tk 0 0 l).2.1 (Prod.ext rfl (Prod.ext rfl (show (tk 0 0 l).2.2 = 0 by omega)))
        have hT : T.length = (tk 0 0 l).1 := by
          rw [← h2, List.length_take, List.length_drop]; omega
        refine ⟨?_, by omega⟩
        rw [hT, ← h4.1, ← h2, ← List.drop_drop, List.take_append_drop, List.take_append_drop]
theorem byteG_enc {b : UInt8} {l rest : List UInt8} (h : byteG l = .ok b rest) : l = b :: rest := by
  cases l with
  | nil => cases h
  | cons x r => injection h with h1 h2; rw [h1, h2]

theorem b8_of (b : UInt8) (n : Nat) (h : n % 256 = b.toNat) : b8 (n % 256) = b := by
  apply UInt8.toNat_inj.1
  rw [b8_toNat, h]
  exact Nat.mod_eq_of_lt b.toNat_lt
theorem fix_unfix (q : List UInt8) (h : q.length = 8) : fix (unfix q) = q := by
  match q, h with
  | [b0, b1, b2, b3, b4, b5, b6, b7], _ =>
    have h0 := b0.toNat_lt; have h1 := b1.toNat_lt; have h2 := b2.toNat_lt; have h3 := b3.toNat_lt
    have h4 := b4.toNat_lt; have h5 := b5.toNat_lt; have h6 := b6.toNat_lt; have h7 := b7.toNat_lt
    have hu : unfix [b0, b1, b2, b3, b4, b5, b6, b7] = ((((((((0 * 256 + b0.toNat) * 256 + b1.toNat) * 256 + b2.toNat) * 256 + b3.toNat) * 256 + b4.toNat) * 256 + b5.toNat) * 256 + b6.toNat) * 256 + b7.toNat) := rfl
    generalize unfix [b0, b1, b2, b3, b4, b5, b6, b7] = n at hu
    unfold fix
    have hr : List.range 8 = [0, 1, 2, 3, 4, 5, 6, 7] := rfl
    rw [hr]
    simp only [List.map_cons, List.map_nil]
    rw [b8_of b0 _ (by simp; omega), b8_of b1 _ (by simp; omega), b8_of b2 _ (by simp; omega), b8_of b3 _ (by simp; omega), b8_of b4 _ (by simp; omega), b8_of b5 _ (by simp; omega), b8_of b6 _ (by simp; omega), b8_of b7 _ (by simp; omega)]
theorem fixedG_enc {n : Nat} {l rest : List UInt8} (h : fixedG l = .ok n rest) : l = fix n ++ rest ∧ n < 18446744073709551616 := by
  unfold fixedG at h
  split at h
  · cases h
  · rename_i h0
    injection h with h1 h2
    have hq : (l.take 8).length = 8 := by rw [List.length_take]; omega
    rw [← h1, fix_unfix _ hq, ← h2, List.take_append_drop]
    exact ⟨rfl, Nat.lt_of_lt_of_le (unfix_lt _ 8 hq) (by decide)⟩

/-- What is known of what has been read. -/
structure Took (ev : Ev) (b : Bool) (l rest : List UInt8) : Prop where
  bytes : b = true → 1 ≤ ev.kind → l = evL ev ++ rest
  plain : plainE ev = ev
  fit : ev.Fit
  text : ev.text.length ≤ 1048576
  key : ev.key.size ≤ 64

theorem key_of (k : List UInt8) : (⟨k.toArray⟩ : ByteArray).size = k.length ∧ (⟨k.toArray⟩ : ByteArray).data.toList = k := ⟨by simp [ByteArray.size], by simp⟩
theorem fit_of {wr sq tm : Nat} {kd : UInt8} {key : ByteArray} {text : List UInt8} {num : Nat} {node : Nat} (h1 : wr ≤ 63) (h2 : sq ≤ 18446744073709551615) (h3 : tm ≤ 18446744073709551615) (h4 : num < 18446744073709551616) (h5 : node ≤ 63) :
    (⟨wr, sq, tm, kd.toNat, key, text, num, node⟩ : Ev).Fit := by
  have := kd.toNat_lt
  exact ⟨by simp only; omega, by simp only; omega, by simp only; omega, by simp only; omega, by simp only; omega, h4, by simp only; omega, by simp only; omega⟩

theorem dataG_took {wr sq tm : Nat} {kd : UInt8} {l rest : List UInt8} {ev : Ev} {b : Bool} (h1 : wr ≤ 63) (h2 : sq ≤ 18446744073709551615) (h3 : tm ≤ 18446744073709551615) (h : dataG wr sq tm kd l = .ok (ev, b) rest) :
    Took ev b (enc wr ++ (enc sq ++ (enc tm ++ (kd :: l)))) rest := by
  have hb8 : b8 kd.toNat = kd := by simp [b8]
  unfold dataG at h
  split at h
  · rename_i hk
    cases g1 : textG 64 l with
    | bad E => rw [g1] at h; cases h
    | ok k l5 =>
    rw [g1] at h
    cases g2 : textG 1048576 l5 with
    | bad E => simp only [Got.bind, g2] at h; cases h
    | ok x l6 =>
    simp only [Got.bind, g2] at h
    injection h with h4 h5
    injection h4 with h4 h6
    subst h4; subst h5
    obtain ⟨e1, e2⟩ := textG_enc g1
    obtain ⟨e3, e4⟩ := textG_enc g2
    refine ⟨fun _ _ => ?_, ?_, fit_of (node := 0) h1 h2 h3 (by omega) (by omega), e4, ?_⟩
    · rw [evL_set hk, Int.toNat_natCast, (key_of k).1, (key_of k).2, hb8, e1, e3]
      simp only [List.append_assoc, List.cons_append, List.nil_append]
    · simp [plainE, hk]
    · show (⟨k.toArray⟩ : ByteArray).size ≤ 64
      rw [(key_of k).1]; exact e2
  · rename_i hk1
    split at h
    · rename_i hk
      cases g1 : textG 64 l with
      | bad E => rw [g1] at h; cases h
      | ok k l5 =>
      rw [g1] at h
      cases g2 : fixedG l5 with
      | bad E => simp only [Got.bind, g2] at h; cases h
      | ok n l6 =>
      simp only [Got.bind, g2] at h
      injection h with h4 h5
      injection h4 with h4 h6
      subst h4; subst h5
      obtain ⟨e1, e2⟩ := textG_enc g1
      obtain ⟨e3, e4⟩ := fixedG_enc g2
      have hq : qb (if qb n = n then n else 0) = (if qb n = n then n else 0) := by
        split
        · assumption
        · exact qb_zero
      refine ⟨fun hb _ => ?_, ?_, fit_of (node := 0) h1 h2 h3 (by split <;> omega) (by omega), by simp, ?_⟩
      · have hqn : qb n = n := by rw [← h6] at hb; simpa using hb
        rw [evL_num hk, Int.toNat_natCast, (key_of k).1, (key_of k).2, hb8, e1, if_pos hqn, hqn, e3]
        simp only [List.append_assoc, List.cons_append, List.nil_append]
      · have ha : 1 ≤ kd.toNat ∧ kd.toNat ≤ 4 := by omega
        have hc : ¬ kd.toNat = 5 := by omega
        simp [plainE, hk, ha, hk1, hc, hq]
      · show (⟨k.toArray⟩ : ByteArray).size ≤ 64
        rw [(key_of k).1]; exact e2
    · rename_i hk2
      split at h
      · rename_i hk
        cases g1 : textG 64 l with
        | bad E => rw [g1] at h; cases h
        | ok k l5 =>
        rw [g1] at h
        simp only [Got.bind] at h
        injection h with h4 h5
        injection h4 with h4 h6
        subst h4; subst h5
        obtain ⟨e1, e2⟩ := textG_enc g1
        refine ⟨fun hb _ => ?_, ?_, fit_of (node := 0) h1 h2 h3 (by omega) (by omega), by simp, ?_⟩
        · rw [evL_drop hk, Int.toNat_natCast, (key_of k).1, (key_of k).2, hb8, e1]
          simp only [List.append_assoc, List.cons_append, List.nil_append]
        · simp [plainE, hk]
        · show (⟨k.toArray⟩ : ByteArray).size ≤ 64
          rw [(key_of k).1]; exact e2
      · rename_i hk4
        split at h
        · rename_i hk
          cases g1 : numG 63 l with
          | bad E => rw [g1] at h; cases h
          | ok n l5 =>
          rw [g1] at h
          simp only [Got.bind] at h
          injection h with h4 h5
          injection h4 with h4 h6
          subst h4; subst h5
          obtain ⟨e1, e2⟩ := numG_enc g1
          refine ⟨fun hb _ => ?_, ?_, fit_of h1 h2 h3 (by omega) e2, by simp, by simp [ByteArray.size]⟩
          · rw [evL_join hk, Int.toNat_natCast, Int.toNat_natCast, hb8, e1]
            simp only [List.append_assoc, List.cons_append, List.nil_append]
          · simp [plainE, hk]
        · rename_i hk5
          injection h with h4 h5
          injection h4 with h4 h6
          subst h4; subst h5
          refine ⟨fun hb hk0 => ?_, ?_, fit_of (node := 0) h1 h2 h3 (by omega) (by omega), by simp, by simp [ByteArray.size]⟩
          · have hk0' : 1 ≤ kd.toNat := hk0
            simp only [evL, dataL]
            rw [if_neg (show ¬ kd.toNat ≤ 4 by omega), if_neg hk1, if_neg hk2, if_neg hk5, Int.toNat_natCast, hb8]
            simp only [List.append_assoc, List.cons_append, List.nil_append]
          · have ha : ¬ (1 ≤ kd.toNat ∧ kd.toNat ≤ 4) := by omega
            simp [plainE, hk1, hk2, hk5, ha]

theorem takeG_took {l rest : List UInt8} {ev : Ev} {b : Bool} (h : takeG l = .ok (ev, b) rest) : Took ev b l rest := by
  unfold takeG at h
  cases g1 : numG 63 l with
  | bad E => rw [g1] at h; cases h
  | ok wr l1 =>
  rw [g1] at h
  cases g2 : numG 18446744073709551615 l1 with
  | bad E => simp only [Got.bind, g2] at h; cases h
  | ok sq l2 =>
  cases g3 : numG 18446744073709551615 l2 with
  | bad E => simp only [Got.bind, g2, g3] at h; cases h
  | ok tm l3 =>
  cases g4 : byteG l3 with
  | bad E => simp only [Got.bind, g2, g3, g4] at h; cases h
  | ok kd l4 =>
  simp only [Got.bind, g2, g3, g4] at h
  have := dataG_took (numG_enc g1).2 (numG_enc g2).2 (numG_enc g3).2 h
  rw [(numG_enc g1).1, (numG_enc g2).1, (numG_enc g3).1, byteG_enc g4]
  exact this

/-! And back. -/
theorem numG_of {most N : Nat} (hN : N ≤ most) (h64 : N < 18446744073709551616) (r : List UInt8) : numG most (enc N ++ r) = .ok N r := by
  unfold numG
  rw [tk_lay N h64 r]
  simp only
  rw [if_neg (by simp), if_neg (by omega), List.drop_left]
theorem textG_of {most : Nat} {T : List UInt8} (hT : T.length ≤ most) (h64 : T.length < 18446744073709551616) (r : List UInt8) : textG most (enc T.length ++ (T ++ r)) = .ok T r := by
  have ht : Take.texted (enc T.length ++ (T ++ r)) most (tk 0 0 (enc T.length ++ (T ++ r))) = (T, (enc T.length).length + T.length, 0) := by
    rw [tk_lay T.length h64 (T ++ r)]
    unfold Take.texted
    simp only
    rw [if_neg (by simp), if_neg (by omega), if_neg (by simp only [List.length_append]; omega), List.drop_left, List.take_left]
  unfold textG
  rw [ht]
  simp only
  rw [if_neg (by simp), ← List.drop_drop, List.drop_left, List.drop_left]
theorem unfix_fix {n : Nat} (h : n < 18446744073709551616) : unfix (fix n) = n := by
  have hr : List.range 8 = [0, 1, 2, 3, 4, 5, 6, 7] := rfl
  unfold fix unfix
  rw [hr]
  simp only [List.map_cons, List.map_nil, List.foldl_cons, List.foldl_nil, b8_toNat]
  simp
  omega
theorem fixedG_of {n : Nat} (h : n < 18446744073709551616) (r : List UInt8) : fixedG (fix n ++ r) = .ok n r := by
  have hl := fix_length n
  unfold fixedG
  rw [if_neg (by rw [List.length_append]; omega), List.take_append_of_le_length (by omega), List.take_of_length_le (by omega), unfix_fix h, List.drop_append_of_le_length (by omega), List.drop_of_length_le (by omega), List.nil_append]
theorem toArray_data (k : ByteArray) : (⟨k.data.toList.toArray⟩ : ByteArray) = k := by cases k; simp
theorem takeG_evL {e : Ev} (hr : Right e) (hq : e.num < 18446744073709551616) (r : List UInt8) : takeG (evL e ++ r) = .ok (plainE e, true) r := by
  obtain ⟨wr, sq, tm, kd, key, text, num, node⟩ := e
  obtain ⟨hw1, hw2, hs1, hs2, ht1, ht2, hk1, hk2, hnode, hkey, htext⟩ := hr
  simp only at hw1 hw2 hs1 hs2 ht1 ht2 hk1 hk2 hnode hkey htext hq
  obtain ⟨wn, rfl⟩ := Int.eq_ofNat_of_zero_le hw1
  have hkl : key.size = key.data.toList.length := rfl
  have hb : (b8 kd).toNat = kd := by rw [b8_toNat]; omega
  have head : ∀ D : List UInt8, takeG (enc wn ++ enc sq ++ enc tm ++ [b8 kd] ++ D) = dataG wn sq tm (b8 kd) D := fun D => by
    unfold takeG
    simp only [List.append_assoc]
    rw [numG_of (by omega) (by omega)]
    simp only [Got.bind]
    rw [numG_of (by omega) (by omega)]
    simp only
    rw [numG_of (by omega) (by omega)]
    rfl
  rcases (show kd = 1 ∨ (kd = 2 ∨ kd = 3) ∨ kd = 4 ∨ kd = 5 ∨ kd = 6 by omega) with hk | hk | hk | hk | hk
  · have h3 := hkey (by omega)
    have h4 := htext hk
    rw [evL_set hk, Int.toNat_natCast]
    have e : enc wn ++ enc sq ++ enc tm ++ [b8 kd] ++ enc key.size ++ key.data.toList ++ enc text.length ++ text ++ r = enc wn ++ enc sq ++ enc tm ++ [b8 kd] ++ (enc key.data.toList.length ++ (key.data.toList ++ (enc text.length ++ (text ++ r)))) := by
      rw [hkl]; simp only [List.append_assoc]
    rw [e, head]
    unfold dataG
    rw [hb, if_pos hk, textG_of (by omega) (by omega)]
    simp only [Got.bind]
    rw [textG_of (by omega) (by omega)]
    simp [plainE, hk]
  · have h3 := hkey (by omega)
    have ha : 1 ≤ kd ∧ kd ≤ 4 := by omega
    rw [evL_num hk, Int.toNat_natCast]
    have e : enc wn ++ enc sq ++ enc tm ++ [b8 kd] ++ enc key.size ++ key.data.toList ++ fix (qb num) ++ r = enc wn ++ enc sq ++ enc tm ++ [b8 kd] ++ (enc key.data.toList.length ++ (key.data.toList ++ (fix (qb num) ++ r))) := by
      rw [hkl]; simp only [List.append_assoc]
    rw [e, head]
    unfold dataG
    rw [hb, if_neg (by omega), if_pos hk, textG_of (by omega) (by omega)]
    simp only [Got.bind]
    rw [fixedG_of (qb_lt _ hq)]
    have hc : ¬ kd = 5 := by omega
    have hd : ¬ kd = 1 := by omega
    simp [plainE, ha, hk, hc, hd, qb_qb]
  · have h3 := hkey (by omega)
    rw [evL_drop hk, Int.toNat_natCast]
    have e : enc wn ++ enc sq ++ enc tm ++ [b8 kd] ++ enc key.size ++ key.data.toList ++ r = enc wn ++ enc sq ++ enc tm ++ [b8 kd] ++ (enc key.data.toList.length ++ (key.data.toList ++ r)) := by
      rw [hkl]; simp only [List.append_assoc]
    rw [e, head]
    unfold dataG
    rw [hb, if_neg (by omega), if_neg (by omega), if_pos hk, textG_of (by omega) (by omega)]
    simp [plainE, hk, Got.bind]
  · have h3 := hnode hk
    obtain ⟨nn, rfl⟩ := Int.eq_ofNat_of_zero_le h3.1
    rw [evL_join hk, Int.toNat_natCast, Int.toNat_natCast, List.append_assoc, head]
    unfold dataG
    rw [hb, if_neg (by omega), if_neg (by omega), if_neg (by omega), if_pos hk, numG_of (by omega) (by omega)]
    simp [plainE, hk, Got.bind]
  · rw [evL_retire hk, Int.toNat_natCast, head]
    unfold dataG
    rw [hb, if_neg (by omega), if_neg (by omega), if_neg (by omega), if_neg (by omega)]
    simp [plainE, hk]
end Go.Proofs.Ytocokfgkbdfodaa.Evt
