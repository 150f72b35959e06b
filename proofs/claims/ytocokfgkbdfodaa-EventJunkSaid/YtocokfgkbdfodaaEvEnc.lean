/- event.Encode: its contract. -/
import Derived.Test.YtocokfgkbdfodaaEvFn
import Derived.Test.YtocokfgkbdfodaaDLay
import Derived.Test.YtocokfgkbdfodaaDFixed
namespace Go.Proofs.Ytocokfgkbdfodaa.Evt
open Go Go.RowKit Go.Proofs.Ytocokfgkbdfodaa.Words Go.Proofs.Ytocokfgkbdfodaa.Enc Go.Proofs.Ytocokfgkbdfodaa.Q Go.Proofs.Ytocokfgkbdfodaa.Made
set_option linter.unusedVariables false

/-- What '[]byte(s)' lays. -/
abbrev convW (W : World) (e : TypeId) (s : ByteArray) (c : Nat) : World := (W.alloc (.cells (bytesRow s c) e ((bytesRow s c).size, (bytesRow s c).size + 1))).drew
theorem conv_sees (W : World) (e : TypeId) (s : ByteArray) (c : Nat) : Sees (convW W e s c) (some ⟨W.heap.size, 0, none⟩) s.size s.data.toList ∧ Below W.heap.size W (convW W e s c) := by
  refine ⟨(sees_marked W e _ _ s.size s.data.toList rfl fun j u hu => ?_).drew, ((Below.refl _ _).alloc (Nat.le_refl _) _).drew⟩
  have hj : j < s.data.size := by have := (List.getElem?_eq_some_iff.1 hu).1; simpa using this
  unfold bytesRow
  rw [Array.getElem?_append_left (by simpa using hj)]
  simp only [Array.getElem?_map]
  rw [← Array.getElem?_toList, hu]
  rfl

set_option maxRecDepth 100000 in
set_option maxHeartbeats 2000000 in
theorem encode_any (e : Ev) (A : Option Addr) (n c : Nat) (w : World) (hs : Sees w A n e.text) (hq : e.num < 18446744073709551616) (hr : Right e) :
    Calls Try.prog 12 #[e.val A n c] w (New w.heap.size (evL e).length (evL e) w) := by
  obtain ⟨wr, sq, tm, kd, key, text, num, node⟩ := e
  unfold Ev.val
  simp only at hs hq ⊢
  obtain ⟨hw1, hw2, hs1, hs2, ht1, ht2, hk1, hk2, hnode, hkey, htext⟩ := hr
  simp only at hw1 hw2 hs1 hs2 ht1 ht2 hk1 hk2 hnode hkey htext
  obtain ⟨i, hi, hz, hsz, hby⟩ := info_parts info8
  obtain ⟨wn, rfl⟩ := Int.eq_ofNat_of_zero_le hw1
  obtain ⟨r, hr⟩ : ∃ r, r = evL ⟨wn, sq, tm, kd, key, text, num, node⟩ := ⟨_, rfl⟩
  rw [← hr]
  have HR := Lib.hid hr
  clear hr
  have HNODE := Lib.hid hnode
  have HKEY := Lib.hid hkey
  have HTEXT := Lib.hid htext
  clear hnode hkey htext
  have hwu : IntKind.u64.wrap (wn : Int) = (wn : Int) := wrap_in wn (by omega)
  have le1 := enc_ten (n := wn) (by omega)
  have le2 := enc_ten (n := sq) (by omega)
  have le3 := enc_ten (n := tm) (by omega)
  have hbx : ∀ W, Below (w.heap.size + 1) (w.alloc (.cells #[.int .i64 (wn : Int), .int .u64 (sq : Int), .int .u64 (tm : Int), .int .u8 (kd : Int), .string key, .slice A n c, .float .f64 num, .int .i64 node] 26)) W →
      W.heap[w.heap.size]? = some (.cells #[.int .i64 (wn : Int), .int .u64 (sq : Int), .int .u64 (tm : Int), .int .u8 (kd : Int), .string key, .slice A n c, .float .f64 num, .int .i64 node] 26 (0, 0)) ∧ Sees W A n text ∧ Below w.heap.size w W ∧ w.heap.size < W.heap.size := by
    intro W hW
    have h := boxed _ w hW
    exact ⟨h.2.1, hs.below h.1, h.1, h.2.2⟩
  have HBX := Lib.hid hbx
  clear hbx hs
  obtain ⟨m, hm⟩ : ∃ m, m = w.heap.size := ⟨_, rfl⟩
  have HM := Lib.hid hm
  clear hm
  go_enter Try.func12, Try.ntmps12
  go_wp2_with fail
  generalize hW0 : w.alloc (.cells #[.int .i64 (wn : Int), .int .u64 (sq : Int), .int .u64 (tm : Int), .int .u8 (kd : Int), .string key, .slice A n c, .float .f64 num, .int .i64 node] 26) = W0 at HBX ⊢
  have hz0 : w.heap.size + 1 ≤ W0.heap.size := by rw [← hW0]; simp
  clear hW0
  refine (lay_any none 0 0 [] _ W0 (Sees.nil _ _) (by omega) (by omega) (by omega)).mono ?_
  rintro e w1 ⟨A1, c1, rfl, hown1, hb1⟩
  rw [Int.toNat_natCast, List.nil_append, Nat.zero_add] at *
  have b1 := hb1.mono hz0
  obtain ⟨h0, -, -, -⟩ := HBX.out w1 b1
  obtain ⟨p0, p1, p2, p3, p4, p5, p6, p7⟩ := box8 h0
  clear h0 hb1
  go_wp2_with fail
  refine (lay_any A1 _ c1 (enc wn) _ w1 (Sees.of_own hown1) (by omega) (by omega) (by omega)).mono ?_
  rintro e w2 ⟨A2, c2, rfl, hown2, hb2⟩
  rw [Int.toNat_natCast] at *
  have b2 := b1.trans (hb2.mono (by have := b1.size; omega))
  obtain ⟨h0, -, -, -⟩ := HBX.out w2 b2
  clear p0 p1 p2 p3 p4 p5 p6 p7 hb2
  obtain ⟨p0, p1, p2, p3, p4, p5, p6, p7⟩ := box8 h0
  clear h0 hown1
  go_wp2_with fail
  refine (lay_any A2 _ c2 _ _ w2 (Sees.of_own hown2) (by omega) (by omega) (by omega)).mono ?_
  rintro e w3 ⟨A3, c3, rfl, hown3, hb3⟩
  rw [Int.toNat_natCast] at *
  have b3 := b2.trans (hb3.mono (by have := b2.size; omega))
  obtain ⟨h0, -, -, -⟩ := HBX.out w3 b3
  clear p0 p1 p2 p3 p4 p5 p6 p7 hb3
  obtain ⟨p0, p1, p2, p3, p4, p5, p6, p7⟩ := box8 h0
  have hown3' := Own.lower (base' := w.heap.size + 1) hown3 (by have := b2.size; omega)
  have hsz3 := b3.size
  clear h0 hown2 hown3 b2
  have hle : (enc wn).length + (enc sq).length + (enc tm).length ≤ 30 := by omega
  clear le1 le2 le3
  obtain ⟨L, hL⟩ : ∃ L, L = enc wn ++ enc sq ++ enc tm := ⟨_, rfl⟩
  rw [← hL] at hown3'
  have hlen : (enc wn).length + (enc sq).length + (enc tm).length = L.length := by rw [hL]; simp only [List.length_append]
  rw [hlen] at hown3' hle ⊢
  have HL := Lib.hid hL
  clear hL hlen
  go_wp2_with (first | (at_builtin; refine wpList_app rfl _ _ 23 rfl (w.heap.size + 1) 5 i (.int .u8 0) Try.underlying23 hi hz hsz hby rfl A3 L.length c3 _ rfl (hown3'.alloc _) _ 1 1 [b8 kd] rfl (Sees.fresh w3 _ _ _ ?e1) ?e2 ?e3 ?_))
  case e1 => rw [b8_toNat]; omega
  case e2 => omega
  case e3 => have := b3.size; simp; omega
  intro A4 c4 w4 hown4 hb4
  have b4 : Below (w.heap.size + 1) W0 w4 := (b3.alloc (by omega) _).trans hb4
  obtain ⟨h0, -, -, -⟩ := HBX.out w4 b4
  clear p0 p1 p2 p3 p4 p5 p6 p7 b3 hown3' hb4
  obtain ⟨p0, p1, p2, p3, p4, p5, p6, p7⟩ := box8 h0
  clear h0
  have hsz4 := b4.size
  obtain ⟨L5, hL5⟩ : ∃ L5, L5 = L ++ [b8 kd] := ⟨_, rfl⟩
  rw [← hL5] at hown4
  have hlen5 : L.length + 1 = L5.length := by rw [hL5]; simp
  rw [hlen5] at hown4 ⊢
  have hle5 : L5.length ≤ 31 := by omega
  have HL5 := Lib.hid hL5
  clear hL5 hlen5 hle
  have hP := Sees.of_own hown4
  have HOWN := Lib.hid hown4
  clear hown4
  go_wp2_with fail
  refine (fieldsOf_any _ _).mono ?_
  rintro e w5 ⟨rfl, hb5⟩
  have b5 := b4.trans (hb5.mono (by omega))
  have hsz5 := b5.size
  have hf : ∀ (b1 b2 b3 b4 : Bool) (W : World), Below (w5.heap.size + 1) (w5.alloc (.cells #[.bool b1, .bool b2, .bool b3, .bool b4] 50)) W →
      W.heap[w5.heap.size]? = some (.cells #[.bool b1, .bool b2, .bool b3, .bool b4] 50 (0, 0)) ∧
      W.heap[w.heap.size]? = some (.cells #[.int .i64 (wn : Int), .int .u64 (sq : Int), .int .u64 (tm : Int), .int .u8 (kd : Int), .string key, .slice A n c, .float .f64 num, .int .i64 node] 26 (0, 0)) ∧ Sees W A n text ∧ Below w.heap.size w W ∧ w5.heap.size < W.heap.size ∧ Sees W A4 L5.length L5 := by
    intro b1 b2 b3 b4 W hW
    have hA := ((Below.refl _ _).alloc (Nat.le_refl w5.heap.size) (.cells #[.bool b1, .bool b2, .bool b3, .bool b4] 50)).trans (hW.mono (by omega))
    obtain ⟨h1, h2, h3, h4⟩ := HBX.out W (b5.trans (hA.mono (by omega)))
    refine ⟨?_, h1, h2, h3, ?_, (hP.below hb5).below hA⟩
    · rw [hW.block w5.heap.size (by omega)]
      exact heap_alloc_new w5 _
    · have := hW.size; simp at this; omega
  have HF := Lib.hid hf
  clear hf
  obtain ⟨h0, -, -, -⟩ := HBX.out w5 b5
  clear p0 p1 p2 p3 p4 p5 p6 p7
  obtain ⟨p0, p1, p2, p3, p4, p5, p6, p7⟩ := box8 h0
  have OWN5 := Lib.hid (Own.lower (base' := w.heap.size) (Own.below HOWN.out hb5 (Nat.le_refl _)) (by omega))
  clear h0 hb5 hP b4 b5 HBX HOWN
  have hlt5 : w.heap.size < w5.heap.size := by omega
  have HCV := Lib.hid (fun W => run_bytes_of_string (P := Try.prog) W 9 23 5 key Try.underlying9 Try.underlying23 Try.underlying5)
  have hsz : w.heap.size < w5.heap.size + 1 := by omega
  have fin : ∀ (W : World) (B : Option Addr) (N k : Nat) (l : List UInt8), W.ownsRow w.heap.size 5 1 (.slice B N k) N (cs l) → Below w.heap.size w W → l = r → New w.heap.size r.length r w (.returned (.slice B N k)) W := by
    intro W B N k l h1 h2 h3
    subst h3
    have hN : N = l.length := by have := h1.1; rw [cs_length] at this; omega
    subst hN
    exact ⟨B, k, rfl, h1, h2⟩
  have FIN := Lib.hid fin
  clear fin
  rcases (show kd = 1 ∨ (kd = 2 ∨ kd = 3) ∨ kd = 4 ∨ kd = 5 ∨ kd = 6 by omega) with hk | hk | hk | hk | hk
  · rw [hk, uses1]
    have HK := Lib.hid hk
    clear hk hk1 hk2
    have HF1 := Lib.hid (HF.out true true false false)
    clear HF
    have hcv := HCV.out
    go_wp2_with fail
    clear hcv
    generalize hF1 : w5.alloc (.cells #[.bool true, .bool true, .bool false, .bool false] 50) = F1 at HF1 ⊢
    have hz6 : F1.heap.size = w5.heap.size + 1 := by rw [← hF1]; simp
    clear hF1
    have hk6 := HKEY.out (by rw [HK.out]; omega)
    have cs := conv_sees F1 5 key (grownCap F1 key.size 0 5)
    rw [hz6] at cs
    have hp6 := HF1.out _ (cs.2)
    refine (layText_any A4 _ c4 L5 _ key.size (grownCap F1 key.size 0 5) key.data.toList _ hp6.2.2.2.2.2 cs.1 (by omega) (by omega)).mono ?_
    rintro e w6 ⟨A6, c6, rfl, hown6, hb6⟩
    have b6 := cs.2.trans (hb6.mono (by have := cs.2.size; omega))
    have h6 := HF1.out w6 b6
    obtain ⟨q0, q1, q2, q3⟩ := b4cells h6.1
    clear p0 p1 p2 p3 p4 p5 p6 p7
    obtain ⟨p0, p1, p2, p3, p4, p5, p6, p7⟩ := box8 h6.2.1
    have hown := Own.lower (base' := w.heap.size) hown6 (by have := cs.2.size; omega)
    have hlek := enc_ten (n := key.size) (by omega)
    have hsz6 : w5.heap.size + 1 ≤ w6.heap.size := by have := h6.2.2.2.2.1; omega
    have H6 := Lib.hid h6
    clear h6 hp6 cs hown6 hb6
    have ht6 := HTEXT.out HK.out
    have htn := H6.out.2.2.1.1
    go_wp2_with fail
    refine (layText_any A6 _ c6 _ A n c text w6 (Sees.of_own hown) H6.out.2.2.1 (by omega) (by omega)).mono ?_
    rintro e w7 ⟨A7, c7, rfl, hown7, hb7⟩
    have b7 := b6.trans (hb7.mono hsz6)
    have h7 := HF1.out w7 b7
    clear q0 q1 q2 q3
    obtain ⟨q0, q1, q2, q3⟩ := b4cells h7.1
    have OWN := Lib.hid (Own.lower (base' := w.heap.size) hown7 (by omega))
    have BEL := Lib.hid h7.2.2.2.1
    have HTN := Lib.hid htn
    clear hown7 hb7 h7 htn
    go_wp2
    go_ret
    exact FIN.out _ _ _ _ _ OWN.out BEL.out (by rw [HR.out, HL5.out, HL.out, evL_set HK.out, HTN.out, Int.toNat_natCast])
  · obtain ⟨b, hu⟩ : ∃ b, usesV kd = .tuple #[.agg #[.bool true, .bool false, .bool true, .bool false], .bool b] := by
      rcases hk with rfl | rfl
      · exact ⟨_, uses2⟩
      · exact ⟨_, uses3⟩
    rw [hu]
    have HK' := Lib.hid hk
    have HK := Lib.hid (show kd ≤ 4 ∧ kd ≠ 1 ∧ kd ≠ 5 by omega)
    clear hk hk1 hk2 hu
    have HF1 := Lib.hid (HF.out true false true false)
    clear HF
    have hcv := HCV.out
    go_wp2_with fail
    clear hcv
    generalize hF1 : w5.alloc (.cells #[.bool true, .bool false, .bool true, .bool false] 50) = F1 at HF1 ⊢
    have hz6 : F1.heap.size = w5.heap.size + 1 := by rw [← hF1]; simp
    clear hF1
    have hk6 := HKEY.out HK.out.1
    have cs := conv_sees F1 5 key (grownCap F1 key.size 0 5)
    rw [hz6] at cs
    have hp6 := HF1.out _ (cs.2)
    refine (layText_any A4 _ c4 L5 _ key.size (grownCap F1 key.size 0 5) key.data.toList _ hp6.2.2.2.2.2 cs.1 (by omega) (by omega)).mono ?_
    rintro e w6 ⟨A6, c6, rfl, hown6, hb6⟩
    have b6 := cs.2.trans (hb6.mono (by have := cs.2.size; omega))
    have h6 := HF1.out w6 b6
    obtain ⟨q0, q1, q2, q3⟩ := b4cells h6.1
    clear p0 p1 p2 p3 p4 p5 p6 p7
    obtain ⟨p0, p1, p2, p3, p4, p5, p6, p7⟩ := box8 h6.2.1
    have hown := Own.lower (base' := w.heap.size) hown6 (by have := cs.2.size; omega)
    have hlek := enc_ten (n := key.size) (by omega)
    have hsz6 : w5.heap.size + 1 ≤ w6.heap.size := by have := h6.2.2.2.2.1; omega
    have H6 := Lib.hid h6
    clear h6 hp6 cs hown6 hb6
    have hql := qb_lt num hq
    go_wp2_with fail
    refine (bits_any _ _).mono ?_
    rintro e w6 ⟨rfl, rfl⟩
    go_wp2_with fail
    refine (layFixed_any A6 _ c6 _ _ w6 (Sees.of_own hown) (by omega) (by omega) (by omega)).mono ?_
    rintro e w7 ⟨A7, c7, rfl, hown7, hb7⟩
    rw [Int.toNat_natCast] at hown7
    have b7 := b6.trans (hb7.mono hsz6)
    have h7 := HF1.out w7 b7
    clear q0 q1 q2 q3
    obtain ⟨q0, q1, q2, q3⟩ := b4cells h7.1
    have OWN := Lib.hid (Own.lower (base' := w.heap.size) hown7 (by omega))
    have BEL := Lib.hid h7.2.2.2.1
    clear hown7 hb7 h7
    go_wp2
    go_ret
    exact FIN.out _ _ _ _ _ OWN.out BEL.out (by rw [HR.out, HL5.out, HL.out, evL_num HK'.out, Int.toNat_natCast])
  · rw [hk, uses4]
    have HK := Lib.hid hk
    clear hk hk1 hk2
    have HF1 := Lib.hid (HF.out true false false false)
    clear HF
    have hcv := HCV.out
    go_wp2_with fail
    clear hcv
    generalize hF1 : w5.alloc (.cells #[.bool true, .bool false, .bool false, .bool false] 50) = F1 at HF1 ⊢
    have hz6 : F1.heap.size = w5.heap.size + 1 := by rw [← hF1]; simp
    clear hF1
    have hk6 := HKEY.out (by rw [HK.out]; omega)
    have cs := conv_sees F1 5 key (grownCap F1 key.size 0 5)
    rw [hz6] at cs
    have hp6 := HF1.out _ (cs.2)
    refine (layText_any A4 _ c4 L5 _ key.size (grownCap F1 key.size 0 5) key.data.toList _ hp6.2.2.2.2.2 cs.1 (by omega) (by omega)).mono ?_
    rintro e w6 ⟨A6, c6, rfl, hown6, hb6⟩
    have b6 := cs.2.trans (hb6.mono (by have := cs.2.size; omega))
    have h6 := HF1.out w6 b6
    obtain ⟨q0, q1, q2, q3⟩ := b4cells h6.1
    clear p0 p1 p2 p3 p4 p5 p6 p7
    obtain ⟨p0, p1, p2, p3, p4, p5, p6, p7⟩ := box8 h6.2.1
    have hown := Own.lower (base' := w.heap.size) hown6 (by have := cs.2.size; omega)
    have hlek := enc_ten (n := key.size) (by omega)
    have hsz6 : w5.heap.size + 1 ≤ w6.heap.size := by have := h6.2.2.2.2.1; omega
    have H6 := Lib.hid h6
    clear h6 hp6 cs hown6 hb6
    have OWN := Lib.hid hown
    clear hown
    go_wp2
    go_ret
    exact FIN.out _ _ _ _ _ OWN.out H6.out.2.2.2.1 (by rw [HR.out, HL5.out, HL.out, evL_drop HK.out, Int.toNat_natCast])
  · rw [hk, uses5]
    have HK := Lib.hid hk
    clear hk hk1 hk2
    have HF1 := Lib.hid (HF.out false false false true)
    clear HF
    obtain ⟨hn1, hn2⟩ := HNODE.out HK.out
    obtain ⟨nn, rfl⟩ := Int.eq_ofNat_of_zero_le hn1
    have hnu : IntKind.u64.wrap (nn : Int) = (nn : Int) := wrap_in nn (by omega)
    have h5 := HF1.out _ (Below.refl _ _)
    go_wp2_with fail
    refine (lay_any A4 _ c4 L5 _ _ h5.2.2.2.2.2 (by omega) (by omega) (by omega)).mono ?_
    rintro e w6 ⟨A6, c6, rfl, hown6, hb6⟩
    rw [Int.toNat_natCast] at hown6 ⊢
    have h6 := HF1.out w6 (by simpa using hb6)
    have OWN := Lib.hid (Own.lower (base' := w.heap.size) hown6 (by simp; omega))
    have BEL := Lib.hid h6.2.2.2.1
    clear hown6 hb6 h6 h5
    go_wp2
    go_ret
    exact FIN.out _ _ _ _ _ OWN.out BEL.out (by rw [HR.out, HL5.out, HL.out, evL_join HK.out, Int.toNat_natCast, Int.toNat_natCast])
  · rw [hk, uses6]
    have HK := Lib.hid hk
    clear hk hk1 hk2
    have HF1 := Lib.hid (HF.out false false false false)
    clear HF
    have h5 := HF1.out _ (Below.refl _ _)
    have BEL := Lib.hid h5.2.2.2.1
    have OWN := Lib.hid (OWN5.out.alloc (.cells #[.bool false, .bool false, .bool false, .bool false] 50))
    clear h5
    go_wp2
    go_ret
    exact FIN.out _ _ _ _ _ OWN.out BEL.out (by rw [HR.out, HL5.out, HL.out, evL_retire HK.out, Int.toNat_natCast])
end Go.Proofs.Ytocokfgkbdfodaa.Evt
