/- Package fold: Encode. -/
import Derived.Laws.AppendOwn
import Derived.Test.YtmogoopkjkdkgaaGreatVTp11
import Derived.Test.YtmogoopkjkdkgaaGreatVTp12
import Derived.Test.YtmogoopkjkdkgaaGreatVTp24
import Derived.Test.YtmogoopkjkdkgaaGreatVTp27
namespace Go.Proofs.YtmogoopkjkdkgaaGreat.Fol
open Go Go.RowKit Go.Proofs.YtmogoopkjkdkgaaGreat.Words Go.Proofs.YtmogoopkjkdkgaaGreat.Enc Go.Proofs.YtmogoopkjkdkgaaGreat.Q Go.Proofs.YtmogoopkjkdkgaaGreat.Evt Go.Proofs.YtmogoopkjkdkgaaGreat.Made
set_option linter.unusedVariables false
set_option linter.unusedSimpArgs false

theorem layL_trim (v : List Nat) : Vec.layL (Vec.trimL v) = Vec.layL v := by
  have h := Vec.trimL_self (Vec.trimL_trimmed v)
  have h2 := Vec.trimL_len (Vec.trimL v)
  rw [h, Vec.trimL_len] at h2
  unfold Vec.layL
  rw [h, Vec.trimL_len, ← h2]
theorem lk_get {L : List (Key × MC)} (hr : Rise L) : ∀ {j : Nat} {p : Key × MC}, L[j]? = some p → lk p.1 L = some p.2 := by
  induction L with
  | nil => intro j p h; simp at h
  | cons q r ih =>
    intro j p h
    rw [lk_cons]
    cases j with
    | zero => simp at h; subst h; rw [if_pos rfl]
    | succ j =>
      have hp : r[j]? = some p := by simpa using h
      have hlt := (List.pairwise_cons.1 hr).1 p (List.mem_of_getElem? hp)
      rw [if_neg (key_ne hlt)]
      exact ih (List.pairwise_cons.1 hr).2 hp

theorem own_kept {w w' : World} {base base2 n c n2 c2 : Nat} {A A2 : Option Addr} {e e2 : TypeId} {xs ys : List Value} (he : e ≠ e2) (h1 : w.ownsRow base e 1 (.slice A n c) n xs) (h2 : w.ownsRow base2 e2 1 (.slice A2 n2 c2) n2 ys)
    (hk : ∀ k, k < w.heap.size → some k ≠ (Value.slice A n c).ownBlock → w'.heap[k]? = w.heap[k]?) : w'.ownsRow base2 e2 1 (.slice A2 n2 c2) n2 ys := by
  refine ⟨h2.1, ?_⟩
  rcases h2.2 with h | ⟨g, cap, cur, hv, hg, hh, r⟩
  · exact .inl h
  · refine .inr ⟨g, cap, cur, hv, hg, (hk g (Array.getElem?_eq_some_iff.1 hh).1 fun e1 => ?_).trans hh, r⟩
    rcases h1.2 with ⟨hv1, _⟩ | ⟨g1, cap1, cur1, hv1, _, hh1, _⟩
    · rw [hv1] at e1; cases e1
    · rw [hv1] at e1
      have e2 : g = g1 := by simpa [Value.ownBlock] using e1
      subst e2
      rw [hh] at hh1
      injection hh1 with hh1
      injection hh1 with _ h3
      exact he h3.symm
section
variable {P : Program}
/-- append of bytes that are seen: which blocks stay. -/
theorem wpList_appB {w : World} {ops : Array Oper} {rest : List Oper} {o : Oper} {a : Act} {Q : Exit → Act → World → Prop} (hgd : o.guard = none) (s x : Operand) (t : TypeId)
    (ho : o.op = .call { callee := .builtin .append, args := #[s, x], argTypes := #[t, t] })
    (base : Nat) (e : TypeId) (i : TypeInfo) (z : Value) (ht : P.underlying t = some (.slice e)) (hi : P.info? e = some i) (hz : i.zero = some z)
    (hsize : i.size = 1) (hby : i.bytes = 1) (hzs : z.cells.size = 1)
    (A : Option Addr) (n c : Nat) (l : List UInt8) (hs : a.eval s = .slice A n c) (hown : w.ownsRow base e 1 (.slice A n c) n (cs l))
    (S : Option Addr) (m k : Nat) (q : List UInt8) (hm : 0 < m) (hx : a.eval x = .slice S m k) (hq : Sees w S m q) (h63 : n + m ≤ 140737488355328) (hbase : base ≤ w.heap.size)
    (h : ∀ A' c' w', w'.ownsRow base e 1 (.slice A' (n + m) c') (n + m) (cs (l ++ q)) → Below base w w' → (∀ k, k < w.heap.size → some k ≠ (Value.slice A n c).ownBlock → w'.heap[k]? = w.heap[k]?) → wpList P ops Q rest (a.put o.dst (.slice A' (n + m) c')) w') : wpList P ops Q (o :: rest) a w :=
  wpList_plain hgd fun _ hK => by
    obtain ⟨b, oo, rfl, hc0⟩ := hq.2 hm
    have hcells : ∀ j u, (cs q)[j]? = some u → w.cell? (Addr.add ⟨b, oo, none⟩ j) = some u := by
      intro j u hu
      obtain ⟨y, hy, rfl⟩ := of_cs_get hu
      rw [add_plain]
      exact hc0 j y hy
    obtain ⟨v', w', hrun, h2, h3, _⟩ := run_append_own (P := P) w base t o.type e i z 1 1 ht hi hz hsize hby hzs (by decide) (.slice A n c) n (cs l) hown ⟨b, oo, none⟩ m k (cs q) (by rw [cs_length, hq.1]; simp) hcells (cs_one q) (by unfold maxLen; omega) (by omega) hbase
    rw [← cs_append] at h2
    have hB : Below base w w' := (Below.refl base w).grown h3 hbase fun g hg => (hown.lt g hg).1
    obtain ⟨A', c', rfl⟩ : ∃ A' c', v' = .slice A' (n + m) c' := by
      rcases h2.2 with ⟨rfl, h0⟩ | ⟨g, cap, cur, rfl, _⟩
      · exact ⟨none, 0, by rw [h0]⟩
      · exact ⟨_, cap, rfl⟩
    unfold Oper.wp execOp
    simp only [ho, resolve, invoke, builtin, Sem.run_bind, Sem.run_pure, Result.andThen_ok, List.map_toArray, List.map_cons, List.map_nil, hs, hx, hrun]
    exact hK _ _ (h A' c' w' h2 hB h3.block)
end

section
variable {S : List Nat} {d mb : Nat} {F : Fo}
set_option maxRecDepth 100000 in
set_option maxHeartbeats 4000000 in
theorem encode_any (w : World) (h : FoldAt w S d mb F) (hf : (foldL F).length ≤ 100000000) (hn : F.L.length ≤ 1000000) :
    Calls Tryz.prog 12 #[.pointer (some ⟨d, 0, none⟩)] w (GivesR w (foldL F)) := by
  obtain ⟨i, hi, hz, hsz, hby⟩ := info_parts info8
  have ok := h.ok
  obtain ⟨L, hm, hL, htx⟩ := h.map
  have hrise : Rise L := (mapV_rise MC.cel L).1 (by rw [hL]; exact ok.rise)
  have hlk : ∀ (j : Nat) (p : Key × MC), L[j]? = some p → lk p.1 L = some p.2 := fun j p hp => lk_get hrise hp
  have hLl : L.length = F.L.length := by rw [← hL, mapV_len]
  have hT64 : F.time < 18446744073709551616 := by have := ok.time; omega
  have hW64 : F.wr ≤ 63 := ok.wr
  have hM64 : F.mark < 18446744073709551616 := ok.mark
  have hlt := h.lt
  obtain ⟨T, hT⟩ : ∃ T, T = F.time := ⟨_, rfl⟩
  obtain ⟨W0, hW⟩ : ∃ T, T = F.wr := ⟨_, rfl⟩
  obtain ⟨M, hM⟩ : ∃ T, T = F.mark := ⟨_, rfl⟩
  obtain ⟨n', hnl⟩ : ∃ n', n' = F.L.length := ⟨_, rfl⟩
  rw [← hT] at hT64
  rw [← hW] at hW64
  rw [← hM] at hM64
  have FA := Lib.hid (fun (W : World) (hW : Below w.heap.size w W) => h.below hW)
  have CEL := Lib.hid (fun (W : World) (hb : Below w.heap.size w W) => (by
    have f := FA.out W hb
    obtain ⟨t1, t2, t3⟩ := f.cT
    rw [← hT] at t1; rw [← hW] at t2; rw [← hM] at t3
    exact ⟨f.c0, t1, t2, t3⟩ : W.cell? ⟨d, 0, none⟩ = some (.map (some mb)) ∧ W.cell? ⟨d, 193, none⟩ = some (.int .u64 (T : Int)) ∧ W.cell? ⟨d, 194, none⟩ = some (.int .i64 (W0 : Int)) ∧ W.cell? ⟨d, 195, none⟩ = some (.int .u64 (M : Int))))
  obtain ⟨l0, hl0⟩ : ∃ l, l = Vec.layL F.H := ⟨_, rfl⟩
  obtain ⟨l1, hl1⟩ : ∃ l, l = l0 ++ enc T := ⟨_, rfl⟩
  obtain ⟨l2, hl2⟩ : ∃ l, l = l1 ++ enc W0 := ⟨_, rfl⟩
  obtain ⟨jm, hjm⟩ : ∃ m, m = maskN F.J 64 := ⟨_, rfl⟩
  obtain ⟨rm, hrm⟩ : ∃ m, m = maskN F.R 64 := ⟨_, rfl⟩
  have hj64 : jm < 18446744073709551616 := by rw [hjm]; exact maskN_lt F.J 64
  have hr64 : rm < 18446744073709551616 := by rw [hrm]; exact maskN_lt F.R 64
  obtain ⟨l3, hl3⟩ : ∃ l, l = l2 ++ fix jm := ⟨_, rfl⟩
  obtain ⟨l4, hl4⟩ : ∃ l, l = l3 ++ fix rm := ⟨_, rfl⟩
  obtain ⟨l5, hl5⟩ : ∃ l, l = l4 ++ fix M := ⟨_, rfl⟩
  obtain ⟨l6, hl6⟩ : ∃ l, l = l5 ++ enc n' := ⟨_, rfl⟩
  have hhead : l6 = headF F := by
    rw [hl6, hl5, hl4, hl3, hl2, hl1, hl0, hjm, hrm, hT, hW, hM, hnl]; rfl
  have hle6 : l6.length ≤ 100000000 := by
    have : (foldL F).length = (headF F).length + (celsL F.L).length := by unfold foldL; rw [List.length_append]
    rw [hhead]; omega
  have hle5 : l5.length ≤ 100000000 := by have := congrArg List.length hl6; rw [List.length_append] at this; omega
  have hle4 : l4.length ≤ 100000000 := by have := congrArg List.length hl5; rw [List.length_append] at this; omega
  have hle3 : l3.length ≤ 100000000 := by have := congrArg List.length hl4; rw [List.length_append] at this; omega
  have hle2 : l2.length ≤ 100000000 := by have := congrArg List.length hl3; rw [List.length_append] at this; omega
  have hle1 : l1.length ≤ 100000000 := by have := congrArg List.length hl2; rw [List.length_append] at this; omega
  have hle0 : l0.length ≤ 100000000 := by have := congrArg List.length hl1; rw [List.length_append] at this; omega
  have HV := Lib.hid (have_any S d mb F w h)
  have hK64 : Vec.trimN F.H 64 ≤ 64 := Vec.trimN_le F.H 64
  have htl : F.H.take (Vec.trimN F.H 64) = Vec.trimL F.H := by unfold Vec.trimL; rw [ok.h]
  have hsm := Vec.small_trim (ok_small ok)
  have VB := Lib.hid (fun (W : World) R rc (own : W.ownsRow w.heap.size 28 1 (.slice R (Vec.trimN F.H 64) rc) (Vec.trimN F.H 64) (Vec.us (F.H.take (Vec.trimN F.H 64)))) => (by
    rw [htl] at own
    have hc := Own.cap own
    have := Vec.vbytes_any R (Vec.trimN F.H 64) rc (Vec.trimL F.H) W ⟨Vec.SeesU.of_own own, Vec.small_fits hsm, hc.1, hc.2, by omega⟩ hsm
    rw [layL_trim, ← hl0] at this
    exact this : Calls Tryz.prog 31 #[.slice R (Vec.trimN F.H 64) rc] W (Vec.GivesB W l0)))
  unfold Vec.Trims at HV
  obtain ⟨KT, hKT⟩ : ∃ K, K = Vec.trimN F.H 64 := ⟨_, rfl⟩
  rw [← hKT] at HV VB
  have L1 := Lib.hid (fun (W : World) A c (hs : Sees W A l0.length l0) => (by have := pll A c l0 (T : Int) W hs (by omega) (by omega) (by omega); rw [Int.toNat_natCast, ← hl1] at this; exact this : Calls Tryz.prog 32 #[.slice A l0.length c, .int .u64 (T : Int)] W (GivesR W l1)))
  have L2 := Lib.hid (fun (W : World) A c (hs : Sees W A l1.length l1) => (by have := pll A c l1 (W0 : Int) W hs (by omega) (by omega) (by omega); rw [Int.toNat_natCast, ← hl2] at this; exact this : Calls Tryz.prog 32 #[.slice A l1.length c, .int .u64 (W0 : Int)] W (GivesR W l2)))
  have L3 := Lib.hid (fun (W : World) A c (hs : Sees W A l2.length l2) => (by have := plf A c l2 (jm : Int) W hs (by omega) (by omega) (by omega); rw [Int.toNat_natCast, ← hl3] at this; exact this : Calls Tryz.prog 33 #[.slice A l2.length c, .int .u64 (jm : Int)] W (GivesR W l3)))
  have L4 := Lib.hid (fun (W : World) A c (hs : Sees W A l3.length l3) => (by have := plf A c l3 (rm : Int) W hs (by omega) (by omega) (by omega); rw [Int.toNat_natCast, ← hl4] at this; exact this : Calls Tryz.prog 33 #[.slice A l3.length c, .int .u64 (rm : Int)] W (GivesR W l4)))
  have L5 := Lib.hid (fun (W : World) A c (hs : Sees W A l4.length l4) => (by have := plf A c l4 (M : Int) W hs (by omega) (by omega) (by omega); rw [Int.toNat_natCast, ← hl5] at this; exact this : Calls Tryz.prog 33 #[.slice A l4.length c, .int .u64 (M : Int)] W (GivesR W l5)))
  have L6 := Lib.hid (fun (W : World) A c (hs : Sees W A l5.length l5) => (by have := pll A c l5 (n' : Int) W hs (by omega) (by omega) (by omega); rw [Int.toNat_natCast, ← hl6] at this; exact this : Calls Tryz.prog 32 #[.slice A l5.length c, .int .u64 (n' : Int)] W (GivesR W l6)))
  obtain ⟨qj, hqj⟩ : ∃ q, q = bs F.J := ⟨_, rfl⟩
  obtain ⟨qr, hqr⟩ : ∃ q, q = bs F.R := ⟨_, rfl⟩
  have RJ := Lib.hid (fun (W : World) (hb : Below w.heap.size w W) => (by rw [hqj]; exact (FA.out W hb).rangeJ : W.rangeAt d 1 qj))
  have RR := Lib.hid (fun (W : World) (hb : Below w.heap.size w W) => (by rw [hqr]; exact (FA.out W hb).rangeR : W.rangeAt d 65 qr))
  have hqjl : (Tryz.prog.info? 80).map (·.size) = some qj.length := by rw [hqj, show (bs F.J).length = 64 by simp [bs, ok.j]]; kernel_rfl
  have hqrl : (Tryz.prog.info? 80).map (·.size) = some qr.length := by rw [hqr, show (bs F.R).length = 64 by simp [bs, ok.r]]; kernel_rfl
  have MJ := Lib.hid (fun (W : World) => (by have := mask_any F.J W ok.j; rw [← hqj, ← hjm] at this; exact this : Calls Tryz.prog 34 #[.agg qj.toArray] W fun e w' => e = .returned (.int .u64 (jm : Int)) ∧ Below W.heap.size W w'))
  have MR := Lib.hid (fun (W : World) => (by have := mask_any F.R W ok.r; rw [← hqr, ← hrm] at this; exact this : Calls Tryz.prog 34 #[.agg qr.toArray] W fun e w' => e = .returned (.int .u64 (rm : Int)) ∧ Below W.heap.size W w'))
  have LEN := Lib.hid (fun (W : World) (hb : Below w.heap.size w W) => (by
    have hk := hm.kept ((hb.block mb hlt.2))
    have := hk.run_len 3
    rw [hLl, ← hnl] at this
    exact this : (Builtin.len_ #[78] 3 #[.map (some mb)]).run Tryz.prog W = .ok (.int .i64 (n' : Int)) W))
  have KS := Lib.hid (fun (W : World) (hb : Below w.heap.size w W) => (by
    have := keys_any S d mb F W (FA.out W hb) hn
    rw [← hnl] at this
    exact this : Calls Tryz.prog 35 #[.pointer (some ⟨d, 0, none⟩)] W fun e w' => ∃ A c, e = .returned (.slice A n' c) ∧ w'.ownsRow W.heap.size 9 1 (.slice A n' c) n' ((F.L.map (·.1)).map encStr) ∧ Below W.heap.size W w'))
  have HMAP := Lib.hid (fun (W : World) (hb : Below w.heap.size w W) => hm.kept (hb.block mb hlt.2))
  have HTX := Lib.hid htx
  have HLK := Lib.hid hlk
  have HL := Lib.hid (And.intro hL hLl)
  have HHEAD := Lib.hid (And.intro hhead hle6)
  have HOK := Lib.hid ok
  have HF := Lib.hid hf
  have HN := Lib.hid (And.intro hnl hn)
  have HDL := Lib.hid hlt
  have hWu : IntKind.u64.wrap (W0 : Int) = (W0 : Int) := wrap_in W0 (by omega)
  have hn64 : n' ≤ 1000000 := by omega
  have hnu : IntKind.u64.wrap (n' : Int) = (n' : Int) := wrap_in n' (by omega)
  clear hl0 hl1 hl2 hl3 hl4 hl5 hl6 hjm hrm hhead hle0 hle1 hle2 hle3 hle4 hle5 hle6 hT hW hM hLl hnl hj64 hr64 h ok hf hm hL htx hlk hlt hK64 htl hsm hKT hqj hqr hrise hn hn64 hT64 hM64
  go_enter Tryz.func12, Tryz.ntmps12
  go_wp2_with fail
  refine HV.out.mono ?_
  rintro e w1 ⟨R, rc, rfl, own1, hb1⟩
  have VBW := Lib.hid (VB.out w1 R rc own1)
  have B1 := Lib.hid hb1
  clear own1 hb1 VB HV
  go_wp2_with fail
  refine VBW.out.mono ?_
  rintro e w2 ⟨A2, c2, rfl, hs2, _, _, hb2⟩
  have B2 := Lib.hid (B1.out.trans (hb2.mono B1.out.size))
  have S2 := Lib.hid hs2
  obtain ⟨q0, q1, q2, q3⟩ := CEL.out w2 B2.out
  clear hs2 hb2 VBW
  go_wp2_with fail
  refine (L1.out _ _ _ S2.out).mono ?_
  rintro e w3 ⟨A3, c3, rfl, own3, hb3⟩
  have B3 := Lib.hid (B2.out.trans (hb3.mono B2.out.size))
  have S3 := Lib.hid (Sees.of_own own3)
  clear own3 hb3 q0 q1 q2 q3
  obtain ⟨q0, q1, q2, q3⟩ := CEL.out w3 B3.out
  go_wp2_with fail
  refine (L2.out _ _ _ S3.out).mono ?_
  rintro e w4 ⟨A4, c4, rfl, own4, hb4⟩
  have B4 := Lib.hid (B3.out.trans (hb4.mono B3.out.size))
  have S4 := Lib.hid (Sees.of_own own4)
  clear own4 hb4 q0 q1 q2 q3
  have rj := RJ.out w4 B4.out
  go_wp2_with (first | (refine wpList_load_midG (by rfl) 80 (.tmp 29) rfl d 1 rfl qj _ rj Tryz.underlying80 rfl hqjl ?_))
  refine (MJ.out _).mono ?_
  rintro e w5 ⟨rfl, hb5⟩
  have B5 := Lib.hid (B4.out.trans (hb5.mono B4.out.size))
  have S5 := Lib.hid (S4.out.below hb5)
  clear hb5 rj
  go_wp2_with fail
  refine (L3.out _ _ _ S5.out).mono ?_
  rintro e w6 ⟨A6, c6, rfl, own6, hb6⟩
  have B6 := Lib.hid (B5.out.trans (hb6.mono B5.out.size))
  have S6 := Lib.hid (Sees.of_own own6)
  clear own6 hb6
  have rr := RR.out w6 B6.out
  go_wp2_with (first | (refine wpList_load_midG (by rfl) 80 (.tmp 36) rfl d 65 rfl qr _ rr Tryz.underlying80 rfl hqrl ?_))
  refine (MR.out _).mono ?_
  rintro e w7 ⟨rfl, hb7⟩
  have B7 := Lib.hid (B6.out.trans (hb7.mono B6.out.size))
  have S7 := Lib.hid (S6.out.below hb7)
  clear hb7 rr
  go_wp2_with fail
  refine (L4.out _ _ _ S7.out).mono ?_
  rintro e w8 ⟨A8, c8, rfl, own8, hb8⟩
  have B8 := Lib.hid (B7.out.trans (hb8.mono B7.out.size))
  have S8 := Lib.hid (Sees.of_own own8)
  clear own8 hb8
  obtain ⟨q0, q1, q2, q3⟩ := CEL.out w8 B8.out
  go_wp2_with fail
  refine (L5.out _ _ _ S8.out).mono ?_
  rintro e w9 ⟨A9, c9, rfl, own9, hb9⟩
  have B9 := Lib.hid (B8.out.trans (hb9.mono B8.out.size))
  have S9 := Lib.hid (Sees.of_own own9)
  clear own9 hb9 q0 q1 q2 q3
  obtain ⟨q0, q1, q2, q3⟩ := CEL.out w9 B9.out
  have hlen := LEN.out w9 B9.out
  go_wp2_with fail
  refine (L6.out _ _ _ S9.out).mono ?_
  rintro e w10 ⟨A10, c10, rfl, own10, hb10⟩
  have B10 := Lib.hid (B9.out.trans (hb10.mono B9.out.size))
  have OW10 := Lib.hid (Own.lower (base' := w.heap.size) own10 B9.out.size)
  clear own10 hb10 q0 q1 q2 q3 hlen
  have KSW := Lib.hid (KS.out w10 B10.out)
  clear L1 L2 L3 L4 L5 L6 MJ MR RJ RR LEN KS
  go_wp2_with fail
  refine KSW.out.mono ?_
  rintro e w11 ⟨KA, kc, rfl, own11, hb11⟩
  have B11 := Lib.hid (B10.out.trans (hb11.mono B10.out.size))
  have OW11 := Lib.hid (Own.below OW10.out hb11 (Nat.le_refl _))
  have KOW := Lib.hid own11
  clear own11 hb11 KSW
  go_wp2_with fail
  go_loopw [3, 5, 57] (fun x z y wr => ∃ (P : Option Addr) (c j : Nat) (l : List UInt8), x = .slice P l.length c ∧ y = .int .i64 (j : Int) ∧ j ≤ n' ∧ Hid (l = l6 ++ celsL (F.L.take j)) ∧ Hid (wr.ownsRow w.heap.size 5 1 (.slice P l.length c) l.length (cs l)) ∧ Hid (Below w.heap.size w wr) ∧ Hid (wr.ownsRow w10.heap.size 9 1 (.slice KA n' kc) n' ((F.L.map (·.1)).map encStr))) (fun _ _ y _ => n' - (intOf y).toNat)
  case atStart => exact ⟨A10, c10, 0, l6, rfl, rfl, Nat.zero_le _, Lib.hid (by simp [celsL]), OW11, B11, KOW⟩
  case round =>
    obtain ⟨P, c, j, l, rfl, rfl, hj, HLl, HS, HBw, HKO⟩ := hrel
    by_cases hlt : j < n'
    · have hd : decide ((j : Int) < (n' : Int)) = true := decide_eq_true (by omega)
      have hjb : (j : Int) ≤ 1000000 := by have := HN.out; omega
      have hij : (j : Int) < (n' : Int) := by omega
      obtain ⟨p, hp⟩ : ∃ p, L[j]? = some p := ⟨_, List.getElem?_eq_getElem (by rw [HL.out.2, ← HN.out.1]; exact hlt)⟩
      have hpF : F.L[j]? = some (p.1, p.2.cel) := by rw [← HL.out.1, mapV_get, hp]; rfl
      have hkl := HLK.out j p hp
      have htx := HTX.out p (List.mem_of_getElem? hp)
      have hco := HOK.out.cel _ (List.mem_of_getElem? hpF)
      obtain ⟨ky, K, A, tc, tx, nm⟩ := p
      obtain ⟨hk64, htl, hnm, hkind⟩ := hco
      have hk64 : ky.length ≤ 64 := hk64
      have htl : tx.length ≤ 1048576 := htl
      have hnm : nm < 18446744073709551616 := hnm
      have hkind : K = 1 ∨ K = 2 := hkind
      obtain ⟨g, o, rfl, hkc⟩ := (SeesV.of_own (S := []) HKO.out (by simp)).get (j := j) (v := encStr ky) (by rw [List.getElem?_map, List.getElem?_map, hpF]; rfl)
      obtain ⟨key, hkey⟩ : ∃ key : ByteArray, key = ⟨ky.toArray⟩ := ⟨_, rfl⟩
      have hkc2 : wr.cell? ⟨g, o + j, none⟩ = some (.string key) := by rw [hkc, hkey]; try rfl
      have hlook := (HMAP.out wr HBw.out).run_look (k := key) (by rw [hkey]; show ky.toArray.size ≤ _; rw [List.size_toArray]; omega)
      have hlv : valAt (lk key.data.toList L) = .agg #[.int .u8 (K : Int), .slice A tx.length tc, .float .f64 nm] := by rw [hkey]; show valAt (lk ky L) = _; rw [hkl]; rfl
      rw [hlv] at hlook
      have hst := celsL_take F.L j hpF
      obtain ⟨lz, hlz⟩ : ∃ lz, lz = celL (ky, ⟨K, tx, nm⟩) := ⟨_, rfl⟩
      have hnx : l ++ lz = l6 ++ celsL (F.L.take (j + 1)) := by rw [hlz, hst, ← List.append_assoc, ← HLl.out]; rfl
      have hleT : (l ++ lz).length ≤ 100000000 := by
        have := celsL_le F.L (j + 1)
        have h2 := HF.out
        unfold foldL at h2
        rw [← HHEAD.out.1, List.length_append] at h2
        rw [hnx, List.length_append]; omega
      have LC := Lib.hid (by
        have := layCell_any key ky K A tc nm tx wr hkey ((htx.sees.below HBw.out)) (by omega) (by omega) (by rcases hkind with h | h <;> omega) hnm
        rw [← hlz] at this
        exact this : Calls Tryz.prog 36 #[.string key, .agg #[.int .u8 (K : Int), .slice A tx.length tc, .float .f64 nm]] wr (GivesR wr lz))
      obtain ⟨q0, -, -, -⟩ := CEL.out wr HBw.out
      have HNX := Lib.hid hnx
      have HLE := Lib.hid hleT
      have HLZ : Hid (0 < lz.length) := Lib.hid (by rw [hlz]; unfold celL; simp only [List.length_append, List.length_cons]; omega)
      clear hleT hnx hlz hst hlv hkc hkey hkind hnm htl hk64 htx hkl hpF hp
      go_wp2_with fail
      refine LC.out.mono ?_
      rintro e w12 ⟨A12, c12, rfl, own12, hb12⟩
      have S12 := Lib.hid (Sees.of_own own12)
      have O12 := Lib.hid (Own.below HS.out hb12 (Nat.le_refl _))
      have K12 := Lib.hid (Own.below HKO.out hb12 (Nat.le_refl _))
      have B12 := Lib.hid (HBw.out.trans (hb12.mono HBw.out.size))
      clear own12 hb12 LC hkc2 hlook q0
      have hlz : 0 < lz.length := HLZ.out
      go_wp2_with (first | (at_builtin; refine wpList_appB rfl _ _ 29 rfl w.heap.size 5 i (.int .u8 0) Tryz.underlying29 hi hz hsz hby rfl P l.length c l rfl O12.out A12 lz.length c12 lz hlz rfl S12.out ?d1 ?d2 ?_))
      case d1 => have := HLE.out; rw [List.length_append] at this; omega
      case d2 => exact B12.out.size
      intro A13 c13 w13 own13 hb13 hk13
      have K13 := Lib.hid (own_kept (by decide) O12.out K12.out hk13)
      have B13 := Lib.hid (B12.out.trans hb13)
      obtain ⟨N, hN⟩ : ∃ N, N = l.length + lz.length := ⟨_, rfl⟩
      rw [← hN] at own13 ⊢
      obtain rfl : N = (l ++ lz).length := by rw [hN, List.length_append]
      obtain ⟨l', hl'⟩ : ∃ l', l' = l ++ lz := ⟨_, rfl⟩
      rw [← hl'] at own13 ⊢
      have OW13 := Lib.hid own13
      have HNX2 := Lib.hid (hl'.trans HNX.out)
      clear own13 hb13 hk13 hN hl' hlz
      go_wp2
      go_roundw
      case rel => exact ⟨A13, c13, j + 1, l', rfl, by simp, by omega, HNX2, OW13, B13, K13⟩
      case measure => simp [intOf]; omega
    · obtain rfl : j = n' := by omega
      have hd : decide ((j : Int) < (j : Int)) = false := decide_eq_false (by omega)
      have hfin : l = foldL F := by
        rw [HLl.out, HHEAD.out.1]
        unfold foldL
        rw [List.take_of_length_le (by rw [← HN.out.1]; exact Nat.le_refl _)]
      have HFIN := Lib.hid hfin
      have HFL := Lib.hid (congrArg List.length hfin)
      clear hfin
      go_wp2
      go_ret
      refine ⟨P, c, (by show Ending.returned (Value.slice P l.length c) = .returned (Value.slice P (foldL F).length c); rw [HFL.out]), ?_, HBw.out⟩
      rw [← HFIN.out]
      exact HS.out
end
end Go.Proofs.YtmogoopkjkdkgaaGreat.Fol
