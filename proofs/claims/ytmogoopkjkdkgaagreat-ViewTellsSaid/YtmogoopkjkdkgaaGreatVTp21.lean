/- The document's fold: put, drop. The document's fold in memory. -/
import Derived.Test.YtmogoopkjkdkgaaGreatVTp20
namespace Go.Proofs.YtmogoopkjkdkgaaGreat.Fol
open Go Go.RowKit Go.Proofs.YtmogoopkjkdkgaaGreat.Words Go.Proofs.YtmogoopkjkdkgaaGreat.Enc Go.Proofs.YtmogoopkjkdkgaaGreat.Q Go.Proofs.YtmogoopkjkdkgaaGreat.Evt
set_option linter.unusedVariables false
set_option linter.unusedSimpArgs false

/-- What else the document's fold has: where its truths and numbers lie; the last one; the hash. -/
structure RH where
  Ja : Option Addr
  Jc : Nat
  Ra : Option Addr
  Rc : Nat
  Ha : Option Addr
  Hc : Nat
  T : Nat
  W : Nat
  M : Nat
def rv (La : Option Addr) (n lc : Nat) (h : RH) : Array Value := #[.slice La n lc, .slice h.Ja 64 h.Jc, .slice h.Ra 64 h.Rc, .slice h.Ha 64 h.Hc, .int .u64 (h.T : Int), .int .i64 (h.W : Int), .int .u64 (h.M : Int)]
def zrv : Array Value := #[.slice none 0 0, .slice none 0 0, .slice none 0 0, .slice none 0 0, .int .u64 0, .int .i64 0, .int .u64 0]
def zRC : Value := .agg #[.string ByteArray.empty, .int .u8 0, .slice none 0 0, .float .f64 0]
theorem infoRC : (Tryz.prog.info? 73).map (fun i => (i.zero, i.size, i.bytes)) = some (some zRC, 4, 56) := by kernel_rfl
theorem rv_cells {w : World} {b : Nat} {La : Option Addr} {n lc : Nat} {h : RH} {T : TypeId} (hb : w.heap[b]? = some (.cells (rv La n lc h) T (0, 0))) :
    w.cell? ⟨b, 0, none⟩ = some (.slice La n lc) ∧ w.cell? ⟨b, 1, none⟩ = some (.slice h.Ja 64 h.Jc) ∧ w.cell? ⟨b, 2, none⟩ = some (.slice h.Ra 64 h.Rc) ∧ w.cell? ⟨b, 3, none⟩ = some (.slice h.Ha 64 h.Hc) ∧
      w.cell? ⟨b, 4, none⟩ = some (.int .u64 (h.T : Int)) ∧ w.cell? ⟨b, 5, none⟩ = some (.int .i64 (h.W : Int)) ∧ w.cell? ⟨b, 6, none⟩ = some (.int .u64 (h.M : Int)) := by
  refine ⟨?_, ?_, ?_, ?_, ?_, ?_, ?_⟩ <;> (rw [cell_of_row w b _ _ _ _ hb]; rfl)
theorem boxesT (a b c : Array Value) (T1 T2 T3 : TypeId) (w W : World) (hW : Below (w.heap.size + 3) (((w.alloc (.cells a T1)).alloc (.cells b T2)).alloc (.cells c T3)) W) : Below w.heap.size w W ∧
    W.heap[w.heap.size]? = some (.cells a T1 (0, 0)) ∧ W.heap[w.heap.size + 1]? = some (.cells b T2 (0, 0)) ∧ W.heap[w.heap.size + 2]? = some (.cells c T3 (0, 0)) ∧ w.heap.size + 3 ≤ W.heap.size := by
  refine ⟨((((Below.refl _ _).alloc (Nat.le_refl _) _).alloc (by simp) _).alloc (by simp; omega) _).trans (hW.mono (by omega)), ?_, ?_, ?_, by have := hW.size; simpa using this⟩
  · rw [hW.block w.heap.size (by omega)]
    exact (Below.heap_alloc _ _ _ (by simp; omega)).trans ((Below.heap_alloc _ _ _ (by simp)).trans (heap_alloc_new w _))
  · rw [hW.block (w.heap.size + 1) (by omega)]
    have := heap_alloc_new (w.alloc (.cells a T1)) (.cells b T2)
    exact (Below.heap_alloc _ _ _ (by simp)).trans (by simpa using this)
  · rw [hW.block (w.heap.size + 2) (by omega)]
    have := heap_alloc_new ((w.alloc (.cells a T1)).alloc (.cells b T2)) (.cells c T3)
    simpa using this

section
variable {P : Program} {w : World} {ops : Array Oper} {rest : List Oper} {op : Oper} {a : Act} {Q : Exit → Act → World → Prop}
theorem wpList_sliceL (hgd : op.guard = none) (t : TypeId) (x lo : Operand) (ho : op.op = .slice t x (some lo) none none) (A : Option Addr) (n c J s : Nat) (hx : a.eval x = .slice A n c) (hlo : a.eval lo = .int .i64 (J : Int)) (hJ : J ≤ n)
    (ht : P.underlying t = some (.slice (P.elem t))) (hs : ∀ W, (sizeOf (P.elem t)).run P W = .ok s W)
    (h : ∀ A', (∀ b o, J < n → n ≤ c → A = some ⟨b, o, none⟩ → A' = some ⟨b, o + J * s, none⟩) → wpList P ops Q rest (a.put op.dst (.slice A' (n - J) (c - J))) w) : wpList P ops Q (op :: rest) a w := by
  refine wpList_plain hgd fun K hK => ?_
  have h1 : (Instr.slice t (.slice A n c) (some (.int .i64 (J : Int))) none none).run P w = .ok (sliced A J n c s) w := by
    rw [run_slice_l w t A n c ht .i64 (J : Int) (by omega) (by omega), hs]
    simp [Result.andThen]
  have h2 : (execOp a.eval op).run P w = .ok (.value (sliced A J n c s)) w := by
    unfold execOp
    simp only [ho, Option.map_some, Option.map_none, hx, hlo, Sem.run_bind, Sem.run_pure, run_sliceAt_slice w t _ _ _ _ ht, h1, Result.andThen_ok]
  unfold Oper.wp
  rw [h2]
  refine hK _ _ (h _ fun b o h3 h4 hA => ?_)
  rw [if_neg (by omega), hA]
  simp [add_plain]
end
theorem sizeRC (W : World) : (sizeOf (Tryz.prog.elem 55)).run Tryz.prog W = .ok 4 W := by kernel_rfl
theorem elemRC : Tryz.prog.underlying 55 = some (.slice (Tryz.prog.elem 55)) := by kernel_rfl
theorem own_cap4 {w : World} {base : Nat} {e : TypeId} {A : Option Addr} {n c : Nat} {xs : List Value} (h : w.ownsRow base e 4 (.slice A n c) n xs) : n ≤ c ∧ c ≤ 9223372036854775807 := by
  rcases h.2 with ⟨hv, rfl⟩ | ⟨g, cap, cur, hv, _, _, hnc, hm, _⟩
  · injection hv with _ _ h3
    omega
  · injection hv with _ _ h3
    subst h3
    unfold maxLen at hm
    omega
set_option maxRecDepth 100000 in
set_option maxHeartbeats 4000000 in
theorem put_any (La : Option Addr) (lc : Nat) (L : List (Key × RC)) (h : RH) (k : Key) (m : RC) (S : List Nat) (w : World) (hs : SeesV w S La (rowsR L)) (hn : L.length ≤ 1000000) (hc : L.length ≤ lc) (hc2 : lc ≤ 9223372036854775807) (hr : Rise L) (hS : ∀ x ∈ S, x < w.heap.size) :
    Calls Tryz.prog 88 #[.agg (rv La L.length lc h), .agg (rcCells (k, m)).toArray] w fun e w' => ∃ A' c', e = .returned (.agg (rv A' (ins k m L).length c' h)) ∧ SeesV w' S A' (rowsR (ins k m L)) ∧ (ins k m L).length ≤ c' ∧ c' ≤ 9223372036854775807 ∧ Below w.heap.size w w' := by
  have hsf := store_float Tryz.prog
  obtain ⟨i0, hi0, hz, hsz, hby⟩ := info_parts infoRC
  have HE := Lib.hid (ins_eq k m L)
  have FI := Lib.hid (fun (W : World) (hb : Below w.heap.size w W) => find_any La lc L k (.slice h.Ja 64 h.Jc) (.slice h.Ra 64 h.Rc) (.slice h.Ha 64 h.Hc) (.int .u64 (h.T : Int)) (.int .i64 (h.W : Int)) (.int .u64 (h.M : Int)) S W (hs.below hb) hn (by simp [Value.oneCell']))
  have HLE := idx_le k L
  have HTL : there k L = true → idx k L < L.length := fun ht => by
    unfold there at ht
    cases hg : L[idx k L]? with
    | none => rw [hg] at ht; cases ht
    | some p => exact (List.getElem?_eq_some_iff.1 hg).1
  obtain ⟨n, hnl⟩ : ∃ n, n = L.length := ⟨_, rfl⟩
  obtain ⟨I, hI⟩ : ∃ I, I = idx k L := ⟨_, rfl⟩
  obtain ⟨T, hT⟩ : ∃ T, T = there k L := ⟨_, rfl⟩
  rw [← hnl] at hn hc FI HLE HTL ⊢
  rw [← hI] at FI HE HLE HTL
  rw [← hT] at FI HE HTL
  obtain ⟨kv, hkv⟩ : ∃ kv : ByteArray, kv = ⟨k.toArray⟩ := ⟨_, rfl⟩
  have hrc : (rcCells (k, m)).toArray = #[.string kv, .int .u8 (m.kind : Int), .slice m.A m.text.length m.c, .float .f64 m.num] := by rw [hkv]; rfl
  have hkV : keyV k = .string kv := by rw [hkv]; rfl
  rw [hkV] at FI
  rw [hrc]
  have BX := Lib.hid (fun (W : World) hW => boxesT (rv La n lc h) #[.string kv, .int .u8 (m.kind : Int), .slice m.A m.text.length m.c, .float .f64 m.num] zrv 60 73 60 w W hW)
  unfold rv zrv at BX
  have HS := Lib.hid hs
  have HN := Lib.hid hnl
  have HRC := Lib.hid hrc
  have HSS := Lib.hid hS
  unfold rv
  clear hs hnl hI hT hkv hkV hrc hS hr
  go_enter Tryz.func88, Tryz.ntmps88
  go_wp2_with fail
  refine (FI.out _ ((((Below.refl _ _).alloc (Nat.le_refl _) _).alloc (by simp) _).alloc (by simp; omega) _)).mono ?_
  rintro e w1 ⟨rfl, hb1⟩
  obtain ⟨b1, g0, g1, g2, z1⟩ := BX.out w1 (by simpa using hb1)
  have HB1 := Lib.hid b1
  have HG := Lib.hid (And.intro g0 (And.intro g1 (And.intro g2 z1)))
  clear hb1 b1
  obtain ⟨p0, p1, p2, p3, p4, p5, p6⟩ := rv_cells (h := h) g0
  have hI1 : (I : Int) ≤ lc := by omega
  have s1 := (HS.out.below HB1.out).take (I * 4)
  clear g0 g1 g2
  go_wp2_with (first | (at_builtin; refine wpList_appV rfl _ _ 55 rfl (w.heap.size + 3) 73 i0 zRC 4 56 Tryz.underlying55 hi0 hz hsz hby rfl (by decide) none 0 0 [] rfl (World.ownsRow_nil _ _ _ _) La I lc ((rowsR L).take (I * 4)) rfl s1 ?c1 ?c2 ?c3 ?c4 ?c5 ?_))
  case c1 => rw [List.length_take, rowsR_len, ← HN.out]; omega
  case c2 => exact fun u hu => rowsR_one L u (List.mem_of_mem_take hu)
  case c3 => unfold maxLen; omega
  case c4 => omega
  case c5 => exact z1
  intro A2 c2 w2 own2 hb2
  have own2b : w2.ownsRow (w.heap.size + 3) 73 4 (.slice A2 I c2) I (rowsR (L.take I)) := by rw [rowsR_take]; simpa using own2
  have HB2 := Lib.hid (HB1.out.trans (hb2.mono (by omega)))
  have g0 := (hb2.block w.heap.size (by omega)).trans HG.out.1
  have g1 := (hb2.block (w.heap.size + 1) (by omega)).trans HG.out.2.1
  have g2 := (hb2.block (w.heap.size + 2) (by omega)).trans HG.out.2.2.1
  have z2 : w.heap.size + 3 ≤ w2.heap.size := Nat.le_trans z1 hb2.size
  have HG2 := Lib.hid (And.intro g0 (And.intro g1 (And.intro g2 z2)))
  have q0 : w2.cell? ⟨w.heap.size + 1, 0, none⟩ = some (.string kv) := by rw [cell_of_row w2 _ _ _ _ _ g1]; rfl
  have q1 : w2.cell? ⟨w.heap.size + 1, 1, none⟩ = some (.int .u8 (m.kind : Int)) := by rw [cell_of_row w2 _ _ _ _ _ g1]; rfl
  have q2 : w2.cell? ⟨w.heap.size + 1, 2, none⟩ = some (.slice m.A m.text.length m.c) := by rw [cell_of_row w2 _ _ _ _ _ g1]; rfl
  have q3 : w2.cell? ⟨w.heap.size + 1, 3, none⟩ = some (.float .f64 m.num) := by rw [cell_of_row w2 _ _ _ _ _ g1]; rfl
  have OW2 := Lib.hid (own2b.alloc (.cells #[.string kv, .int .u8 (m.kind : Int), .slice m.A m.text.length m.c, .float .f64 m.num] 73))
  have s2 : SeesV (w2.alloc (.cells #[.string kv, .int .u8 (m.kind : Int), .slice m.A m.text.length m.c, .float .f64 m.num] 73)) [] (some ⟨w2.heap.size, 0, none⟩) [.string kv, .int .u8 (m.kind : Int), .slice m.A m.text.length m.c, .float .f64 m.num] := fun _ => ⟨w2.heap.size, 0, rfl, by simp, fun j v hv => by
    rw [cell_of_row _ _ _ _ _ _ (heap_alloc_new w2 _), Nat.zero_add]
    simpa using hv⟩
  have hB2a := Lib.hid (HB2.out.alloc (HB2.out.size) (.cells #[.string kv, .int .u8 (m.kind : Int), .slice m.A m.text.length m.c, .float .f64 m.num] 73))
  clear own2 own2b hb2 g0 g1 g2 p0 p1 p2 p3 p4 p5 p6 s1
  have o2 := OW2.out
  go_wp2_with (first | (at_builtin; refine wpList_appV rfl _ _ 55 rfl (w.heap.size + 3) 73 i0 zRC 4 56 Tryz.underlying55 hi0 hz hsz hby rfl (by decide) A2 I c2 (rowsR (L.take I)) rfl o2 _ 1 1 [.string kv, .int .u8 (m.kind : Int), .slice m.A m.text.length m.c, .float .f64 m.num] rfl s2 rfl ?c2 ?c3 ?c4 ?c5 ?_))
  case c2 => intro u hu; simp at hu; rcases hu with rfl | rfl | rfl | rfl <;> rfl
  case c3 => unfold maxLen; omega
  case c4 => omega
  case c5 => simp; omega
  intro A3 c3 w3 own3 hb3
  have own3b : w3.ownsRow (w.heap.size + 3) 73 4 (.slice A3 (I + 1) c3) (I + 1) (rowsR (L.take I ++ [(k, m)])) := by
    have e1 : rcCells (k, m) = [.string kv, .int .u8 (m.kind : Int), .slice m.A m.text.length m.c, .float .f64 m.num] := congrArg Array.toList HRC.out
    have e2 : rowsR [(k, m)] = [.string kv, .int .u8 (m.kind : Int), .slice m.A m.text.length m.c, .float .f64 m.num] := by rw [← e1]; simp [rowsR]
    rw [rowsR_append, e2]
    exact own3
  have OWK := Lib.hid own3b
  have HB3 := Lib.hid (hB2a.out.trans (hb3.mono (by omega)))
  have hb23 := Lib.hid (((Below.refl w2.heap.size w2).alloc (Nat.le_refl _) (.cells #[.string kv, .int .u8 (m.kind : Int), .slice m.A m.text.length m.c, .float .f64 m.num] 73)))
  have z3 : w.heap.size + 3 ≤ w3.heap.size := by have := hb3.size; simp at this; omega
  have g30 := (hb3.block w.heap.size (by omega)).trans ((hb23.out.block w.heap.size (by omega)).trans HG2.out.1)
  have g32 := (hb3.block (w.heap.size + 2) (by omega)).trans ((hb23.out.block (w.heap.size + 2) (by omega)).trans HG2.out.2.2.1)
  have HG3 := Lib.hid (And.intro g30 g32)
  obtain ⟨p0, p1, p2, p3, p4, p5, p6⟩ := rv_cells (h := h) g30
  have s3 : ∀ {J : Nat} (A' : Option Addr), (∀ b o, J < (rowsR L).length → La = some ⟨b, o, none⟩ → A' = some ⟨b, o + J, none⟩) → SeesV w3 S A' ((rowsR L).drop J) := fun A' hA => (HS.out.below HB3.out).drop _ hA
  clear own3 hb3 g30 g32 q0 q1 q2 q3 s2 o2
  cases T with
  | true =>
    have hlt := HTL rfl
    have hw : IntKind.i64.wrap ((I : Int) + 1) = ((I + 1 : Nat) : Int) := by rw [IntKind.wrap_i64]; omega
    have hJ1 : ((I + 1 : Nat) : Int) ≤ n := by omega
    go_wp2_with (first | (refine wpList_sliceL rfl 55 (.tmp 30) (.tmp 31) rfl La n lc (I + 1) 4 rfl (by first | rfl | (simp [Act.eval]; done)) (by omega) elemRC sizeRC ?_))
    intro A5 hA5
    have s5 := s3 (J := (I + 1) * 4) A5 fun b o hk hA => by
      rw [rowsR_len, ← HN.out] at hk
      first | exact hA5 b o (by omega) hc hA | exact hA5 b o (by omega) hA
    clear hA5
    go_wp2_with (first | (at_builtin; refine wpList_appV rfl _ _ 55 rfl (w.heap.size + 3) 73 i0 zRC 4 56 Tryz.underlying55 hi0 hz hsz hby rfl (by decide) A3 (I + 1) c3 (rowsR (L.take I ++ [(k, m)])) rfl own3b A5 (n - (I + 1)) _ ((rowsR L).drop ((I + 1) * 4)) rfl s5 ?c1 ?c2 ?c3 ?c4 ?c5 ?_))
    case c1 => first | (rw [List.length_drop, rowsR_len, ← HN.out]; omega) | (rw [rowsR_len, ← HN.out]; omega)
    case c2 => exact fun u hu => rowsR_one L u (List.mem_of_mem_drop hu)
    case c3 => unfold maxLen; omega
    case c4 => omega
    case c5 => omega
    intro A4 c4 w4 own4 hb4
    have hres : rowsR (L.take I ++ [(k, m)]) ++ (rowsR L).drop ((I + 1) * 4) = rowsR (ins k m L) := by
      have he := HE.out
      simp only [if_true, Bool.false_eq_true, if_false, Nat.add_zero] at he
      rw [he, ← rowsR_drop, ← rowsR_append]
      try simp
    have hnum : I + 1 + (n - (I + 1)) = (ins k m L).length := by
      have := congrArg List.length hres
      rw [List.length_append, List.length_drop, rowsR_len, rowsR_len, rowsR_len] at this
      have hk0 : (L.take I ++ [(k, m)]).length = I + 1 := by have := OWK.out.1; rw [rowsR_len] at this; omega
      rw [hk0, ← HN.out] at this
      omega
    rw [hres] at own4
    obtain ⟨N, hNe⟩ : ∃ N, N = I + 1 + (n - (I + 1)) := ⟨_, rfl⟩
    rw [← hNe] at own4 hnum ⊢
    have HNUM := Lib.hid hnum
    clear hNe
    have HB4 := Lib.hid (HB3.out.trans (hb4.mono (by omega)))
    have z4 : w.heap.size + 3 ≤ w4.heap.size := Nat.le_trans z3 hb4.size
    have g40 := (hb4.block w.heap.size (by omega)).trans HG3.out.1
    have g42 := (hb4.block (w.heap.size + 1 + 1) (by omega)).trans HG3.out.2
    have r0 : w4.cell? ⟨w.heap.size, 0, none⟩ = some (.slice La n lc) := by rw [cell_of_row w4 _ _ _ _ _ g40]; rfl
    have f0 : w4.frozen? ⟨w.heap.size, 0, none⟩ = false := frozen_row0 g40
    have g50 : (w4.setCell ⟨w.heap.size, 0, none⟩ (.slice A4 N c4)).heap[w.heap.size]? = some (.cells #[.slice A4 N c4, .slice h.Ja 64 h.Jc, .slice h.Ra 64 h.Rc, .slice h.Ha 64 h.Hc, .int .u64 (h.T : Int), .int .i64 (h.W : Int), .int .u64 (h.M : Int)] 60 (0, 0)) := by rw [heapSame g40]; rfl
    have g52 : (w4.setCell ⟨w.heap.size, 0, none⟩ (.slice A4 N c4)).heap[w.heap.size + 1 + 1]? = some (.cells #[.slice none 0 0, .slice none 0 0, .slice none 0 0, .slice none 0 0, .int .u64 0, .int .i64 0, .int .u64 0] 60 (0, 0)) := (heapOther (by omega)).trans g42
    have OW4 := Lib.hid own4
    have HSL := Lib.hid (SeesV.of_own (S := w.heap.size :: (w.heap.size + 1 + 1) :: S) own4 fun x hx => by
      rcases List.mem_cons.1 hx with rfl | hx
      · omega
      · rcases List.mem_cons.1 hx with rfl | hx
        · omega
        · have := HSS.out x hx; omega)
    have HCP := Lib.hid (own_cap4 own4)
    clear own4 hb4 g40 g42 hnum hres s3 s5 p0 p1 p2 p3 p4 p5 p6 
    go_wp2_with (first
      | (refine wpList_getRow rfl 60 (.tmp 2) rfl w.heap.size 60 #[.slice A4 N c4, .slice h.Ja 64 h.Jc, .slice h.Ra 64 h.Rc, .slice h.Ha 64 h.Hc, .int .u64 (h.T : Int), .int .i64 (h.W : Int), .int .u64 (h.M : Int)] (0, 0) _ rfl g50 Tryz.underlying60 rfl (by kernel_rfl) ?_)
      | (refine wpList_putRow rfl 60 (.tmp 4) (.tmp 35) rfl (w.heap.size + 1 + 1) 60 #[.slice none 0 0, .slice none 0 0, .slice none 0 0, .slice none 0 0, .int .u64 0, .int .i64 0, .int .u64 0] #[.slice A4 N c4, .slice h.Ja 64 h.Jc, .slice h.Ra 64 h.Rc, .slice h.Ha 64 h.Hc, .int .u64 (h.T : Int), .int .i64 (h.W : Int), .int .u64 (h.M : Int)] rfl rfl g52 (by kernel_rfl) rfl (by simp [Value.oneCell']) ?_))
    intro w6 g7 hb6
    obtain ⟨t0, t1, t2, t3, t4, t5, t6⟩ := rv_cells (h := h) g7
    have HB6 := Lib.hid (Below.beside HB4.out ((((Beside.refl [w.heap.size, w.heap.size + 1 + 1] _).setCell (p := ⟨w.heap.size, 0, none⟩) (by simp) (.slice A4 N c4)).trans hb6 fun x hx => .inl (by simp at hx; simp [hx]))) HB4.out.size (fun x hx => by simp at hx; omega))
    have HS6 := Lib.hid (HSL.out.beside (((Beside.refl [w.heap.size, w.heap.size + 1 + 1] _).setCell (p := ⟨w.heap.size, 0, none⟩) (by simp) (.slice A4 N c4)).trans hb6 fun x hx => .inl (by simp at hx; simp [hx])) (fun x hx => .inl (by simp at hx; rcases hx with rfl | rfl <;> simp)) |>.wider fun x hx => .inl (by simp [hx]) : SeesV w6 S A4 (rowsR (ins k m L)))
    go_wp2
    refine bodyPost_ret (v := .agg #[.slice A4 N c4, .slice h.Ja 64 h.Jc, .slice h.Ra 64 h.Rc, .slice h.Ha 64 h.Hc, .int .u64 (h.T : Int), .int .i64 (h.W : Int), .int .u64 (h.M : Int)]) (by simp [results, Tryz.results88, go_sem, t0, t1, t2, t3, t4, t5, t6]) rfl ⟨A4, c4, ?_, HS6.out, ?_, HCP.out.2, HB6.out⟩
    · rw [← HNUM.out]
    · rw [← HNUM.out]; exact HCP.out.1
  | false =>
    have hJ1 : (I : Int) ≤ n := by omega
    go_wp2_with (first | (refine wpList_sliceL rfl 55 (.tmp 30) (.tmp 31) rfl La n lc (I) 4 rfl (by first | rfl | (simp [Act.eval]; done)) (by omega) elemRC sizeRC ?_))
    intro A5 hA5
    have s5 := s3 (J := (I) * 4) A5 fun b o hk hA => by
      rw [rowsR_len, ← HN.out] at hk
      first | exact hA5 b o (by omega) hc hA | exact hA5 b o (by omega) hA
    clear hA5
    go_wp2_with (first | (at_builtin; refine wpList_appV rfl _ _ 55 rfl (w.heap.size + 3) 73 i0 zRC 4 56 Tryz.underlying55 hi0 hz hsz hby rfl (by decide) A3 (I + 1) c3 (rowsR (L.take I ++ [(k, m)])) rfl own3b A5 (n - (I)) _ ((rowsR L).drop ((I) * 4)) rfl s5 ?c1 ?c2 ?c3 ?c4 ?c5 ?_))
    case c1 => first | (rw [List.length_drop, rowsR_len, ← HN.out]; omega) | (rw [rowsR_len, ← HN.out]; omega)
    case c2 => exact fun u hu => rowsR_one L u (List.mem_of_mem_drop hu)
    case c3 => unfold maxLen; omega
    case c4 => omega
    case c5 => omega
    intro A4 c4 w4 own4 hb4
    have hres : rowsR (L.take I ++ [(k, m)]) ++ (rowsR L).drop ((I) * 4) = rowsR (ins k m L) := by
      have he := HE.out
      simp only [if_true, Bool.false_eq_true, if_false, Nat.add_zero] at he
      rw [he, ← rowsR_drop, ← rowsR_append]
      try simp
    have hnum : I + 1 + (n - (I)) = (ins k m L).length := by
      have := congrArg List.length hres
      rw [List.length_append, List.length_drop, rowsR_len, rowsR_len, rowsR_len] at this
      have hk0 : (L.take I ++ [(k, m)]).length = I + 1 := by have := OWK.out.1; rw [rowsR_len] at this; omega
      rw [hk0, ← HN.out] at this
      omega
    rw [hres] at own4
    obtain ⟨N, hNe⟩ : ∃ N, N = I + 1 + (n - (I)) := ⟨_, rfl⟩
    rw [← hNe] at own4 hnum ⊢
    have HNUM := Lib.hid hnum
    clear hNe
    have HB4 := Lib.hid (HB3.out.trans (hb4.mono (by omega)))
    have z4 : w.heap.size + 3 ≤ w4.heap.size := Nat.le_trans z3 hb4.size
    have g40 := (hb4.block w.heap.size (by omega)).trans HG3.out.1
    have g42 := (hb4.block (w.heap.size + 1 + 1) (by omega)).trans HG3.out.2
    have r0 : w4.cell? ⟨w.heap.size, 0, none⟩ = some (.slice La n lc) := by rw [cell_of_row w4 _ _ _ _ _ g40]; rfl
    have f0 : w4.frozen? ⟨w.heap.size, 0, none⟩ = false := frozen_row0 g40
    have g50 : (w4.setCell ⟨w.heap.size, 0, none⟩ (.slice A4 N c4)).heap[w.heap.size]? = some (.cells #[.slice A4 N c4, .slice h.Ja 64 h.Jc, .slice h.Ra 64 h.Rc, .slice h.Ha 64 h.Hc, .int .u64 (h.T : Int), .int .i64 (h.W : Int), .int .u64 (h.M : Int)] 60 (0, 0)) := by rw [heapSame g40]; rfl
    have g52 : (w4.setCell ⟨w.heap.size, 0, none⟩ (.slice A4 N c4)).heap[w.heap.size + 1 + 1]? = some (.cells #[.slice none 0 0, .slice none 0 0, .slice none 0 0, .slice none 0 0, .int .u64 0, .int .i64 0, .int .u64 0] 60 (0, 0)) := (heapOther (by omega)).trans g42
    have OW4 := Lib.hid own4
    have HSL := Lib.hid (SeesV.of_own (S := w.heap.size :: (w.heap.size + 1 + 1) :: S) own4 fun x hx => by
      rcases List.mem_cons.1 hx with rfl | hx
      · omega
      · rcases List.mem_cons.1 hx with rfl | hx
        · omega
        · have := HSS.out x hx; omega)
    have HCP := Lib.hid (own_cap4 own4)
    clear own4 hb4 g40 g42 hnum hres s3 s5 p0 p1 p2 p3 p4 p5 p6 
    go_wp2_with (first
      | (refine wpList_getRow rfl 60 (.tmp 2) rfl w.heap.size 60 #[.slice A4 N c4, .slice h.Ja 64 h.Jc, .slice h.Ra 64 h.Rc, .slice h.Ha 64 h.Hc, .int .u64 (h.T : Int), .int .i64 (h.W : Int), .int .u64 (h.M : Int)] (0, 0) _ rfl g50 Tryz.underlying60 rfl (by kernel_rfl) ?_)
      | (refine wpList_putRow rfl 60 (.tmp 4) (.tmp 35) rfl (w.heap.size + 1 + 1) 60 #[.slice none 0 0, .slice none 0 0, .slice none 0 0, .slice none 0 0, .int .u64 0, .int .i64 0, .int .u64 0] #[.slice A4 N c4, .slice h.Ja 64 h.Jc, .slice h.Ra 64 h.Rc, .slice h.Ha 64 h.Hc, .int .u64 (h.T : Int), .int .i64 (h.W : Int), .int .u64 (h.M : Int)] rfl rfl g52 (by kernel_rfl) rfl (by simp [Value.oneCell']) ?_))
    intro w6 g7 hb6
    obtain ⟨t0, t1, t2, t3, t4, t5, t6⟩ := rv_cells (h := h) g7
    have HB6 := Lib.hid (Below.beside HB4.out ((((Beside.refl [w.heap.size, w.heap.size + 1 + 1] _).setCell (p := ⟨w.heap.size, 0, none⟩) (by simp) (.slice A4 N c4)).trans hb6 fun x hx => .inl (by simp at hx; simp [hx]))) HB4.out.size (fun x hx => by simp at hx; omega))
    have HS6 := Lib.hid (HSL.out.beside (((Beside.refl [w.heap.size, w.heap.size + 1 + 1] _).setCell (p := ⟨w.heap.size, 0, none⟩) (by simp) (.slice A4 N c4)).trans hb6 fun x hx => .inl (by simp at hx; simp [hx])) (fun x hx => .inl (by simp at hx; rcases hx with rfl | rfl <;> simp)) |>.wider fun x hx => .inl (by simp [hx]) : SeesV w6 S A4 (rowsR (ins k m L)))
    go_wp2
    refine bodyPost_ret (v := .agg #[.slice A4 N c4, .slice h.Ja 64 h.Jc, .slice h.Ra 64 h.Rc, .slice h.Ha 64 h.Hc, .int .u64 (h.T : Int), .int .i64 (h.W : Int), .int .u64 (h.M : Int)]) (by simp [results, Tryz.results88, go_sem, t0, t1, t2, t3, t4, t5, t6]) rfl ⟨A4, c4, ?_, HS6.out, ?_, HCP.out.2, HB6.out⟩
    · rw [← HNUM.out]
    · rw [← HNUM.out]; exact HCP.out.1

theorem boxes2T (a b : Array Value) (T1 T2 : TypeId) (w W : World) (hW : Below (w.heap.size + 2) ((w.alloc (.cells a T1)).alloc (.cells b T2)) W) : Below w.heap.size w W ∧
    W.heap[w.heap.size]? = some (.cells a T1 (0, 0)) ∧ W.heap[w.heap.size + 1]? = some (.cells b T2 (0, 0)) ∧ w.heap.size + 2 ≤ W.heap.size := by
  refine ⟨(((Below.refl _ _).alloc (Nat.le_refl _) _).alloc (by simp) _).trans (hW.mono (by omega)), ?_, ?_, by have := hW.size; simpa using this⟩
  · rw [hW.block w.heap.size (by omega)]
    exact (Below.heap_alloc _ _ _ (by simp)).trans (heap_alloc_new w _)
  · rw [hW.block (w.heap.size + 1) (by omega)]
    have := heap_alloc_new (w.alloc (.cells a T1)) (.cells b T2)
    simpa using this
set_option maxRecDepth 100000 in
set_option maxHeartbeats 4000000 in
theorem dropK_any (La : Option Addr) (lc : Nat) (L : List (Key × RC)) (h : RH) (k : Key) (S : List Nat) (w : World) (hs : SeesV w S La (rowsR L)) (hn : L.length ≤ 1000000) (hc : L.length ≤ lc) (hc2 : lc ≤ 9223372036854775807) (hr : Rise L) (hS : ∀ x ∈ S, x < w.heap.size) :
    Calls Tryz.prog 91 #[.agg (rv La L.length lc h), keyV k] w fun e w' => ∃ A' c', e = .returned (.agg (rv A' (del k L).length c' h)) ∧ SeesV w' S A' (rowsR (del k L)) ∧ (del k L).length ≤ c' ∧ c' ≤ 9223372036854775807 ∧ Below w.heap.size w w' := by
  obtain ⟨i0, hi0, hz, hsz, hby⟩ := info_parts infoRC
  have HE := Lib.hid (del_eq k hr)
  have FI := Lib.hid (fun (W : World) (hb : Below w.heap.size w W) => find_any La lc L k (.slice h.Ja 64 h.Jc) (.slice h.Ra 64 h.Rc) (.slice h.Ha 64 h.Hc) (.int .u64 (h.T : Int)) (.int .i64 (h.W : Int)) (.int .u64 (h.M : Int)) S W (hs.below hb) hn (by simp [Value.oneCell']))
  have HLE := idx_le k L
  have HTL : there k L = true → idx k L < L.length := fun ht => by
    unfold there at ht
    cases hg : L[idx k L]? with
    | none => rw [hg] at ht; cases ht
    | some p => exact (List.getElem?_eq_some_iff.1 hg).1
  obtain ⟨n, hnl⟩ : ∃ n, n = L.length := ⟨_, rfl⟩
  obtain ⟨I, hI⟩ : ∃ I, I = idx k L := ⟨_, rfl⟩
  obtain ⟨T, hT⟩ : ∃ T, T = there k L := ⟨_, rfl⟩
  rw [← hnl] at hn hc FI HLE HTL ⊢
  rw [← hI] at FI HE HLE HTL
  rw [← hT] at FI HE HTL
  obtain ⟨kv, hkv⟩ : ∃ kv : ByteArray, kv = ⟨k.toArray⟩ := ⟨_, rfl⟩
  have hkV : keyV k = .string kv := by rw [hkv]; rfl
  rw [hkV] at FI ⊢
  have BX := Lib.hid (fun (W : World) hW => boxes2T (rv La n lc h) zrv 60 60 w W hW)
  unfold rv zrv at BX
  have HS := Lib.hid hs
  have HN := Lib.hid hnl
  have HSS := Lib.hid hS
  unfold rv
  clear hs hnl hI hT hkv hkV hS hr
  go_enter Tryz.func91, Tryz.ntmps91
  go_wp2_with fail
  refine (FI.out _ (((Below.refl _ _).alloc (Nat.le_refl _) _).alloc (by simp) _)).mono ?_
  rintro e w1 ⟨rfl, hb1⟩
  obtain ⟨b1, g0, g2, z1⟩ := BX.out w1 (by simpa using hb1)
  have HB1 := Lib.hid b1
  have HG := Lib.hid (And.intro g0 (And.intro g2 z1))
  clear hb1 b1
  obtain ⟨p0, p1, p2, p3, p4, p5, p6⟩ := rv_cells (h := h) g0
  cases T with
  | false =>
    have he : del k L = L := by have := HE.out; simpa using this
    have HEL := Lib.hid he
    have HSL := Lib.hid (HS.out.below HB1.out)
    clear HE he
    go_wp2_with (first
      | (refine wpList_getRow rfl 60 (.tmp 2) rfl w.heap.size 60 #[.slice La n lc, .slice h.Ja 64 h.Jc, .slice h.Ra 64 h.Rc, .slice h.Ha 64 h.Hc, .int .u64 (h.T : Int), .int .i64 (h.W : Int), .int .u64 (h.M : Int)] (0, 0) _ rfl g0 Tryz.underlying60 rfl (by kernel_rfl) ?_)
      | (refine wpList_putRow rfl 60 (.tmp 4) (.tmp 29) rfl (w.heap.size + 1) 60 #[.slice none 0 0, .slice none 0 0, .slice none 0 0, .slice none 0 0, .int .u64 0, .int .i64 0, .int .u64 0] #[.slice La n lc, .slice h.Ja 64 h.Jc, .slice h.Ra 64 h.Rc, .slice h.Ha 64 h.Hc, .int .u64 (h.T : Int), .int .i64 (h.W : Int), .int .u64 (h.M : Int)] rfl rfl g2 (by kernel_rfl) rfl (by simp [Value.oneCell']) ?_))
    intro w6 g7 hb6
    obtain ⟨t0, t1, t2, t3, t4, t5, t6⟩ := rv_cells (h := h) g7
    have HB6 := Lib.hid (Below.beside HB1.out hb6 HB1.out.size (fun x hx => by simp at hx; omega))
    have HS6 := Lib.hid (HSL.out)
    have HSW : Hid (SeesV w6 S La (rowsR L)) := Lib.hid (HS.out.below HB6.out)
    clear p0 p1 p2 p3 p4 p5 p6 g0 g2
    go_wp2
    refine bodyPost_ret (v := .agg #[.slice La n lc, .slice h.Ja 64 h.Jc, .slice h.Ra 64 h.Rc, .slice h.Ha 64 h.Hc, .int .u64 (h.T : Int), .int .i64 (h.W : Int), .int .u64 (h.M : Int)]) (by simp [results, Tryz.results91, go_sem, t0, t1, t2, t3, t4, t5, t6]) rfl ?_
    rw [HEL.out, ← HN.out]
    exact ⟨La, lc, rfl, HSW.out, hc, hc2, HB6.out⟩
  | true =>
    have hlt := HTL rfl
    have hI1 : (I : Int) ≤ lc := by omega
    have s1 := (HS.out.below HB1.out).take (I * 4)
    clear g0 g2
    go_wp2_with (first | (at_builtin; refine wpList_appV rfl _ _ 55 rfl (w.heap.size + 2) 73 i0 zRC 4 56 Tryz.underlying55 hi0 hz hsz hby rfl (by decide) none 0 0 [] rfl (World.ownsRow_nil _ _ _ _) La I lc ((rowsR L).take (I * 4)) rfl s1 ?c1 ?c2 ?c3 ?c4 ?c5 ?_))
    case c1 => rw [List.length_take, rowsR_len, ← HN.out]; omega
    case c2 => exact fun u hu => rowsR_one L u (List.mem_of_mem_take hu)
    case c3 => unfold maxLen; omega
    case c4 => omega
    case c5 => exact z1
    intro A3 c3 w3 own2 hb2
    have own3b : w3.ownsRow (w.heap.size + 2) 73 4 (.slice A3 I c3) I (rowsR (L.take I)) := by rw [rowsR_take]; simpa using own2
    have OWK := Lib.hid own3b
    have HB3 := Lib.hid (HB1.out.trans (hb2.mono (by omega)))
    have z3 : w.heap.size + 2 ≤ w3.heap.size := Nat.le_trans z1 hb2.size
    have g30 := (hb2.block w.heap.size (by omega)).trans HG.out.1
    have g32 := (hb2.block (w.heap.size + 1) (by omega)).trans HG.out.2.1
    have HG3 := Lib.hid (And.intro g30 g32)
    clear p0 p1 p2 p3 p4 p5 p6 s1 own2 hb2
    obtain ⟨p0, p1, p2, p3, p4, p5, p6⟩ := rv_cells (h := h) g30
    have s3 : ∀ {J : Nat} (A' : Option Addr), (∀ b o, J < (rowsR L).length → La = some ⟨b, o, none⟩ → A' = some ⟨b, o + J, none⟩) → SeesV w3 S A' ((rowsR L).drop J) := fun A' hA => (HS.out.below HB3.out).drop _ hA
    clear g30 g32
    have hw : IntKind.i64.wrap ((I : Int) + 1) = ((I + 1 : Nat) : Int) := by rw [IntKind.wrap_i64]; omega
    have hJ1 : ((I + 1 : Nat) : Int) ≤ n := by omega
    go_wp2_with (first | (refine wpList_sliceL rfl 55 (.tmp 23) (.tmp 25) rfl La n lc (I + 1) 4 rfl (by first | rfl | (simp [Act.eval]; done)) (by omega) elemRC sizeRC ?_))
    intro A5 hA5
    have s5 := s3 (J := (I + 1) * 4) A5 fun b o hk hA => by
      rw [rowsR_len, ← HN.out] at hk
      first | exact hA5 b o (by omega) hc hA | exact hA5 b o (by omega) hA
    clear hA5
    go_wp2_with (first | (at_builtin; refine wpList_appV rfl _ _ 55 rfl (w.heap.size + 2) 73 i0 zRC 4 56 Tryz.underlying55 hi0 hz hsz hby rfl (by decide) A3 (I) c3 (rowsR (L.take I)) rfl own3b A5 (n - (I + 1)) _ ((rowsR L).drop ((I + 1) * 4)) rfl s5 ?c1 ?c2 ?c3 ?c4 ?c5 ?_))
    case c1 => first | (rw [List.length_drop, rowsR_len, ← HN.out]; omega) | (rw [rowsR_len, ← HN.out]; omega)
    case c2 => exact fun u hu => rowsR_one L u (List.mem_of_mem_drop hu)
    case c3 => unfold maxLen; omega
    case c4 => omega
    case c5 => omega
    intro A4 c4 w4 own4 hb4
    have hres : rowsR (L.take I) ++ (rowsR L).drop ((I + 1) * 4) = rowsR (del k L) := by
      have he := HE.out
      simp only [if_true, Bool.false_eq_true, if_false, Nat.add_zero] at he
      rw [he, ← rowsR_drop, ← rowsR_append]
      try simp
    have hnum : I + (n - (I + 1)) = (del k L).length := by
      have := congrArg List.length hres
      rw [List.length_append, List.length_drop, rowsR_len, rowsR_len, rowsR_len] at this
      have hk0 : (L.take I).length = I := by have := OWK.out.1; rw [rowsR_len] at this; omega
      rw [hk0, ← HN.out] at this
      omega
    rw [hres] at own4
    obtain ⟨N, hNe⟩ : ∃ N, N = I + (n - (I + 1)) := ⟨_, rfl⟩
    rw [← hNe] at own4 hnum ⊢
    have HNUM := Lib.hid hnum
    clear hNe
    have HB4 := Lib.hid (HB3.out.trans (hb4.mono (by omega)))
    have z4 : w.heap.size + 2 ≤ w4.heap.size := Nat.le_trans z3 hb4.size
    have g40 := (hb4.block w.heap.size (by omega)).trans HG3.out.1
    have g42 := (hb4.block (w.heap.size + 1) (by omega)).trans HG3.out.2
    have r0 : w4.cell? ⟨w.heap.size, 0, none⟩ = some (.slice La n lc) := by rw [cell_of_row w4 _ _ _ _ _ g40]; rfl
    have f0 : w4.frozen? ⟨w.heap.size, 0, none⟩ = false := frozen_row0 g40
    have g50 : (w4.setCell ⟨w.heap.size, 0, none⟩ (.slice A4 N c4)).heap[w.heap.size]? = some (.cells #[.slice A4 N c4, .slice h.Ja 64 h.Jc, .slice h.Ra 64 h.Rc, .slice h.Ha 64 h.Hc, .int .u64 (h.T : Int), .int .i64 (h.W : Int), .int .u64 (h.M : Int)] 60 (0, 0)) := by rw [heapSame g40]; rfl
    have g52 : (w4.setCell ⟨w.heap.size, 0, none⟩ (.slice A4 N c4)).heap[w.heap.size + 1]? = some (.cells #[.slice none 0 0, .slice none 0 0, .slice none 0 0, .slice none 0 0, .int .u64 0, .int .i64 0, .int .u64 0] 60 (0, 0)) := (heapOther (by omega)).trans g42
    have OW4 := Lib.hid own4
    have HSL := Lib.hid (SeesV.of_own (S := w.heap.size :: (w.heap.size + 1) :: S) own4 fun x hx => by
      rcases List.mem_cons.1 hx with rfl | hx
      · omega
      · rcases List.mem_cons.1 hx with rfl | hx
        · omega
        · have := HSS.out x hx; omega)
    have HCP := Lib.hid (own_cap4 own4)
    clear own4 hb4 g40 g42 hnum hres s3 s5 p0 p1 p2 p3 p4 p5 p6 
    go_wp2_with (first
      | (refine wpList_getRow rfl 60 (.tmp 2) rfl w.heap.size 60 #[.slice A4 N c4, .slice h.Ja 64 h.Jc, .slice h.Ra 64 h.Rc, .slice h.Ha 64 h.Hc, .int .u64 (h.T : Int), .int .i64 (h.W : Int), .int .u64 (h.M : Int)] (0, 0) _ rfl g50 Tryz.underlying60 rfl (by kernel_rfl) ?_)
      | (refine wpList_putRow rfl 60 (.tmp 4) (.tmp 29) rfl (w.heap.size + 1) 60 #[.slice none 0 0, .slice none 0 0, .slice none 0 0, .slice none 0 0, .int .u64 0, .int .i64 0, .int .u64 0] #[.slice A4 N c4, .slice h.Ja 64 h.Jc, .slice h.Ra 64 h.Rc, .slice h.Ha 64 h.Hc, .int .u64 (h.T : Int), .int .i64 (h.W : Int), .int .u64 (h.M : Int)] rfl rfl g52 (by kernel_rfl) rfl (by simp [Value.oneCell']) ?_))
    intro w6 g7 hb6
    obtain ⟨t0, t1, t2, t3, t4, t5, t6⟩ := rv_cells (h := h) g7
    have HB6 := Lib.hid (Below.beside HB4.out ((((Beside.refl [w.heap.size, w.heap.size + 1] _).setCell (p := ⟨w.heap.size, 0, none⟩) (by simp) (.slice A4 N c4)).trans hb6 fun x hx => .inl (by simp at hx; simp [hx]))) HB4.out.size (fun x hx => by simp at hx; omega))
    have HS6 := Lib.hid (HSL.out.beside (((Beside.refl [w.heap.size, w.heap.size + 1] _).setCell (p := ⟨w.heap.size, 0, none⟩) (by simp) (.slice A4 N c4)).trans hb6 fun x hx => .inl (by simp at hx; simp [hx])) (fun x hx => .inl (by simp at hx; rcases hx with rfl | rfl <;> simp)) |>.wider fun x hx => .inl (by simp [hx]) : SeesV w6 S A4 (rowsR (del k L)))
    go_wp2
    refine bodyPost_ret (v := .agg #[.slice A4 N c4, .slice h.Ja 64 h.Jc, .slice h.Ra 64 h.Rc, .slice h.Ha 64 h.Hc, .int .u64 (h.T : Int), .int .i64 (h.W : Int), .int .u64 (h.M : Int)]) (by simp [results, Tryz.results91, go_sem, t0, t1, t2, t3, t4, t5, t6]) rfl ⟨A4, c4, ?_, HS6.out, ?_, HCP.out.2, HB6.out⟩
    · rw [← HNUM.out]
    · rw [← HNUM.out]; exact HCP.out.1
end Go.Proofs.YtmogoopkjkdkgaaGreat.Fol
namespace Go.Proofs.YtmogoopkjkdkgaaGreat.Fol
open Go Go.RowKit Go.Proofs.YtmogoopkjkdkgaaGreat.Words Go.Proofs.YtmogoopkjkdkgaaGreat.Enc Go.Proofs.YtmogoopkjkdkgaaGreat.Q Go.Proofs.YtmogoopkjkdkgaaGreat.Evt
set_option linter.unusedVariables false
set_option linter.unusedSimpArgs false

theorem wp_then {P : Program} {c : Code} {K K' : Act → World → Prop} {Q' : Exit → Act → World → Prop} {a : Act} {w : World} (hq : ∀ a w, K a w → K' a w) (h : c.wp P (Exit.then K Q') a w) : c.wp P (Exit.then K' Q') a w :=
  Code.wp_mono (fun e a w he => by cases e <;> first | exact hq _ _ he | exact he) h

/-- A cell's text in the document's list. -/
structure TextR (w : World) (S : List Nat) (m : RC) : Prop where
  sees : SeesV w S m.A (cs m.text)
  num : qb m.num < 18446744073709551616
/-- The document's fold in memory, outside S. -/
structure RefAt (w : World) (S : List Nat) (La : Option Addr) (lc : Nat) (L : List (Key × RC)) (h : RH) (F : Fo) : Prop where
  rows : SeesV w S La (rowsR L)
  cap : L.length ≤ lc
  cap2 : lc ≤ 9223372036854775807
  texts : ∀ p ∈ L, TextR w S p.2
  cells : mapV RC.cel L = F.L
  J : SeesV w S h.Ja (bs F.J)
  R : SeesV w S h.Ra (bs F.R)
  H : SeesV w S h.Ha (Vec.us F.H)
  jc : 64 ≤ h.Jc ∧ h.Jc ≤ 9223372036854775807
  rc : 64 ≤ h.Rc ∧ h.Rc ≤ 9223372036854775807
  hc : 64 ≤ h.Hc ∧ h.Hc ≤ 9223372036854775807
  T : h.T = F.time
  W : h.W = F.wr
  M : h.M = F.mark
section
variable {w w' : World} {S : List Nat} {La : Option Addr} {lc : Nat} {L : List (Key × RC)} {h : RH} {F : Fo}
theorem TextR.beside {m : RC} {S1 : List Nat} (t : TextR w S m) (hb : Beside S1 w w') (hS : ∀ x ∈ S1, x ∈ S ∨ w.heap.size ≤ x) : TextR w' S m := ⟨t.sees.beside hb hS, t.num⟩
theorem TextR.wider {m : RC} {S1 : List Nat} (t : TextR w S m) (hS : ∀ x ∈ S1, x ∈ S ∨ w.heap.size ≤ x) : TextR w S1 m := ⟨t.sees.wider hS, t.num⟩
theorem RefAt.beside {S1 : List Nat} (r : RefAt w S La lc L h F) (hb : Beside S1 w w') (hS : ∀ x ∈ S1, x ∈ S ∨ w.heap.size ≤ x) : RefAt w' S La lc L h F :=
  ⟨r.rows.beside hb hS, r.cap, r.cap2, fun p hp => (r.texts p hp).beside hb hS, r.cells, r.J.beside hb hS, r.R.beside hb hS, r.H.beside hb hS, r.jc, r.rc, r.hc, r.T, r.W, r.M⟩
theorem RefAt.below (r : RefAt w S La lc L h F) (hb : Below w.heap.size w w') : RefAt w' S La lc L h F := r.beside (S1 := []) (.of_below hb _) fun x hx => by cases hx
theorem RefAt.wider {S1 : List Nat} (r : RefAt w S La lc L h F) (hS : ∀ x ∈ S1, x ∈ S ∨ w.heap.size ≤ x) : RefAt w S1 La lc L h F :=
  ⟨r.rows.wider hS, r.cap, r.cap2, fun p hp => (r.texts p hp).wider hS, r.cells, r.J.wider hS, r.R.wider hS, r.H.wider hS, r.jc, r.rc, r.hc, r.T, r.W, r.M⟩
end

end Go.Proofs.YtmogoopkjkdkgaaGreat.Fol
