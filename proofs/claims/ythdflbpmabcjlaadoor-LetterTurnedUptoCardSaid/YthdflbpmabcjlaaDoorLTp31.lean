/- Layer 16: the law LetterTurned. Layer 16: a draft among the arguments: what the bound gives of it. Structs of thirteen one-cell fields among the arguments. -/
import Derived.Deep.Matrix
import Derived.Lib.SmallJoins
import Derived.ShutString
import Derived.WalkLawsBesides
import Derived.Laws.Cover2
import Derived.SizedLaws
import Derived.ChangeSlices
import Derived.Test.YthdflbpmabcjlaaDoorLTp12
import Derived.Test.YthdflbpmabcjlaaDoorLTp16
import Derived.Test.YthdflbpmabcjlaaDoorLTp17
import Derived.Test.YthdflbpmabcjlaaDoorLTp18
import Derived.Test.YthdflbpmabcjlaaDoorLTp19
import Derived.Test.YthdflbpmabcjlaaDoorLTp25
import Derived.Test.YthdflbpmabcjlaaDoorLTp26
import Derived.Test.YthdflbpmabcjlaaDoorLTp30
namespace Go.Proofs.YthdflbpmabcjlaaDoor.Lt
open Go Go.RowKit Go.Proofs.YthdflbpmabcjlaaDoor.Words Go.Proofs.YthdflbpmabcjlaaDoor.Enc Go.Proofs.YthdflbpmabcjlaaDoor.Evt Go.Proofs.YthdflbpmabcjlaaDoor.Made Go.Proofs.YthdflbpmabcjlaaDoor.Seg Go.Proofs.YthdflbpmabcjlaaDoor.Chk
set_option linter.unusedVariables false
set_option linter.unusedSimpArgs false

theorem letterLt_any (w : World) (d : Dr) (lh : List Nat) (S : List Mtx.RowS) (le : List Nat) (lb : List UInt8) (h : DrAt w d lh S le lb) :
    Calls Tryd.prog 8 #[.agg (drV d)] w (LetGives w) := by
  have hk : 1 + d.kd % 7 = 1 ∨ 1 + d.kd % 7 = 2 ∨ 1 + d.kd % 7 = 3 ∨ 1 + d.kd % 7 = 4 ∨ 1 + d.kd % 7 = 5 ∨ 1 + d.kd % 7 = 6 ∨ 1 + d.kd % 7 = 7 := by omega
  rcases hk with hk | hk | hk | hk | hk | hk | hk
  · exact letter_k1 w d lh S le lb h hk
  · exact letter_k2 w d lh S le lb h hk
  · exact letter_k3 w d lh S le lb h hk
  · exact letter_k4 w d lh S le lb h hk
  · exact letter_k5 w d lh S le lb h hk
  · exact letter_k6 w d lh S le lb h hk
  · exact letter_k7 w d lh S le lb h hk
section
variable {P : Program}
/-- append onto bytes of which the slice leaves no room: in a new block. -/
theorem run_full {w : World} (t ty e : TypeId) (i : TypeInfo) (z : Value) (ht : P.underlying t = some (.slice e)) (hi : P.info? e = some i) (hz : i.zero = some z)
    (hsize : i.size = 1) (hby : i.bytes = 1) (hzs : z.cells.size = 1) (g n : Nat) (l : List UInt8) (hd : Sees w (some ⟨g, 0, none⟩) n l) (hn : 0 < n)
    (ad : Addr) (m k : Nat) (q : List UInt8) (hs : Sees w (some ad) m q) (hm : 0 < m) (h63 : n + m ≤ 140737488355328) :
    ∃ A' c' w', (Builtin.append_ #[t, t] ty #[.slice (some ⟨g, 0, none⟩) n n, .slice (some ad) m k]).run P w = .ok (.slice A' (n + m) c') w' ∧ n + m ≤ c' ∧ c' ≤ 9223372036854775807 ∧ Sees w' A' (n + m) (l ++ q) ∧ Below w.heap.size w w' := by
  have hlen : (l ++ q).length = n + m := by rw [List.length_append, hd.1, hs.1]
  have seen : ∀ {a : Addr} {j : Nat} {r : List UInt8} {u : Value}, Sees w (some a) j r → 0 < j → ∀ x, (cs r)[x]? = some u → w.cell? (a.add x) = some u := by
    intro a j r u h h0 x hu
    obtain ⟨y, hy, rfl⟩ := of_cs_get hu
    obtain ⟨b, o, h, hc⟩ := h.2 h0
    injection h with h
    subst h
    rw [add_plain]
    exact hc x y hy
  have hr := run_append_grow (P := P) w t ty e i z ht hi hz ⟨g, 0, none⟩ n n (cs l) (by rw [cs_length, hd.1, hsize]; omega) (fun j u hu => seen hd hn j hu) ad m k (cs q) (by rw [cs_length, hs.1, hsize]; omega) (fun j u hu => seen hs hm j hu) (by omega) (by omega) (growslice_fits (by omega) (by rw [hby]; omega))
  have hge := grownCap_ge w (n + m) n e
  have hgm := grownCap_le_maxLen w (n + m) n e (by unfold maxLen; omega)
  have hb : ByteRow e (w.drew.alloc (.cells ((cs l).toArray ++ (cs q).toArray ++ Builtin.zeroCells z.cells (grownCap w (n + m) n e - (n + m))) e)) (some ⟨w.heap.size, 0, none⟩) (n + m) (grownCap w (n + m) n e) (l ++ q) := by
    refine ⟨hlen, .inr ⟨w.heap.size, _, rfl, heap_alloc_new w.drew _, hge, hgm, ?_, ?_⟩⟩
    · simp [cs_length, hd.1, hs.1, size_zeroCells, hzs]; omega
    · simp only [Array.toList_append, List.append_assoc]
      rw [← List.append_assoc, ← cs_append, ← hlen, ← cs_length (l ++ q)]
      exact List.take_left
  exact ⟨_, _, _, hr, hb.cap.1, hb.cap.2, hb.sees, (Below.refl _ _).drew.alloc (Nat.le_refl _) _⟩
theorem wpList_full {w : World} {ops : Array Oper} {rest : List Oper} {o : Oper} {a : Act} {Q : Exit → Act → World → Prop} (hgd : o.guard = none) (s x : Operand) (t : TypeId)
    (ho : o.op = .call { callee := .builtin .append, args := #[s, x], argTypes := #[t, t] })
    (e : TypeId) (i : TypeInfo) (z : Value) (ht : P.underlying t = some (.slice e)) (hi : P.info? e = some i) (hz : i.zero = some z)
    (hsize : i.size = 1) (hby : i.bytes = 1) (hzs : z.cells.size = 1)
    (g n : Nat) (l : List UInt8) (hs : a.eval s = .slice (some ⟨g, 0, none⟩) n n) (hd : Sees w (some ⟨g, 0, none⟩) n l) (hn : 0 < n)
    (ad : Addr) (m k : Nat) (q : List UInt8) (hx : a.eval x = .slice (some ad) m k) (hq : Sees w (some ad) m q) (hm : 0 < m) (h63 : n + m ≤ 140737488355328)
    (h : ∀ A' c' w', n + m ≤ c' → c' ≤ 9223372036854775807 → Sees w' A' (n + m) (l ++ q) → Below w.heap.size w w' → wpList P ops Q rest (a.put o.dst (.slice A' (n + m) c')) w') : wpList P ops Q (o :: rest) a w := by
  refine wpList_plain hgd fun K hK => ?_
  obtain ⟨A', c', w', hrun, h2, h3, h4, h5⟩ := run_full (P := P) t o.type e i z ht hi hz hsize hby hzs g n l hd hn ad m k q hq hm h63
  unfold Oper.wp execOp
  simp only [ho, resolve, invoke, builtin, Sem.run_bind, Sem.run_pure, Result.andThen_ok, List.map_toArray, List.map_cons, List.map_nil, hs, hx, hrun]
  exact hK _ _ (h A' c' w' h2 h3 h4 h5)
end
/-- What a row of a draft counts for. -/
def rowM (S : List Mtx.RowS) (i : Nat) : Nat := (S.getD i default).n
/-- A draft as it came in, of whatever size that memory may have. -/
structure DrIn (w : World) (d : Dr) (lh : List Nat) (S : List Mtx.RowS) (le : List Nat) (lb : List UInt8) : Prop where
  H : Vec.SeesU w d.Ha d.hn lh
  R : Mtx.RowsIn w d.Ra S
  rn : S.length = d.rn
  E : Ord.SeesH w d.Ea d.en le
  B : Sees w d.Ba d.bn lb
  u8s : d.kd < 256 ∧ d.fr < 256 ∧ d.tt < 256 ∧ d.wy < 256
  u64s : d.ser < 18446744073709551616 ∧ d.tm < 18446744073709551616 ∧ d.sz < 4294967296 ∧ d.pt < 4294967296
  total : d.hn + d.bn + d.en + rowsNo (rowM S) d.rn ≤ 1000000000000000000
theorem DrIn.below {w w' : World} {d : Dr} {lh : List Nat} {S : List Mtx.RowS} {le : List Nat} {lb : List UInt8} (h : DrIn w d lh S le lb) (hb : Below w.heap.size w w') : DrIn w' d lh S le lb :=
  ⟨h.H.below hb, RowsIn.below h.R hb, h.rn, h.E.below hb, h.B.below hb, h.u8s, h.u64s, h.total⟩
theorem rowsNo_mem (M : Nat → Nat) : ∀ (n i : Nat), i < n → 3 + M i ≤ rowsNo M n
  | n + 1, i, h => by
    show 3 + M i ≤ rowsNo M n + (3 + M n)
    rcases Nat.lt_or_ge i n with h1 | h1
    · have := rowsNo_mem M n i h1; omega
    · have : i = n := by omega
      subst this; omega
theorem rowsNo_num (M : Nat → Nat) : ∀ n : Nat, n ≤ rowsNo M n
  | 0 => Nat.le_refl _
  | n + 1 => by have := rowsNo_num M n; show n + 1 ≤ rowsNo M n + (3 + M n); omega
theorem DrIn.at_ {w : World} {d : Dr} {lh : List Nat} {S : List Mtx.RowS} {le : List Nat} {lb : List UInt8} (h : DrIn w d lh S le lb) (hs : d.hn + d.bn + d.en + rowsNo (rowM S) d.rn ≤ 1000) : DrAt w d lh S le lb :=
  have hr := rowsNo_num (rowM S) d.rn
  ⟨h.H, h.R, h.rn, h.E, h.B, h.u8s, h.u64s, fun i hi => by have := rowsNo_mem (rowM S) d.rn i (by rw [← h.rn]; exact hi); unfold rowM at this hs; omega, by omega⟩
theorem short_in {w : World} {d : Dr} {lh : List Nat} {S : List Mtx.RowS} {le : List Nat} {lb : List UInt8} (h : DrIn w d lh S le lb) :
    Calls Tryd.prog 6 #[.agg (drV d)] w fun e w' => e = .returned (.bool (decide (d.hn + d.bn + d.en + rowsNo (rowM S) d.rn ≤ 1000))) ∧ Below w.heap.size w w' :=
  short_any _ _ _ _ _ _ _ _ _ d.Ha d.hn d.hc d.Ra d.rn d.rc d.Ea d.en d.ec d.Ba d.bn d.bc (rowM S) w (fun i hi => by
    obtain ⟨b, o, h1, h2, h3⟩ := h.R i (by rw [h.rn]; exact hi)
    exact ⟨b, o, _, _, h1, h3 1 _ rfl⟩) h.total
set_option maxRecDepth 100000 in
set_option maxHeartbeats 4000000 in
theorem turned_law (d : Dr) (lh : List Nat) (S : List Mtx.RowS) (le : List Nat) (lb : List UInt8) (at_ turn cut more : Nat) (w : World) (TB : Tabs w) (h : DrIn w d lh S le lb) (ha : at_ < 65536) (ht : turn < 256) (hc : cut < 65536) (hm : more < 256) :
    Calls Tryd.prog 3 #[.agg (drV d), .int .u16 (at_ : Int), .int .u8 (turn : Int), .int .u16 (cut : Int), .int .u8 (more : Int)] w fun e w' => e = .returned (.bool true) ∧ Below w.heap.size w w' := by
  have HTB := Lib.hid TB
  have HD := Lib.hid h
  obtain ⟨u, hu⟩ : ∃ u, u = w.alloc (.cells (drV d) 29) := ⟨_, rfl⟩
  have hbu : Below w.heap.size w u := by rw [hu]; exact (Below.refl _ _).alloc (Nat.le_refl _) _
  have hgu : u.heap[w.heap.size]? = some (.cells (drV d) 29 (0, 0)) := by rw [hu]; exact heap_alloc_new w _
  have hlu := (Array.getElem?_eq_some_iff.1 hgu).1
  have BU := Lib.hid hbu
  have HU := Lib.hid hu
  have GU := Lib.hid (fun (W : World) (hW : Below u.heap.size u W) => dr_cells ((hW.block w.heap.size hlu).trans hgu))
  obtain ⟨sb, hsb⟩ : ∃ sb, sb = decide (d.hn + d.bn + d.en + rowsNo (rowM S) d.rn ≤ 1000) := ⟨_, rfl⟩
  have HSB := Lib.hid hsb
  clear TB h hu hbu hgu hlu hsb
  unfold drV at HU ⊢
  go_enter Tryd.func3, Tryd.ntmps3
  go_upto_region 1 with fail
  rw [← HU.out]
  go_wp2_with fail
  refine (awakeLt_yes _ (HTB.out.below BU.out)).mono ?_
  rintro e w1 ⟨rfl, hb1⟩
  have B1 := Lib.hid (BU.out.trans (hb1.mono BU.out.size))
  obtain ⟨c0, c1, c2, c3, c4, c5, c6, c7, c8, c9, c10, c11, c12⟩ := GU.out w1 hb1
  have SH := Lib.hid (short_in (HD.out.below B1.out))
  rw [← HSB.out] at SH
  have HB1 := Lib.hid hb1
  unfold drV at SH
  clear hb1
  obtain ⟨i, hi, hz, hsz, hby⟩ := info_parts info8
  cases sb with
  | false =>
    clear ha ht hc hm
    go_wp2_with fail
    refine SH.out.mono ?_
    rintro e w2 ⟨rfl, hb2⟩
    have B2 := Lib.hid (B1.out.trans (hb2.mono B1.out.size))
    clear hb2 SH c0 c1 c2 c3 c4 c5 c6 c7 c8 c9 c10 c11 c12
    go_wp2_with fail
    refine (awakeLt_yes _ (HTB.out.below B2.out)).mono ?_
    rintro e w3 ⟨rfl, hb3⟩
    have B3 := Lib.hid (B2.out.trans (hb3.mono B2.out.size))
    clear hb3
    go_wp2
    go_ret
    exact ⟨rfl, B3.out⟩
  | true =>
    have hsh := of_decide_eq_true HSB.out.symm
    have HSH := Lib.hid hsh
    clear hsh
    go_wp2_with fail
    refine SH.out.mono ?_
    rintro e w2 ⟨rfl, hb2⟩
    have B2 := Lib.hid (B1.out.trans (hb2.mono B1.out.size))
    have HB2 := Lib.hid (HB1.out.trans (hb2.mono HB1.out.size))
    clear hb2 SH c0 c1 c2 c3 c4 c5 c6 c7 c8 c9 c10 c11 c12
    by_cases ht0 : turn = 0
    · subst ht0
      clear ha ht hc hm
      go_wp2_with fail
      refine (awakeLt_yes _ (HTB.out.below B2.out)).mono ?_
      rintro e w3 ⟨rfl, hb3⟩
      have B3 := Lib.hid (B2.out.trans (hb3.mono B2.out.size))
      clear hb3
      go_wp2
      go_ret
      exact ⟨rfl, B3.out⟩
    · have htb : ((turn : Int) == 0) = false := by rw [beq_eq_false_iff_ne]; omega
      have htz : ¬ (turn : Int) = 0 := by omega
      obtain ⟨c0, c1, c2, c3, c4, c5, c6, c7, c8, c9, c10, c11, c12⟩ := GU.out w2 HB2.out
      have LT := Lib.hid (letterLt_any w2 d lh S le lb ((HD.out.below B2.out).at_ HSH.out))
      unfold drV at LT
      go_wp2_with fail
      refine LT.out.mono ?_
      rintro e w3 ⟨x, v, S', rfl, hat, ok, hb3⟩
      have B3 := Lib.hid (B2.out.trans (hb3.mono B2.out.size))
      have LY := Lib.hid (lay_any w3 x v S' hat ok)
      have hL := ltL_len ok
      clear hb3 LT hat ok c0 c1 c2 c3 c4 c5 c6 c7 c8 c9 c10 c11 c12
      go_wp2_with fail
      refine LY.out.mono ?_
      rintro e w4 ⟨A4, k4, rfl, own4, hb4⟩
      have B4 := Lib.hid (B3.out.trans (hb4.mono B3.out.size))
      clear hb4 LY
      generalize ltL x = L at own4 hL ⊢
      have hwl := wrap_length L
      have he := enc_ten (n := L.length) (by omega)
      have hep := enc_pos L.length
      have hCUT := Lib.hid (fun k (hk : k < (wrap L).length) => decL_cut L k (by omega) hk)
      have hMORE := Lib.hid (fun b => decL_more L b (by omega))
      have hTURN := Lib.hid (fun i u hi hu => decL_turn L i u hi hu)
      generalize wrap L = p at own4 hwl hCUT hMORE hTURN ⊢
      obtain ⟨pn, hpn⟩ : ∃ pn, pn = p.length := ⟨_, rfl⟩
      have hp0 : 0 < pn := by omega
      have hp9 : pn ≤ 4000000 := by omega
      rw [← hpn] at own4 ⊢
      have HPN := Lib.hid hpn
      clear hpn hwl he hep hL
      have hcp := Own.cap own4
      obtain ⟨g, rfl, hg⟩ := Own.at_ own4 hp0
      have OW4 := Lib.hid own4
      have hg4 := hg
      clear own4 hg
      -- some are missing
      obtain ⟨k, hk⟩ : ∃ k, k = cut % pn := ⟨_, rfl⟩
      have hkl : k < pn := by rw [hk]; exact Nat.mod_lt _ hp0
      have hzk : (cut : Int) % (pn : Int) = (k : Int) := by rw [hk]; omega
      have hpz : ¬ (pn : Int) = 0 := by omega
      clear hk
      have hck := hCUT.out k (by rw [← HPN.out]; exact hkl)
      have DC := decode_any (some ⟨g, 0, none⟩) k k4 (p.take k) w4 (HTB.out.below B4.out) ((Sees.of_own OW4.out).take (by omega)) (by omega) hcp.2 (by omega) (fun h0 _ => absurd h0 hck.2)
      rw [hck.1] at DC
      have NB := Lib.hid DC
      clear DC hck
      go_wp2_with fail
      refine NB.out.mono ?_
      rintro e w5 ⟨rfl, hb5⟩
      have hal5 := (Below.refl w5.heap.size w5).alloc (Nat.le_refl _) (.cells #[.int .u8 0, .int .i64 0, .int .i64 0, .bool false, .int .u64 0, .slice none 0 0, .slice none 0 0, .slice none 0 0, .int .u64 0, .int .u64 0, .int .u32 0, .int .u64 0, .slice none 0 0, .int .i64 0] 37)
      have B5 := Lib.hid ((B4.out.trans (hb5.mono B4.out.size)).trans (hal5.mono (Nat.le_trans B4.out.size hb5.size)))
      have OW5 := Lib.hid (Own.below (Own.below OW4.out hb5 (Nat.le_refl _)) hal5 (Nat.le_refl _))
      clear hb5 NB OW4 hal5 hzk
      go_upto_region 5 with fail
      generalize w5.alloc (.cells #[.int .u8 0, .int .i64 0, .int .i64 0, .bool false, .int .u64 0, .slice none 0 0, .slice none 0 0, .slice none 0 0, .int .u64 0, .int .u64 0, .int .u32 0, .int .u64 0, .slice none 0 0, .int .i64 0] 37) = u5 at B5 OW5 ⊢
      -- one stands behind
      obtain ⟨b, hb⟩ : ∃ b : UInt8, b.toNat = more := ⟨b8 more, by rw [b8_toNat]; omega⟩
      have hbi : (more : Int) = (b.toNat : Int) := by omega
      have hsb := Sees.fresh u5 5 (more : Int) b hbi
      have hal6 := (Below.refl u5.heap.size u5).alloc (Nat.le_refl _) (.cells #[.int .u8 (more : Int)] 5)
      have SB := Lib.hid hsb
      have S6 := Lib.hid ((Sees.of_own OW5.out).below hal6)
      have AL6 := Lib.hid hal6
      clear hsb hal6 hbi hb
      go_wp2_with (first | (at_builtin; refine wpList_full rfl _ _ 27 rfl 5 i (.int .u8 0) Tryd.underlying27 hi hz hsz hby rfl g pn p rfl S6.out hp0 ⟨u5.heap.size, 0, none⟩ 1 1 [b] rfl SB.out (by omega) (by omega) ?_))
      intro A7 k7 w7 hk7 hm7 hs7 hb7
      have B67 : Below u5.heap.size u5 w7 := AL6.out.trans (hb7.mono (by simp))
      have B7 := Lib.hid (B5.out.trans (B67.mono B5.out.size))
      have OW7 := Lib.hid (Own.below OW5.out B67 (Nat.le_refl _))
      have hmo := hMORE.out b
      have DC := decode_any A7 (pn + 1) k7 (p ++ [b]) w7 (HTB.out.below B7.out) hs7 hk7 hm7 (by omega) (fun _ h1 => absurd hmo.2 h1)
      rw [hmo.1] at DC
      have NB := Lib.hid DC
      clear DC hmo hs7 hb7 B67 SB S6 AL6 OW5
      go_wp2_with fail
      refine NB.out.mono ?_
      rintro e w8 ⟨rfl, hb8⟩
      have hal8 := (Below.refl w8.heap.size w8).alloc (Nat.le_refl _) (.cells #[.int .u8 0, .int .i64 0, .int .i64 0, .bool false, .int .u64 0, .slice none 0 0, .slice none 0 0, .slice none 0 0, .int .u64 0, .int .u64 0, .int .u32 0, .int .u64 0, .slice none 0 0, .int .i64 0] 37)
      have B8 := Lib.hid ((B7.out.trans (hb8.mono B7.out.size)).trans (hal8.mono (Nat.le_trans B7.out.size hb8.size)))
      have OW8 := Lib.hid (Own.below (Own.below OW7.out hb8 (Nat.le_refl _)) hal8 (Nat.le_refl _))
      clear hb8 NB OW7 hal8 hk7 hm7
      go_upto_region 6 with fail
      generalize w8.alloc (.cells #[.int .u8 0, .int .i64 0, .int .i64 0, .bool false, .int .u64 0, .slice none 0 0, .slice none 0 0, .slice none 0 0, .int .u64 0, .int .u64 0, .int .u32 0, .int .u64 0, .slice none 0 0, .int .i64 0] 37) = u8 at B8 OW8 ⊢
      -- one is another one
      obtain ⟨j, hj⟩ : ∃ j, j = at_ % pn := ⟨_, rfl⟩
      have hjl : j < pn := by rw [hj]; exact Nat.mod_lt _ hp0
      have hxj : (at_ : Int) % (pn : Int) = (j : Int) := by rw [hj]; omega
      clear hj
      have hjp : j < p.length := by rw [← HPN.out]; exact hjl
      obtain ⟨T, hT⟩ : ∃ T : UInt8, T.toNat = turn := ⟨b8 turn, by rw [b8_toNat]; omega⟩
      have hT0 : T ≠ 0 := fun e => ht0 (by rw [← hT, e]; rfl)
      obtain ⟨y1, hy1⟩ : ∃ y1, y1 = p[j] := ⟨_, rfl⟩
      have hcell : u8.cell? ⟨g, j, none⟩ = some (.int .u8 (y1.toNat : Int)) := by
        rw [hy1, OW8.out.cellAt j (by omega), cs_get (List.getElem?_eq_getElem hjp)]
      have hfr : u8.frozen? ⟨g, j, none⟩ = false := OW8.out.frozenAt j
      obtain ⟨⟨E, hE, hdec⟩, hsm⟩ := hTURN.out j (y1 ^^^ T) hjp (by rw [← hy1]; exact xor_ne y1 T hT0)
      have hstored := OW8.out.stored j (.int .u8 ((y1 ^^^ T).toNat : Int))
      have hset : (cs p).set j (.int .u8 ((y1 ^^^ T).toNat : Int)) = cs (p.set j (y1 ^^^ T)) := by simp [cs, List.map_set]
      rw [hset] at hstored
      have hxor : bits .xor .u8 (y1.toNat : Int) (turn : Int) = ((y1 ^^^ T).toNat : Int) := by
        rw [← hT, u8_xor_nat _ _ y1.toNat_lt T.toNat_lt, UInt8.toNat_xor]
      generalize y1 ^^^ T = y2 at hstored hxor hdec hsm
      have OW9 := Lib.hid hstored.1
      have hgw : w.heap.size ≤ g := Nat.le_trans B3.out.size hg4
      have hj0 : (0 : Int) ≤ (j : Int) := by omega
      have hjn : (j : Int) < (pn : Int) := by omega
      have hE2 : ((E : Int) != 0) = true := by rw [bne_iff_ne]; omega
      have HDC := Lib.hid (And.intro hdec hsm)
      clear hset hstored hdec hsm hy1 hjp hT hT0 ht0 htb htz hE
      go_wp2_with fail
      go_region
      have b9 : Below w.heap.size w ((u8.setCell ⟨g, j, none⟩ (.int .u8 (y2.toNat : Int))).drew) := (B8.out.setCell hgw _).drew
      have B9 := Lib.hid b9
      have S9 := Lib.hid (Sees.of_own OW9.out).drew
      clear b9
      generalize (u8.setCell ⟨g, j, none⟩ (.int .u8 (y2.toNat : Int))).drew = u9 at B9 S9 ⊢
      clear hcell hfr hxor hxj hjl OW9 hj0 hjn
      have DC := decode_any (some ⟨g, 0, none⟩) pn k4 (p.set j y2) u9 (HTB.out.below B9.out) S9.out hcp.1 hcp.2 (by omega) HDC.out.2
      rw [HDC.out.1] at DC
      have NB := Lib.hid DC
      clear DC HDC S9
      go_wp2_with fail
      refine NB.out.mono ?_
      rintro e wa ⟨rfl, hba⟩
      have BA := Lib.hid (B9.out.trans (hba.mono B9.out.size))
      clear hba NB
      go_wp2
      go_ret
      exact ⟨rfl, by first | exact BA.out.alloc BA.out.size _ | exact BA.out⟩
end Go.Proofs.YthdflbpmabcjlaaDoor.Lt
namespace Go.Proofs.YthdflbpmabcjlaaDoor.Lt
open Go Go.ChangeShapes Go.WideShapes Go.RowKit Go.Proofs.YthdflbpmabcjlaaDoor.Words Go.Proofs.YthdflbpmabcjlaaDoor.Vec Go.Proofs.YthdflbpmabcjlaaDoor.Mtx
set_option linter.unusedVariables false
set_option linter.unusedSimpArgs false

theorem bulk_len {H : Type} (l : List (DataW H)) : l.length ≤ Rows.uptoBulkAll l := by
  induction l with
  | nil => simp
  | cons d l ih =>
    have : 1 ≤ Rows.uptoBulk d := by
      cases d with
      | lit l => cases l <;> simp [Rows.uptoBulk]
      | nil => simp [Rows.uptoBulk]
      | ptr d => simp [Rows.uptoBulk]
      | slice elems spare => simp [Rows.uptoBulk]
      | agg parts => simp [Rows.uptoBulk]
      | iface t d => simp [Rows.uptoBulk]
      | map entries => simp [Rows.uptoBulk]
      | held h => simp [Rows.uptoBulk]
    simp only [List.length_cons, Rows.uptoBulkAll]
    omega
theorem bulk_mem {H : Type} {d : DataW H} : ∀ {l : List (DataW H)}, d ∈ l → Rows.uptoBulk d ≤ Rows.uptoBulkAll l
  | x :: l, h => by
    simp only [Rows.uptoBulkAll]
    rcases List.mem_cons.1 h with rfl | h
    · omega
    · have := bulk_mem h; omega
section
variable {H : Type} {enc : TypeId × Value → H} {w : World} {base : Nat} {held : Bool}
theorem ints_bulk {t e : TypeId} {k : IntKind} {fuel : Nat} {a : Option Addr} {len cap : Nat} {x : DataW H × List MemPlace} (ht : Tryd.prog.underlying t = some (.slice e)) (he : Tryd.prog.underlying e = some (.int k)) (hc : Tryd.prog.cellsOf e = 1)
    (h : DataW.trod enc Tryd.prog w base (fun _ => true) held fuel t [.slice a len cap] = some x) : len ≤ Rows.uptoBulk x.1 := by
  rcases open_ints ht he hc h with ⟨hcs, hx⟩ | ⟨x', l, c, zs, hcs, _, hl, hm, hz, hx, hcell, hwz⟩
  · simp at hcs
    omega
  · simp at hcs
    obtain ⟨rfl, rfl, rfl⟩ := hcs
    rw [hx]
    have h1 := bulk_len (lits (H := H) k (zs.take len))
    have h2 : (lits (H := H) k (zs.take len)).length = len := by
      simp only [if_true] at hz
      simp [lits]
      omega
    simp only [Rows.uptoBulk]
    omega
theorem row_bulk {fuel : Nat} {cs : List Value} {x : DataW H × List MemPlace} (h : DataW.trod enc Tryd.prog w base (fun _ => true) held fuel 45 cs = some x) (hl : cs.length = 3) : ∃ r : RowS, cs = r.cells ∧ RowIn w r ∧ r.n ≤ Rows.uptoBulk x.1 := by
  obtain ⟨c0, c1, c2, rfl⟩ := list3 hl
  obtain ⟨xs, n, _, hx, hl, hlen, hg⟩ := DataW.trod_struct Tryd.underlying45 h
  have g0 := hg 0 _ rfl
  have g1 := hg 1 _ rfl
  have g2 := hg 2 _ rfl
  have e3 : Tryd.prog.cellsOf 3 = 1 := by kernel_rfl
  have e30 : Tryd.prog.cellsOf 22 = 1 := by kernel_rfl
  have e31 : Tryd.prog.cellsOf 24 = 1 := by kernel_rfl
  obtain ⟨y0, y1, y2, rfl⟩ := list3 (hlen.trans rfl)
  simp [e3, e30, e31] at g0 g1 g2
  obtain ⟨z0, h0, _, _⟩ := DataW.trod_int Tryd.underlying3 g0
  obtain ⟨A, m, c, l, h1, q1, q2, q3, q4, q5⟩ := have_of g1
  obtain ⟨z2, h2, _, w2⟩ := DataW.trod_int Tryd.underlying22 g2
  obtain ⟨t, rfl, ht⟩ := u64_nat w2
  rw [h1] at g1
  have hb := ints_bulk Tryd.underlying24 Tryd.underlying22 (by kernel_rfl) g1
  simp only [List.cons.injEq, and_true] at h0 h1 h2
  refine ⟨⟨z0, A, m, c, l, t⟩, ?_, ⟨q1, q2, ⟨q3, q4⟩, q5, ht⟩, ?_⟩
  · rw [h0, h1, h2]
    rfl
  · rw [hx]
    simp only [List.map_cons, List.map_nil, Rows.uptoBulk, Rows.uptoBulkAll]
    show m ≤ _
    omega
theorem rowsIn_bulk {fuel : Nat} {a : Option Addr} {len cap : Nat} {x : DataW H × List MemPlace}
    (h : DataW.trod enc Tryd.prog w base (fun _ => true) held fuel 25 [.slice a len cap] = some x) : ∃ S : List RowS, S.length = len ∧ Mtx.RowsIn w a S ∧ len ≤ Rows.uptoBulk x.1 ∧ ∀ i, i < len → rowM S i ≤ Rows.uptoBulk x.1 := by
  have hC : Tryd.prog.cellsOf 45 = 3 := by kernel_rfl
  rcases Go.Deep.open_slice Tryd.underlying25 h with ⟨hcs, _⟩ | ⟨ad, len', cap', m, nf, D, Pl, hcs, hb, hl, hm, hmm, hx, hc⟩
  · simp at hcs
    obtain ⟨rfl, rfl, rfl⟩ := hcs
    exact ⟨[], rfl, fun i hi => absurd hi (by simp), by omega, fun i hi => absurd hi (by omega)⟩
  · simp at hcs
    obtain ⟨rfl, rfl, rfl⟩ := hcs
    have hm' : len ≤ m := by rw [hmm]; split <;> omega
    have hxb : ∀ i, i < len → Rows.uptoBulk (D i) ≤ Rows.uptoBulk x.1 := fun i hi => by
      rw [hx]
      have := bulk_mem (d := D i) (l := (List.range len).map D) (List.mem_map.2 ⟨i, by simpa using hi, rfl⟩)
      simp only [Rows.uptoBulk]
      omega
    have hxl : len ≤ Rows.uptoBulk x.1 := by
      rw [hx]
      have := bulk_len ((List.range len).map D)
      rw [List.length_map, List.length_range] at this
      simp only [Rows.uptoBulk]
      omega
    have each : ∀ i, i < len → ∃ r : RowS, (RowIn w r ∧ r.n ≤ Rows.uptoBulk x.1) ∧ ∀ k v, r.cells[k]? = some v → w.cell? (ad.add (i * 3 + k)) = some v := by
      intro i hi
      obtain ⟨cs', h1, h2⟩ := hc i (by omega)
      rw [hC] at h1
      obtain ⟨_, hlen, hcell⟩ := World.cells?_some h1
      obtain ⟨r, rfl, hr, hrb⟩ := row_bulk h2 hlen
      refine ⟨r, ⟨hr, Nat.le_trans hrb (hxb i hi)⟩, fun k v hv => ?_⟩
      have hk : k < 3 := (List.getElem?_eq_some_iff.1 hv).1
      have := hcell k hk
      rw [Go.Deep.add_add] at this
      first
        | (rw [this]; exact hv)
        | (rw [this, ← hv, List.getElem?_eq_getElem hk])
    obtain ⟨f, hf⟩ := Go.Deep.choose_lt each
    have hgd : ∀ i, i < len → ((List.range len).map f).getD i default = f i := fun i hi => by
      rw [List.getD_eq_getElem?_getD, List.getElem?_map, List.getElem?_range hi]; rfl
    refine ⟨(List.range len).map f, by simp, fun i hi => ?_, hxl, fun i hi => by unfold rowM; rw [hgd i hi]; exact (hf i hi).1.2⟩
    have hi' : i < len := by simpa using hi
    have hget := hgd i hi'
    obtain ⟨h1, h2⟩ := hf i hi'
    have hs : ad.spot = none := by
      have h3 := World.cell?_spot ((hf 0 (by omega)).2 0 _ rfl)
      simpa [Addr.add] using h3
    obtain ⟨b, o, s⟩ := ad
    simp at hs
    subst hs
    rw [hget]
    refine ⟨b, o, rfl, h1.1, fun k v hv => ?_⟩
    have := h2 k v hv
    rw [Words.add_plain] at this
    rwa [Nat.add_assoc]
end
theorem rowsNo_bound (M : Nat → Nat) (B : Nat) : ∀ n : Nat, (∀ i, i < n → M i ≤ B) → rowsNo M n ≤ n * (3 + B)
  | 0, _ => by simp [rowsNo]
  | n + 1, h => by
    have h1 := rowsNo_bound M B n fun i hi => h i (by omega)
    have h2 := h n (by omega)
    show rowsNo M n + (3 + M n) ≤ (n + 1) * (3 + B)
    rw [Nat.add_mul, Nat.one_mul]
    omega
theorem rowsNo_fits (M : Nat → Nat) (n : Nat) (hn : n ≤ 1048576) (h : ∀ i, i < n → M i ≤ 1048576) : rowsNo M n ≤ 10000000000000 := by
  have h1 := rowsNo_bound M 1048576 n h
  have h2 : n * (3 + 1048576) ≤ 1048576 * (3 + 1048576) := Nat.mul_le_mul_right _ hn
  omega
end Go.Proofs.YthdflbpmabcjlaaDoor.Lt
namespace Go.Proofs.YthdflbpmabcjlaaDoor.Aggs
open Go Go.ChangeShapes Go.WideShapes Go.ChangeAt Go.Joins Go.Deep Go.RowKit
set_option linter.unusedVariables false
section
variable {H : Type} {enc : TypeId × Value → H} {P : Program} {w : World} {base : Nat} {spare : Nat → Bool} {held : Bool}
theorem array13 {α : Type} {cs : Array α} (h : cs.size = 13) : ∃ c0 c1 c2 c3 c4 c5 c6 c7 c8 c9 c10 c11 c12, cs = #[c0, c1, c2, c3, c4, c5, c6, c7, c8, c9, c10, c11, c12] := by
  obtain ⟨l⟩ := cs
  match l, h with
  | [c0, c1, c2, c3, c4, c5, c6, c7, c8, c9, c10, c11, c12], _ => exact ⟨c0, c1, c2, c3, c4, c5, c6, c7, c8, c9, c10, c11, c12, rfl⟩
theorem list13 {α : Type} {l : List α} (h : l.length = 13) : ∃ c0 c1 c2 c3 c4 c5 c6 c7 c8 c9 c10 c11 c12, l = [c0, c1, c2, c3, c4, c5, c6, c7, c8, c9, c10, c11, c12] := by
  match l, h with
  | [c0, c1, c2, c3, c4, c5, c6, c7, c8, c9, c10, c11, c12], _ => exact ⟨c0, c1, c2, c3, c4, c5, c6, c7, c8, c9, c10, c11, c12, rfl⟩
theorem open_agg13 {r : Reach} {b0 : Nat} {t : TypeId} {f0 f1 f2 f3 f4 f5 f6 f7 f8 f9 f10 f11 f12 : Field} {v : Value} {d : DataW H} {p : List MemPlace} (hs : P.underlying t = some (.struct #[f0, f1, f2, f3, f4, f5, f6, f7, f8, f9, f10, f11, f12])) (hone : oneCellFields P #[f0, f1, f2, f3, f4, f5, f6, f7, f8, f9, f10, f11, f12] = true) (hC : P.cellsOf t = 13)
    (hv : Value.okWide P w r b0 t v) (h : DataW.Trod enc P w base spare held t v d p) :
    ∃ (v0 v1 v2 v3 v4 v5 v6 v7 v8 v9 v10 v11 v12 : Value) (y0 y1 y2 y3 y4 y5 y6 y7 y8 y9 y10 y11 y12 : DataW H × List MemPlace) (n : Nat), v = .agg #[v0, v1, v2, v3, v4, v5, v6, v7, v8, v9, v10, v11, v12] ∧ d = .agg [y0.1, y1.1, y2.1, y3.1, y4.1, y5.1, y6.1, y7.1, y8.1, y9.1, y10.1, y11.1, y12.1] ∧ p = y0.2 ++ (y1.2 ++ (y2.2 ++ (y3.2 ++ (y4.2 ++ (y5.2 ++ (y6.2 ++ (y7.2 ++ (y8.2 ++ (y9.2 ++ (y10.2 ++ (y11.2 ++ (y12.2)))))))))))) ∧
      DataW.trod enc P w base spare held n f0.type [v0] = some y0 ∧ DataW.trod enc P w base spare held n f1.type [v1] = some y1 ∧ DataW.trod enc P w base spare held n f2.type [v2] = some y2 ∧ DataW.trod enc P w base spare held n f3.type [v3] = some y3 ∧ DataW.trod enc P w base spare held n f4.type [v4] = some y4 ∧ DataW.trod enc P w base spare held n f5.type [v5] = some y5 ∧ DataW.trod enc P w base spare held n f6.type [v6] = some y6 ∧ DataW.trod enc P w base spare held n f7.type [v7] = some y7 ∧ DataW.trod enc P w base spare held n f8.type [v8] = some y8 ∧ DataW.trod enc P w base spare held n f9.type [v9] = some y9 ∧ DataW.trod enc P w base spare held n f10.type [v10] = some y10 ∧ DataW.trod enc P w base spare held n f11.type [v11] = some y11 ∧ DataW.trod enc P w base spare held n f12.type [v12] = some y12 := by
  obtain ⟨cs, rfl, hsz⟩ := okWide_struct hs hv
  obtain ⟨c0, c1, c2, c3, c4, c5, c6, c7, c8, c9, c10, c11, c12, rfl⟩ := array13 (hsz.trans hC)
  obtain ⟨fuel, hf⟩ := h
  obtain ⟨xs, n, _, hx, hl, hlen, hg⟩ := DataW.trod_struct hs hf
  obtain ⟨y0, y1, y2, y3, y4, y5, y6, y7, y8, y9, y10, y11, y12, rfl⟩ := list13 (hlen.trans rfl)
  obtain ⟨o0, k0⟩ := hone_of hone 0 f0 rfl
  obtain ⟨o1, k1⟩ := hone_of hone 1 f1 rfl
  obtain ⟨o2, k2⟩ := hone_of hone 2 f2 rfl
  obtain ⟨o3, k3⟩ := hone_of hone 3 f3 rfl
  obtain ⟨o4, k4⟩ := hone_of hone 4 f4 rfl
  obtain ⟨o5, k5⟩ := hone_of hone 5 f5 rfl
  obtain ⟨o6, k6⟩ := hone_of hone 6 f6 rfl
  obtain ⟨o7, k7⟩ := hone_of hone 7 f7 rfl
  obtain ⟨o8, k8⟩ := hone_of hone 8 f8 rfl
  obtain ⟨o9, k9⟩ := hone_of hone 9 f9 rfl
  obtain ⟨o10, k10⟩ := hone_of hone 10 f10 rfl
  obtain ⟨o11, k11⟩ := hone_of hone 11 f11 rfl
  obtain ⟨o12, k12⟩ := hone_of hone 12 f12 rfl
  simp only [Prod.mk.injEq] at hx
  refine ⟨c0, c1, c2, c3, c4, c5, c6, c7, c8, c9, c10, c11, c12, y0, y1, y2, y3, y4, y5, y6, y7, y8, y9, y10, y11, y12, n, rfl, hx.1, by simpa using hx.2, ?_, ?_, ?_, ?_, ?_, ?_, ?_, ?_, ?_, ?_, ?_, ?_, ?_⟩
  · simpa [Value.cells, o0, k0] using hg 0 f0 rfl
  · simpa [Value.cells, o1, k1] using hg 1 f1 rfl
  · simpa [Value.cells, o2, k2] using hg 2 f2 rfl
  · simpa [Value.cells, o3, k3] using hg 3 f3 rfl
  · simpa [Value.cells, o4, k4] using hg 4 f4 rfl
  · simpa [Value.cells, o5, k5] using hg 5 f5 rfl
  · simpa [Value.cells, o6, k6] using hg 6 f6 rfl
  · simpa [Value.cells, o7, k7] using hg 7 f7 rfl
  · simpa [Value.cells, o8, k8] using hg 8 f8 rfl
  · simpa [Value.cells, o9, k9] using hg 9 f9 rfl
  · simpa [Value.cells, o10, k10] using hg 10 f10 rfl
  · simpa [Value.cells, o11, k11] using hg 11 f11 rfl
  · simpa [Value.cells, o12, k12] using hg 12 f12 rfl
theorem shut_agg13 {t : TypeId} {f0 f1 f2 f3 f4 f5 f6 f7 f8 f9 f10 f11 f12 : Field} {v0 v1 v2 v3 v4 v5 v6 v7 v8 v9 v10 v11 v12 : Value} {y0 y1 y2 y3 y4 y5 y6 y7 y8 y9 y10 y11 y12 : DataW H × List MemPlace} (hs : P.underlying t = some (.struct #[f0, f1, f2, f3, f4, f5, f6, f7, f8, f9, f10, f11, f12])) (hone : oneCellFields P #[f0, f1, f2, f3, f4, f5, f6, f7, f8, f9, f10, f11, f12] = true) (hC : P.cellsOf t = 13)
    (t0 : ∃ n, DataW.trod enc P w base spare held n f0.type [v0] = some y0) (t1 : ∃ n, DataW.trod enc P w base spare held n f1.type [v1] = some y1) (t2 : ∃ n, DataW.trod enc P w base spare held n f2.type [v2] = some y2) (t3 : ∃ n, DataW.trod enc P w base spare held n f3.type [v3] = some y3) (t4 : ∃ n, DataW.trod enc P w base spare held n f4.type [v4] = some y4) (t5 : ∃ n, DataW.trod enc P w base spare held n f5.type [v5] = some y5) (t6 : ∃ n, DataW.trod enc P w base spare held n f6.type [v6] = some y6) (t7 : ∃ n, DataW.trod enc P w base spare held n f7.type [v7] = some y7) (t8 : ∃ n, DataW.trod enc P w base spare held n f8.type [v8] = some y8) (t9 : ∃ n, DataW.trod enc P w base spare held n f9.type [v9] = some y9) (t10 : ∃ n, DataW.trod enc P w base spare held n f10.type [v10] = some y10) (t11 : ∃ n, DataW.trod enc P w base spare held n f11.type [v11] = some y11) (t12 : ∃ n, DataW.trod enc P w base spare held n f12.type [v12] = some y12) :
    DataW.Trod enc P w base spare held t (.agg #[v0, v1, v2, v3, v4, v5, v6, v7, v8, v9, v10, v11, v12]) (.agg [y0.1, y1.1, y2.1, y3.1, y4.1, y5.1, y6.1, y7.1, y8.1, y9.1, y10.1, y11.1, y12.1]) (y0.2 ++ (y1.2 ++ (y2.2 ++ (y3.2 ++ (y4.2 ++ (y5.2 ++ (y6.2 ++ (y7.2 ++ (y8.2 ++ (y9.2 ++ (y10.2 ++ (y11.2 ++ (y12.2))))))))))))) := by
  obtain ⟨n0, t0⟩ := t0
  obtain ⟨n1, t1⟩ := t1
  obtain ⟨n2, t2⟩ := t2
  obtain ⟨n3, t3⟩ := t3
  obtain ⟨n4, t4⟩ := t4
  obtain ⟨n5, t5⟩ := t5
  obtain ⟨n6, t6⟩ := t6
  obtain ⟨n7, t7⟩ := t7
  obtain ⟨n8, t8⟩ := t8
  obtain ⟨n9, t9⟩ := t9
  obtain ⟨n10, t10⟩ := t10
  obtain ⟨n11, t11⟩ := t11
  obtain ⟨n12, t12⟩ := t12
  obtain ⟨o0, k0⟩ := hone_of hone 0 f0 rfl
  obtain ⟨o1, k1⟩ := hone_of hone 1 f1 rfl
  obtain ⟨o2, k2⟩ := hone_of hone 2 f2 rfl
  obtain ⟨o3, k3⟩ := hone_of hone 3 f3 rfl
  obtain ⟨o4, k4⟩ := hone_of hone 4 f4 rfl
  obtain ⟨o5, k5⟩ := hone_of hone 5 f5 rfl
  obtain ⟨o6, k6⟩ := hone_of hone 6 f6 rfl
  obtain ⟨o7, k7⟩ := hone_of hone 7 f7 rfl
  obtain ⟨o8, k8⟩ := hone_of hone 8 f8 rfl
  obtain ⟨o9, k9⟩ := hone_of hone 9 f9 rfl
  obtain ⟨o10, k10⟩ := hone_of hone 10 f10 rfl
  obtain ⟨o11, k11⟩ := hone_of hone 11 f11 rfl
  obtain ⟨o12, k12⟩ := hone_of hone 12 f12 rfl
  have u0 := DataW.trod_le (show n0 ≤ n0 + n1 + n2 + n3 + n4 + n5 + n6 + n7 + n8 + n9 + n10 + n11 + n12 by omega) t0
  have u1 := DataW.trod_le (show n1 ≤ n0 + n1 + n2 + n3 + n4 + n5 + n6 + n7 + n8 + n9 + n10 + n11 + n12 by omega) t1
  have u2 := DataW.trod_le (show n2 ≤ n0 + n1 + n2 + n3 + n4 + n5 + n6 + n7 + n8 + n9 + n10 + n11 + n12 by omega) t2
  have u3 := DataW.trod_le (show n3 ≤ n0 + n1 + n2 + n3 + n4 + n5 + n6 + n7 + n8 + n9 + n10 + n11 + n12 by omega) t3
  have u4 := DataW.trod_le (show n4 ≤ n0 + n1 + n2 + n3 + n4 + n5 + n6 + n7 + n8 + n9 + n10 + n11 + n12 by omega) t4
  have u5 := DataW.trod_le (show n5 ≤ n0 + n1 + n2 + n3 + n4 + n5 + n6 + n7 + n8 + n9 + n10 + n11 + n12 by omega) t5
  have u6 := DataW.trod_le (show n6 ≤ n0 + n1 + n2 + n3 + n4 + n5 + n6 + n7 + n8 + n9 + n10 + n11 + n12 by omega) t6
  have u7 := DataW.trod_le (show n7 ≤ n0 + n1 + n2 + n3 + n4 + n5 + n6 + n7 + n8 + n9 + n10 + n11 + n12 by omega) t7
  have u8 := DataW.trod_le (show n8 ≤ n0 + n1 + n2 + n3 + n4 + n5 + n6 + n7 + n8 + n9 + n10 + n11 + n12 by omega) t8
  have u9 := DataW.trod_le (show n9 ≤ n0 + n1 + n2 + n3 + n4 + n5 + n6 + n7 + n8 + n9 + n10 + n11 + n12 by omega) t9
  have u10 := DataW.trod_le (show n10 ≤ n0 + n1 + n2 + n3 + n4 + n5 + n6 + n7 + n8 + n9 + n10 + n11 + n12 by omega) t10
  have u11 := DataW.trod_le (show n11 ≤ n0 + n1 + n2 + n3 + n4 + n5 + n6 + n7 + n8 + n9 + n10 + n11 + n12 by omega) t11
  have u12 := DataW.trod_le (show n12 ≤ n0 + n1 + n2 + n3 + n4 + n5 + n6 + n7 + n8 + n9 + n10 + n11 + n12 by omega) t12
  have ts := trod_struct_mk (enc := enc) (w := w) (base := base) (spare := spare) (held := held) (n := n0 + n1 + n2 + n3 + n4 + n5 + n6 + n7 + n8 + n9 + n10 + n11 + n12) (cs := [v0, v1, v2, v3, v4, v5, v6, v7, v8, v9, v10, v11, v12]) (xs := [y0, y1, y2, y3, y4, y5, y6, y7, y8, y9, y10, y11, y12]) hs (by simp [hC]) (by simp [o0, k0, o1, k1, o2, k2, o3, k3, o4, k4, o5, k5, o6, k6, o7, k7, o8, k8, o9, k9, o10, k10, o11, k11, o12, k12, u0, u1, u2, u3, u4, u5, u6, u7, u8, u9, u10, u11, u12])
  exact ⟨_, by simpa [Value.cells] using ts⟩
end
end Go.Proofs.YthdflbpmabcjlaaDoor.Aggs
