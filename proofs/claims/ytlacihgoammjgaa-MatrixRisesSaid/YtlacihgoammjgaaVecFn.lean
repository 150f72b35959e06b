/- Package vector: Get, Trim, and two vectors combined by a function that is handed over. -/
import Derived.Test.YtlacihgoammjgaaVecSmall
import Derived.Laws.OwnMore
import Derived.Lib.SliceRun
namespace Go.Proofs.Ytlacihgoammjgaa.Vec
open Go Go.RowKit Go.Proofs.Ytlacihgoammjgaa.Words Go.Proofs.Ytlacihgoammjgaa.Enc Go.Proofs.Ytlacihgoammjgaa.Made Go.Proofs.Ytlacihgoammjgaa.Tape
set_option linter.unusedVariables false
set_option linter.unusedSimpArgs false

set_option maxRecDepth 100000 in
theorem get_at (A : Option Addr) (n c : Nat) (a : List Nat) (i : Nat) (w : World) (hs : SeesU w A n a) :
    Calls Try.prog 66 #[.slice A n c, .int .i64 (i : Int)] w fun e w' => e = .returned (.int .u64 (at_ a i : Int)) ∧ w' = w := by
  have h0 : decide ((i : Int) < 0) = false := decide_eq_false (by omega)
  by_cases hi : i < n
  · obtain ⟨b, o, rfl, hc⟩ := hs.get hi
    generalize at_ a i = x at hc ⊢
    have h1 : decide ((n : Int) ≤ (i : Int)) = false := decide_eq_false (by omega)
    have h2 : (i : Int) < (n : Int) := by omega
    clear hs hi
    go_enter Try.func66, Try.ntmps66
    go_wp2
    go_ret
    exact ⟨rfl, rfl⟩
  · have h1 : n ≤ i := by omega
    rw [at_ge (by rw [hs.1]; omega)]
    clear hs hi
    go_enter Try.func66, Try.ntmps66
    go_wp2
    go_ret
    exact ⟨rfl, rfl⟩
theorem get_any : GetSaid := fun A n c i a w hs _ => (get_at A n c a i w hs).mono fun e w' h => ⟨h.1, by rw [h.2]; exact Below.refl _ _⟩

theorem us_append (a b : List Nat) : us (a ++ b) = us a ++ us b := by simp [us]
theorem of_us_get {l : List Nat} {j : Nat} {u : Value} (h : (us l)[j]? = some u) : ∃ x, l[j]? = some x ∧ u = .int .u64 (x : Int) := by
  unfold us at h
  rw [List.getElem?_map] at h
  cases hx : l[j]? with
  | none => rw [hx] at h; cases h
  | some x => rw [hx] at h; injection h with h; exact ⟨x, rfl, h.symm⟩
/-- append onto what the call owns, of numbers that are seen, wherever they lie. -/
theorem run_appU {P : Program} {w : World} (base : Nat) (t ty e : TypeId) (i : TypeInfo) (z : Value) (ht : P.underlying t = some (.slice e)) (hi : P.info? e = some i) (hz : i.zero = some z)
    (hsize : i.size = 1) (hby : i.bytes = 8) (hzs : z.cells.size = 1)
    (A : Option Addr) (n c : Nat) (l : List Nat) (hown : w.ownsRow base e 1 (.slice A n c) n (us l))
    (S : Option Addr) (m k : Nat) (q : List Nat) (hs : SeesU w S m q) (h63 : n + m ≤ 1000000000000) (hbase : base ≤ w.heap.size) :
    ∃ A' c' w', (Builtin.append_ #[t, t] ty #[.slice A n c, .slice S m k]).run P w = .ok (.slice A' (n + m) c') w' ∧ w'.ownsRow base e 1 (.slice A' (n + m) c') (n + m) (us (l ++ q)) ∧ Below base w w' := by
  have hmx : n + m ≤ maxLen := by unfold maxLen; omega
  cases S with
  | none =>
    have hm : m = 0 := by
      rcases Nat.eq_zero_or_pos m with h0 | h0
      · exact h0
      · obtain ⟨b, o, h, _⟩ := hs.2 h0
        cases h
    subst hm
    have hq : q = [] := List.eq_nil_of_length_eq_zero hs.1
    subst hq
    refine ⟨A, c, w, ?_, by simpa using hown, Below.refl _ _⟩
    rcases hown.2 with ⟨hv, rfl⟩ | ⟨g, cap, cur, hv, _, _, hnc, _⟩
    · injection hv with h1 h2 h3
      subst h1; subst h3
      simp [Builtin.append_, run_underlying ht, sizeOf, typeInfo, hi, Builtin.lenOf, Builtin.firstCells]
    · injection hv with h1 h2 h3
      subst h1; subst h3
      simp [Builtin.append_, run_underlying ht, sizeOf, typeInfo, hi, Builtin.lenOf, Builtin.firstCells, hnc, storeCells]
  | some ad =>
    have hcells : ∀ j u, (us q)[j]? = some u → w.cell? (ad.add j) = some u := by
      intro j u hu
      obtain ⟨y, hy, rfl⟩ := of_us_get hu
      have hj : j < q.length := (List.getElem?_eq_some_iff.1 hy).1
      obtain ⟨b, o, h, hc⟩ := hs.2 (by have := hs.1; omega)
      injection h with h
      subst h
      rw [add_plain]
      exact hc j y hy
    obtain ⟨v', w', hrun, h2, h3, _⟩ := run_append_own (P := P) w base t ty e i z 1 8 ht hi hz hsize hby hzs (by decide) (.slice A n c) n (us l) hown ad m k (us q) (by rw [us_length, hs.1]; simp) hcells (us_one q) hmx (by omega) hbase
    rw [← us_append] at h2
    have hB : Below base w w' := (Below.refl base w).grown h3 hbase fun g hg => (hown.lt g hg).1
    obtain ⟨A', c', rfl⟩ : ∃ A' c', v' = .slice A' (n + m) c' := by
      rcases h2.2 with ⟨rfl, h0⟩ | ⟨g, cap, cur, rfl, _⟩
      · exact ⟨none, 0, by rw [h0]⟩
      · exact ⟨_, cap, rfl⟩
    exact ⟨A', c', w', hrun, h2, hB⟩
theorem eql_none (w : World) (n c : Nat) : (binOp .eql 58 (.slice none n c) (.slice none 0 0)).run Try.prog w = .ok (.bool true) w := by
  rw [Lib.run_eql_slice_nil w 58 30 none n c 0 0 Try.underlying58]
  rfl
theorem eql_some (w : World) (a : Addr) (n c : Nat) : (binOp .eql 58 (.slice (some a) n c) (.slice none 0 0)).run Try.prog w = .ok (.bool false) w := by
  rw [Lib.run_eql_slice_nil w 58 30 (some a) n c 0 0 Try.underlying58]
  rfl
theorem info64 : (Try.prog.info? 30).map (fun i => (i.zero, i.size, i.bytes)) = some (some (.int .u64 0), 1, 8) := by kernel_rfl
/-- The same for the program's own vectors. -/
theorem app_vec (ty : TypeId) (base : Nat) (A : Option Addr) (n c : Nat) (l : List Nat) (w : World) (hown : w.ownsRow base 30 1 (.slice A n c) n (us l))
    (S : Option Addr) (m k : Nat) (q : List Nat) (hs : SeesU w S m q) (h63 : n + m ≤ 1000000000000) (hbase : base ≤ w.heap.size) :
    ∃ A' c' w', (Builtin.append_ #[58, 58] ty #[.slice A n c, .slice S m k]).run Try.prog w = .ok (.slice A' (n + m) c') w' ∧ w'.ownsRow base 30 1 (.slice A' (n + m) c') (n + m) (us (l ++ q)) ∧ Below base w w' := by
  have hi := info64
  cases hc : Try.prog.info? 30 with
  | none => rw [hc] at hi; cases hi
  | some i =>
    rw [hc] at hi
    simp only [Option.map_some, Option.some.injEq, Prod.mk.injEq] at hi
    obtain ⟨hz, hsz, hby⟩ := hi
    exact run_appU base 58 ty 30 i (.int .u64 0) Try.underlying58 hc hz hsz hby rfl A n c l hown S m k q hs h63 hbase

theorem wpList_vec {w : World} {ops : Array Oper} {rest : List Oper} {o : Oper} {a : Act} {Q : Exit → Act → World → Prop} (hgd : o.guard = none) (s x : Operand)
    (ho : o.op = .call { callee := .builtin .append, args := #[s, x], argTypes := #[58, 58] })
    (base : Nat) (A : Option Addr) (n c : Nat) (l : List Nat) (hs : a.eval s = .slice A n c) (hown : w.ownsRow base 30 1 (.slice A n c) n (us l))
    (S : Option Addr) (m k : Nat) (q : List Nat) (hx : a.eval x = .slice S m k) (hq : SeesU w S m q) (h63 : n + m ≤ 1000000000000) (hbase : base ≤ w.heap.size)
    (h : ∀ A' c' w', w'.ownsRow base 30 1 (.slice A' (n + m) c') (n + m) (us (l ++ q)) → Below base w w' → wpList Try.prog ops Q rest (a.put o.dst (.slice A' (n + m) c')) w') : wpList Try.prog ops Q (o :: rest) a w :=
  wpList_plain hgd fun _ hK => by
    obtain ⟨A', c', w', hrun, h2, h3⟩ := app_vec o.type base A n c l w hown S m k q hq h63 hbase
    unfold Oper.wp execOp
    simp only [ho, resolve, invoke, builtin, Sem.run_bind, Sem.run_pure, Result.andThen_ok, List.map_toArray, List.map_cons, List.map_nil, hs, hx, hrun]
    exact hK _ _ (h A' c' w' h2 h3)
/-- The same numbers, in memory of their own. -/
def Clones (w : World) (v : List Nat) (n : Nat) (e : Ending) (w' : World) : Prop :=
  ∃ A' c', e = .returned (.slice A' n c') ∧ w'.ownsRow w.heap.size 30 1 (.slice A' n c') n (us v) ∧ Below w.heap.size w w'
set_option maxRecDepth 100000 in
theorem clone_u (A : Option Addr) (n c : Nat) (v : List Nat) (w : World) (hv : SeesU w A n v) (hn : n ≤ 900000) :
    Calls Try.prog 70 #[.slice A n c] w (Clones w v n) := by
  cases A with
  | none =>
    have h0 : n = 0 := by
      rcases Nat.eq_zero_or_pos n with h | h
      · exact h
      · obtain ⟨b, o, e, _⟩ := hv.2 h
        cases e
    subst h0
    have hl0 : v = [] := List.eq_nil_of_length_eq_zero hv.1
    subst hl0
    have he := eql_none w 0 c
    have FIN : Hid (Clones w [] 0 (.returned (.slice none 0 0)) w) := Lib.hid ⟨none, 0, rfl, Own.nil _ _ _, Below.refl _ _⟩
    go_enter Try.func70, Try.ntmps70
    go_wp2
    go_ret
    exact FIN.out
  | some a =>
    have he := eql_some w a n c
    have hv1 := hv.below ((Below.refl w.heap.size w).alloc (Nat.le_refl _) (.cells #[] 30))
    have hb1 := (Below.refl w.heap.size w).alloc (Nat.le_refl _) (.cells #[] 30)
    have own0 := World.ownsRow_lit (base := w.heap.size) (e := 30) (size := 1) w #[] 0 (Nat.le_refl _) (by decide) rfl
    have hsz : w.heap.size ≤ (w.alloc (.cells #[] 30)).heap.size := hb1.size
    clear hv
    go_enter Try.func70, Try.ntmps70
    go_wp2_with (first | (at_builtin; refine wpList_vec rfl _ _ rfl w.heap.size (some ⟨w.heap.size, 0, none⟩) 0 0 [] rfl own0 (some a) n c v rfl hv1 (by omega) hsz ?_))
    intro A' c' w' own bel
    have FIN : Hid (Clones w v n (.returned (.slice A' n c')) w') := Lib.hid ⟨_, _, rfl, own, hb1.trans bel⟩
    clear hv1 hb1 own bel own0
    go_wp2
    go_ret
    exact FIN.out

/-- The vector without the zeros behind, in memory of its own. -/
def Trims (w : World) (v : List Nat) (n : Nat) (e : Ending) (w' : World) : Prop :=
  ∃ R rc, e = .returned (.slice R (trimN v n) rc) ∧ w'.ownsRow w.heap.size 30 1 (.slice R (trimN v n) rc) (trimN v n) (us (v.take (trimN v n))) ∧ Below w.heap.size w w'
set_option maxRecDepth 100000 in
theorem trim_at (A : Option Addr) (n c : Nat) (v : List Nat) (w : World) (hv : SeesU w A n v) (hc : n ≤ c) (hn : n ≤ 900000) (hc2 : c ≤ 9223372036854775807) :
    Calls Try.prog 67 #[.slice A n c] w (Trims w v n) := by
  obtain ⟨K, hK⟩ : ∃ K, K = trimN v n := ⟨_, rfl⟩
  have hKn : K ≤ n := by rw [hK]; exact trimN_le v n
  have HK := Lib.hid hK.symm
  have CL := Lib.hid (clone_u A K c (v.take K) w (hv.take hKn) (by omega))
  unfold Trims
  rw [← hK]
  clear hK
  go_enter Try.func67, Try.ntmps67
  go_wp2_with fail
  go_loopw [3] (fun x wr => ∃ j : Nat, x = .int .i64 (j : Int) ∧ j ≤ n ∧ Hid (trimN v j = K) ∧ w = wr) (fun x _ => (intOf x).toNat)
  case atStart => exact ⟨n, rfl, Nat.le_refl _, HK, rfl⟩
  case round =>
    obtain ⟨j, rfl, hj, HJ, rfl⟩ := hrel
    by_cases h0 : ∃ k, j = k + 1 ∧ at_ v k = 0
    · obtain ⟨k, rfl, hz⟩ := h0
      obtain ⟨g, o, rfl, hcell⟩ := hv.get (j := k) (by omega)
      rw [hz] at hcell
      have HJ' := Lib.hid (by rw [← trimN_yes hz]; exact HJ.out : trimN v k = K)
      clear hz HJ
      go_wp2
      go_roundw
      case rel => exact ⟨k, by simp, by omega, HJ', by trivial⟩
      case measure => simp [intOf]
    · have hjK : j = K := by
        cases j with
        | zero => exact HJ.out
        | succ k => rw [← HJ.out, trimN_no fun h => h0 ⟨k, rfl, h⟩]
      subst hjK
      by_cases hj0 : j = 0
      · subst hj0
        clear h0 HJ
        cases A with
        | none =>
          go_wp2_with fail
          refine CL.out.mono ?_
          rintro e w2 ⟨R, rc, rfl, h1, h2⟩
          have FIN := Lib.hid (And.intro h1 h2)
          clear h1 h2 CL
          go_wp2
          go_ret
          exact ⟨_, _, rfl, FIN.out⟩
        | some ad =>
          go_wp2_with fail
          refine CL.out.mono ?_
          rintro e w2 ⟨R, rc, rfl, h1, h2⟩
          have FIN := Lib.hid (And.intro h1 h2)
          clear h1 h2 CL
          go_wp2
          go_ret
          exact ⟨_, _, rfl, FIN.out⟩
      · obtain ⟨g, o, rfl, hcell⟩ := hv.get (j := j - 1) (by omega)
        have hne : at_ v (j - 1) ≠ 0 := fun h => h0 ⟨j - 1, by omega, h⟩
        generalize at_ v (j - 1) = z at hcell hne
        have z1 : ((z : Int) == 0) = false := by rw [beq_eq_false_iff_ne]; omega
        clear hne h0 HJ
        go_wp2_with fail
        refine CL.out.mono ?_
        rintro e w2 ⟨R, rc, rfl, h1, h2⟩
        have FIN := Lib.hid (And.intro h1 h2)
        clear h1 h2 CL
        go_wp2
        go_ret
        exact ⟨_, _, rfl, FIN.out⟩

/-! Two vectors, number by number, by a function that is handed over. -/
def uRow (kk : Nat) : Array Value := madeCells #[.int .u64 0] kk
theorem make_u (W : World) (kk : Nat) (hk : kk ≤ 3000000) : (Instr.makeSlice 58 (.int .i64 (kk : Int)) (.int .i64 (kk : Int))).run Try.prog W = .ok (.slice (some ⟨W.heap.size, 0, none⟩) kk kk) (W.alloc (.cells (uRow kk) 30)) := by
  have hi := info64
  cases hc : Try.prog.info? 30 with
  | none => rw [hc] at hi; cases hi
  | some i =>
    rw [hc] at hi
    simp only [Option.map_some, Option.some.injEq, Prod.mk.injEq] at hi
    obtain ⟨hz, hsz, hby⟩ := hi
    have := run_make (P := Try.prog) W 58 30 i (.int .u64 0) Try.underlying58 hc hz .i64 .i64 (kk : Int) (kk : Int) (by omega) (Int.le_refl _) (by rw [hby]; omega) (by omega)
    rw [this, hsz]
    simp only [Int.toNat_natCast, Nat.mul_one]
    rfl
theorem uRow_list (kk : Nat) : (uRow kk).toList = us (List.replicate kk 0) := by
  unfold uRow us
  rw [toList_madeCells_one]
  simp
theorem uRow_own (W : World) (kk : Nat) (hk : kk ≤ 3000000) : (W.alloc (.cells (uRow kk) 30)).ownsRow W.heap.size 30 1 (.slice (some ⟨W.heap.size, 0, none⟩) kk kk) kk (us (List.replicate kk 0)) := by
  have := World.ownsRow_lit (base := W.heap.size) (e := 30) (size := 1) W (uRow kk) kk (Nat.le_refl _) (by unfold maxLen; omega) (by rw [← Array.length_toList, uRow_list]; simp [us])
  rw [uRow_list] at this
  exact this
theorem at_set (l : List Nat) (j x i : Nat) (hj : j < l.length) : at_ (l.set j x) i = if i = j then x else at_ l i := by
  unfold at_
  rw [List.getD_eq_getElem?_getD, List.getElem?_set]
  by_cases h : j = i
  · subst h
    simp [hj]
  · rw [if_neg h, if_neg (fun e => h e.symm), List.getD_eq_getElem?_getD]

/-- The function that Join hands over. -/
theorem pickJoin_any (x y : Nat) (w : World) : Calls Try.prog 57 #[.int .u64 (x : Int), .int .u64 (y : Int)] w fun e w' => e = .returned (.int .u64 ((Nat.max x y : Nat) : Int)) ∧ w' = w := by
  have h : max (x : Int) (y : Int) = ((Nat.max x y : Nat) : Int) := by show _ = ((max x y : Nat) : Int); omega
  obtain ⟨z, hz⟩ : ∃ z, z = Nat.max x y := ⟨_, rfl⟩
  rw [← hz] at h ⊢
  clear hz
  go_enter Try.func57, Try.ntmps57
  go_wp2
  go_ret
  exact ⟨rfl, rfl⟩
set_option maxRecDepth 100000 in
set_option maxHeartbeats 1000000 in
theorem combineJoin_at (hF : ∀ (x y : Nat) (W : World), Calls Try.prog 57 #[.int .u64 (x : Int), .int .u64 (y : Int)] W fun e w' => e = .returned (.int .u64 (Nat.max x y : Int)) ∧ w' = W)
 (h00 : Nat.max 0 0 = 0)
    (A B : Option Addr) (n c m d : Nat) (a b : List Nat) (w : World) (ta : Took2 w A n c a) (tb : Took2 w B m d b) :
    Calls Try.prog 56 #[.slice A n c, .slice B m d, .func (.func 57) #[] #[]] w (Gives w (Nat.max n m) fun i => Nat.max (at_ a i) (at_ b i)) := by
  obtain ⟨N, hN⟩ : ∃ N, N = Nat.max n m := ⟨_, rfl⟩
  rw [← hN]
  have hmax : max (n : Int) (m : Int) = (N : Int) := by rw [hN]; show max (n : Int) (m : Int) = ((max n m : Nat) : Int); omega
  have hN2 : N ≤ 900000 := by rw [hN]; exact Nat.max_le.2 ⟨ta.2.2.2.2, tb.2.2.2.2⟩
  have hnN : n ≤ N := by rw [hN]; exact Nat.le_max_left _ _
  have hmN : m ≤ N := by rw [hN]; exact Nat.le_max_right _ _
  have hmk := fun W => make_u W N (by omega)
  clear hN
  go_enter Try.func56, Try.ntmps56
  go_wp2_with fail
  have bel0 : Below w.heap.size w (w.alloc (.cells (uRow N) 30)) := (Below.refl _ _).alloc (Nat.le_refl _) _
  have own0 := uRow_own w N (by omega)
  generalize w.alloc (.cells (uRow N) 30) = w0 at bel0 own0 ⊢
  have SEE : Hid (∀ W, Below w.heap.size w W → SeesU W A n a ∧ SeesU W B m b) := Lib.hid fun W hW => ⟨ta.1.below hW, tb.1.below hW⟩
  have LEN := Lib.hid (And.intro ta.1.1 tb.1.1)
  clear ta tb hmax hmk
  go_loopw [17] (fun v wr => ∃ (j : Nat) (l : List Nat), v = .int .i64 (j : Int) ∧ j ≤ N ∧ Hid (l.length = N ∧ ∀ i, i < j → at_ l i = Nat.max (at_ a i) (at_ b i)) ∧
    wr.ownsRow w.heap.size 30 1 (.slice (some ⟨w.heap.size, 0, none⟩) N N) N (us l) ∧ Below w.heap.size w wr) (fun v _ => N - (intOf v).toNat)
  case atStart => exact ⟨0, List.replicate N 0, rfl, by omega, ⟨List.length_replicate, fun i hi => absurd hi (by omega)⟩, own0, bel0⟩
  case round =>
    obtain ⟨j, l, rfl, hj, HL, own, bel⟩ := hrel
    by_cases hlt : j < N
    · have hcell : wr.cell? ⟨w.heap.size, j, none⟩ = some (.int .u64 (at_ l j : Int)) := by
        rw [own.cellAt j (by omega), us_get (at_lt (by rw [HL.out.1]; exact hlt))]
      have hfr : wr.frozen? ⟨w.heap.size, j, none⟩ = false := own.frozenAt j
      have hst := own.stored j (.int .u64 (Nat.max (at_ a j) (at_ b j) : Int))
      have hset : (us l).set j (.int .u64 (Nat.max (at_ a j) (at_ b j) : Int)) = us (l.set j (Nat.max (at_ a j) (at_ b j))) := by simp [us, List.map_set]
      rw [hset] at hst
      have HL2 : Hid ((l.set j (Nat.max (at_ a j) (at_ b j))).length = N ∧ ∀ i, i < j + 1 → at_ (l.set j (Nat.max (at_ a j) (at_ b j))) i = Nat.max (at_ a i) (at_ b i)) := Lib.hid ⟨by rw [List.length_set]; exact HL.out.1, fun i hi => by
        rw [at_set _ _ _ _ (by rw [HL.out.1]; exact hlt)]
        split
        · rename_i h; rw [h]
        · exact HL.out.2 i (by omega)⟩
      have bel2 := bel.setCell (p := ⟨w.heap.size, j, none⟩) (Nat.le_refl _) (.int .u64 (Nat.max (at_ a j) (at_ b j) : Int))
      have FF := Lib.hid (hF (at_ a j) (at_ b j) wr)
      have HST := Lib.hid hst.1
      have G1 := Lib.hid (get_at A n c a j wr (SEE.out wr bel).1)
      have G2 := Lib.hid (get_at B m d b j wr (SEE.out wr bel).2)
      have h1 : (j : Int) < (N : Int) := by omega
      have BEL2 := Lib.hid bel2
      clear hset hst bel2 own bel HL
      generalize Nat.max (at_ a j) (at_ b j) = v at HL2 BEL2 FF HST
      generalize at_ l j = u at hcell
      generalize at_ a j = x at FF G1
      generalize at_ b j = y at FF G2
      go_wp2_with fail
      refine G1.out.mono ?_
      rintro e w4 ⟨rfl, hw4⟩
      subst hw4
      go_wp2_with fail
      refine G2.out.mono ?_
      rintro e w5 ⟨rfl, hw5⟩
      subst hw5
      go_wp2_with fail
      refine FF.out.mono ?_
      rintro e w6 ⟨rfl, hw6⟩
      subst hw6
      clear FF G1 G2
      go_wp2
      go_roundw
      case rel => exact ⟨j + 1, l.set j v, by simp, by omega, HL2, HST.out, BEL2.out⟩
      case measure => simp [intOf]; omega
    · obtain rfl : j = N := by omega
      have sl := SeesU.of_own own
      have TR := Lib.hid (trim_at (some ⟨w.heap.size, 0, none⟩) j j l wr sl (Nat.le_refl _) hN2 (by omega))
      have FIN : Hid (∀ (R : Option Addr) (rc : Nat) (W : World), W.ownsRow wr.heap.size 30 1 (.slice R (trimN l j) rc) (trimN l j) (us (l.take (trimN l j))) → Below wr.heap.size wr W → Gives w j (fun i => Nat.max (at_ a i) (at_ b i)) (.returned (.slice R (trimN l j) rc)) W) := Lib.hid fun R rc W hown hbe => by
        have hle := trimN_le l j
        refine ⟨_, _, _, trimL l, rfl, ?_, (Own.cap hown).1, (Own.cap hown).2, hle, trimL_trimmed l, fun i => ?_, bel.trans (hbe.mono bel.size)⟩
        · unfold trimL
          rw [HL.out.1]
          exact SeesU.of_own hown
        · show at_ (trimL l) i = Nat.max (at_ a i) (at_ b i)
          rw [trimL_at]
          rcases Nat.lt_or_ge i j with h | h
          · exact HL.out.2 i h
          · rw [at_ge (by rw [HL.out.1]; exact h), at_ge (l := a) (by rw [LEN.out.1]; omega), at_ge (l := b) (by rw [LEN.out.2]; omega), h00]
      clear own bel sl HL
      go_wp2_with fail
      refine TR.out.mono ?_
      rintro e w4 ⟨R, rc, rfl, hown, hbe⟩
      have F2 := Lib.hid (FIN.out R rc w4 hown hbe)
      clear hown hbe TR FIN
      go_wp2
      go_ret
      exact F2.out

set_option maxRecDepth 100000 in
theorem join_any : JoinSaid := fun A B n c m d a b w ta tb => by
  have C := Lib.hid (combineJoin_at (fun x y W => pickJoin_any x y W) rfl A B n c m d a b w ta tb)
  clear ta tb
  go_enter Try.func38, Try.ntmps38
  go_wp2_with fail
  refine C.out.mono ?_
  rintro e w4 ⟨R, k, rc, l, rfl, h1, h2, h3, h4, h5, h6, h7⟩
  have F := Lib.hid (show Gives w _ _ (.returned (.slice R k rc)) w4 from ⟨R, k, rc, l, rfl, h1, h2, h3, h4, h5, h6, h7⟩)
  clear h1 h2 h3 h4 h5 h6 h7 C
  go_wp2
  go_ret
  exact F.out

end Go.Proofs.Ytlacihgoammjgaa.Vec
