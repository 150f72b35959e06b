/- segment.Split: its contract. -/
import Derived.Test.YtdelppndoepkbaaDoorSegParse
namespace Go.Proofs.YtdelppndoepkbaaDoor.Seg
open Go Go.RowKit Go.Proofs.YtdelppndoepkbaaDoor.Words Go.Proofs.YtdelppndoepkbaaDoor.Enc Go.Proofs.YtdelppndoepkbaaDoor.Made
set_option linter.unusedVariables false

/-- What strconv.ParseUint(s, 16, 64) answers. -/
def PuSays (l : List UInt8) (w : World) (e : Ending) (w' : World) : Prop :=
  ((∃ v : Nat, e = .returned (.tuple #[.int .u64 (v : Int), .nilIface]) ∧ Parsed l v False) ∨ (∃ (v : Nat) (T : TypeId) (x : Value), e = .returned (.tuple #[.int .u64 (v : Int), .iface T x]) ∧ Parsed l v True)) ∧ Below w.heap.size w w'

set_option maxRecDepth 100000 in
theorem parseUint_any (t : ByteArray) (ht : t.size ≤ 1000000) (w : World) (T : STabs w) :
    Calls Tryd.prog 14 #[.string t, .int .i64 16, .int .i64 64] w (PuSays t.data.toList w) := by
  obtain ⟨u1, v1, hes⟩ := T.es
  obtain ⟨u2, v2, her⟩ := T.er
  go_enter Tryd.func14, Tryd.ntmps14
  go_wp2_with fail
  refine (parse_16 t ht w).mono ?_
  rintro e w1 ⟨⟨v, rfl, hp⟩ | ⟨v, E, hE, rfl, hp⟩, hb⟩
  · go_wp2
    go_ret2
    exact ⟨.inl ⟨v, rfl, hp⟩, hb⟩
  · rcases hE with rfl | rfl
    · go_wp2_with fail
      refine (Tryd.strconv_toError_range _ t 16 64 _ w1 (by omega) (cell_below her hb) (.inr ⟨u2, v2, rfl⟩)).mono ?_
      rintro e w2 ⟨N, rfl, _, _, hb2⟩
      have hb3 := hb.trans (hb2.mono hb.size)
      go_wp2
      go_ret2
      exact ⟨.inr ⟨v, _, _, rfl, hp⟩, hb3⟩
    · go_wp2_with fail
      refine (Tryd.strconv_toError_syntax _ t 16 64 _ w1 (by omega) (cell_below hes hb) (.inr ⟨u1, v1, rfl⟩)).mono ?_
      rintro e w2 ⟨N, rfl, _, _, hb2⟩
      have hb3 := hb.trans (hb2.mono hb.size)
      go_wp2
      go_ret2
      exact ⟨.inr ⟨v, _, _, rfl, hp⟩, hb3⟩

/-- What strconv.Atoi answers. -/
def AtoiSays (l : List UInt8) (w : World) (e : Ending) (w' : World) : Prop :=
  ((∃ v : Int, -9223372036854775808 ≤ v ∧ v ≤ 9223372036854775807 ∧ e = .returned (.tuple #[.int .i64 v, .nilIface]) ∧ ∀ v', Lib.atoiAll l = .ok v' → v = v') ∨ (∃ (v : Int) (T : TypeId) (x : Value), e = .returned (.tuple #[.int .i64 v, .iface T x]) ∧ ∀ v', Lib.atoiAll l ≠ .ok v')) ∧ Below w.heap.size w w'
theorem atoi_any (t : ByteArray) (ht : t.size ≤ 1000000) (w : World) (T : STabs w) :
    Calls Tryd.prog 13 #[.string t] w (AtoiSays t.data.toList w) := by
  obtain ⟨u1, v1, hes⟩ := T.es
  obtain ⟨u2, v2, her⟩ := T.er
  cases h : Lib.atoiAll t.data.toList with
  | ok v =>
    refine (Tryd.strconv_Atoi_ok t (by omega) v h w).mono ?_
    rintro e w1 ⟨rfl, hw⟩
    obtain ⟨b0, b1⟩ := Lib.atoiAll_bounds h
    refine ⟨.inl ⟨v, b0, b1, rfl, fun v' h' => by rw [h] at h'; injection h'⟩, ?_⟩
    rcases hw with rfl | ⟨t', rfl⟩
    · exact Below.refl _ _
    · exact Lib.bytesWorld_below _ _ _
  | «syntax» =>
    refine (Tryd.strconv_Atoi_syntax t (by omega) h _ w hes (.inr ⟨u1, v1, rfl⟩)).mono ?_
    rintro e w1 ⟨N, rfl, _, _, hb⟩
    exact ⟨.inr ⟨_, _, _, rfl, fun v' h' => by rw [h] at h'; cases h'⟩, hb⟩
  | range =>
    refine (Tryd.strconv_Atoi_range t (by omega) h _ w her (.inr ⟨u2, v2, rfl⟩)).mono ?_
    rintro e w1 ⟨N, rfl, _, _, hb⟩
    exact ⟨.inr ⟨_, _, _, rfl, fun v' h' => by rw [h] at h'; cases h'⟩, hb⟩

/-- strings.Cut at '-'. -/
def cutL (l : List UInt8) : List UInt8 × List UInt8 × Bool :=
  if 0 ≤ Lib.indexByte l 45 then (l.take (Lib.indexByte l 45).toNat, l.drop ((Lib.indexByte l 45).toNat + 1), true) else (l, [], false)
def cutV (l : List UInt8) : Value := .tuple #[.string ⟨(cutL l).1.toArray⟩, .string ⟨(cutL l).2.1.toArray⟩, .bool (cutL l).2.2]
theorem indexByte_le : ∀ l : List UInt8, -1 ≤ Lib.indexByte l 45 ∧ Lib.indexByte l 45 < (l.length : Int) + 0 ∨ Lib.indexByte l 45 = -1
  | [] => .inr rfl
  | a :: l => by
    have ih := indexByte_le l
    simp only [Lib.indexByte]
    by_cases h1 : (a == 45) = true
    · rw [if_pos h1]; exact .inl ⟨by omega, by simp⟩
    · rw [if_neg h1]
      by_cases h2 : (Lib.indexByte l 45 == -1) = true
      · rw [if_pos h2]; exact .inr rfl
      · rw [if_neg h2]
        have h3 : Lib.indexByte l 45 ≠ -1 := by simpa using h2
        rcases ih with ⟨h4, h5⟩ | h4
        · exact .inl ⟨by omega, by rw [List.length_cons]; omega⟩
        · exact absurd h4 h3

set_option maxRecDepth 100000 in
theorem cutS_any (l : List UInt8) (hl : l.length ≤ 1000000) (w : World) :
    Calls Tryd.prog 24 #[.string ⟨l.toArray⟩, .string ⟨#[45]⟩] w fun e w' => e = .returned (cutV l) ∧ ∃ n, w' = w.drewN n := by
  have hix := fun W => Tryd.stringslite_Index_one ⟨l.toArray⟩ 45 W
  have hle := indexByte_le l
  rw [show (⟨l.toArray⟩ : ByteArray).data.toList = l by simp] at hix
  by_cases h : 0 ≤ Lib.indexByte l 45
  · obtain ⟨i, hi⟩ := Int.eq_ofNat_of_zero_le h
    have hil : i < l.length := by omega
    have hcv : cutV l = .tuple #[.string ⟨(l.take i).toArray⟩, .string ⟨(l.drop (i + 1)).toArray⟩, .bool true] := by
      unfold cutV cutL
      rw [if_pos h, hi]
      simp
    rw [hi] at hix
    rw [hcv]
    obtain ⟨s, hs⟩ : ∃ s : ByteArray, s = ⟨l.toArray⟩ := ⟨_, rfl⟩
    have hsz : s.size = l.length := by rw [hs]; simp [ByteArray.size]
    have e1 : s.extract 0 i = ⟨(l.take i).toArray⟩ := by rw [hs]; apply ByteArray.ext; simp
    have e2 : s.extract (i + 1) s.size = ⟨(l.drop (i + 1)).toArray⟩ := by
      rw [hs]; apply ByteArray.ext
      simp [ByteArray.size, List.take_of_length_le]
    rw [← hs] at hix ⊢
    rw [← e1, ← e2]
    have c1 : (0 : Int) ≤ (i : Int) := by omega
    have c2 : (i : Int) ≤ (s.size : Int) := by omega
    have c3 : (0 : Int) ≤ (i : Int) + 1 := by omega
    have c4 : ((i : Int) + 1) ≤ (s.size : Int) := by omega
    have c5 : (i : Int) ≤ 1000000 := by omega
    clear hle h hi hcv e1 e2 hs hsz hil hl
    go_enter Tryd.func24, Tryd.ntmps24
    go_wp2_with fail
    refine (hix w).mono ?_
    rintro e w1 ⟨rfl, rfl⟩
    go_wp2
    go_region
    go_wp2
    go_ret3
    exact ⟨rfl, 1, rfl⟩
  · have h1 : Lib.indexByte l 45 = -1 := by omega
    have hcv : cutV l = .tuple #[.string ⟨l.toArray⟩, .string ⟨#[]⟩, .bool false] := by
      unfold cutV cutL
      rw [if_neg h]
    rw [h1] at hix
    rw [hcv]
    clear hle h hcv
    go_enter Tryd.func24, Tryd.ntmps24
    go_wp2_with fail
    refine (hix w).mono ?_
    rintro e w1 ⟨rfl, rfl⟩
    go_wp2
    go_ret3
    exact ⟨rfl, 0, rfl⟩
set_option maxRecDepth 100000 in
theorem cut_any (l : List UInt8) (hl : l.length ≤ 1000000) (w : World) :
    Calls Tryd.prog 11 #[.string ⟨l.toArray⟩, .string ⟨#[45]⟩] w fun e w' => e = .returned (cutV l) ∧ ∃ n, w' = w.drewN n := by
  have hc := cutS_any l hl w
  unfold cutV at hc ⊢
  go_enter Tryd.func11, Tryd.ntmps11
  go_wp2_with fail
  refine hc.mono ?_
  rintro e w1 ⟨rfl, n, rfl⟩
  go_wp2
  go_ret3
  exact ⟨rfl, n, rfl⟩

/-- A text that begins with 'feed-', behind it. -/
def afterL (l : List UInt8) : List UInt8 := Lib.trimPrefix l [102, 101, 101, 100, 45]
theorem after_len (l : List UInt8) : (afterL l).length ≤ l.length := by
  unfold afterL Lib.trimPrefix
  split
  · rw [List.length_drop]; omega
  · exact Nat.le_refl _
theorem cut_len (l : List UInt8) : (cutL l).1.length ≤ l.length ∧ (cutL l).2.1.length ≤ l.length := by
  unfold cutL
  split
  · simp only [List.length_take, List.length_drop]; omega
  · simp
/-- What Split answers: a writer and a number of which it is the name, or nothing. -/
def Splits (l : List UInt8) (w : World) (e : Ending) (w' : World) : Prop :=
  ((∃ (x : Int) (v : Nat), -9223372036854775808 ≤ x ∧ x ≤ 9223372036854775807 ∧ v < 18446744073709551616 ∧ e = .returned (.tuple #[.int .i64 x, .int .u64 (v : Int), .bool true]) ∧ nameL x v = l ∧ (∀ (n u : Nat), n < 256 → u < 18446744073709551616 → l = nameL (n : Int) u → x = (n : Int) ∧ v = u)) ∨
   (e = .returned (.tuple #[.int .i64 0, .int .u64 0, .bool false]) ∧ ∀ (n u : Nat), n < 256 → u < 18446744073709551616 → l ≠ nameL (n : Int) u)) ∧ Below w.heap.size w w'
theorem name_parts {n u : Nat} (hn : n < 256) : (cutL (afterL (nameL (n : Int) u))).1 = dig3 n ∧ (cutL (afterL (nameL (n : Int) u))).2.1 = hexP 16 u := by
  have h1 : afterL (nameL (n : Int) u) = dig3 n ++ 45 :: hexP 16 u := by
    unfold afterL nameL beginL Lib.trimPrefix
    rw [itoa_dig3 hn]
    simp [Lib.hasPrefix]
  have h2 := indexByte_at (dig3 n) (hexP 16 u) (dig3_no45 hn)
  rw [h1]
  unfold cutL
  rw [h2, if_pos (by omega)]
  simp
theorem name_atoi {n : Nat} (hn : n < 256) : Lib.atoiAll (dig3 n) = .ok (n : Int) := (dig3_facts ⟨n, hn⟩).1

set_option maxRecDepth 100000 in
set_option maxHeartbeats 1000000 in
theorem split_any (l : List UInt8) (hl : l.length ≤ 100000) (w : World) (T : STabs w) :
    Calls Tryd.prog 6 #[.string ⟨l.toArray⟩] w (Splits l w) := by
  have htrim := Tryd.strings_TrimPrefix ⟨l.toArray⟩ ⟨#[102, 101, 101, 100, 45]⟩ w
  rw [show (⟨l.toArray⟩ : ByteArray).data.toList = l by simp, show (⟨#[102, 101, 101, 100, 45]⟩ : ByteArray).data.toList = [102, 101, 101, 100, 45] from rfl] at htrim
  have ha := after_len l
  have hcl := cut_len (afterL l)
  have hcut := cut_any (afterL l) (by omega)
  have NP : Hid (∀ n u : Nat, n < 256 → l = nameL (n : Int) u → (cutL (afterL l)).1 = dig3 n ∧ (cutL (afterL l)).2.1 = hexP 16 u) := Lib.hid (fun n u hn h => by
    rw [h]; exact name_parts hn)
  unfold cutV at hcut
  generalize (cutL (afterL l)).2.2 = B at hcut
  generalize (cutL (afterL l)).1 = p at hcut hcl NP
  generalize (cutL (afterL l)).2.1 = q at hcut hcl NP
  change Calls _ _ _ _ (fun e w' => e = Ending.returned (.string ⟨(afterL l).toArray⟩) ∧ w' = w) at htrim
  generalize afterL l = r at htrim hcut ha hcl
  have hat := fun W hT => atoi_any ⟨p.toArray⟩ (by simp [ByteArray.size]; omega) W hT
  have hpu := fun W hT => parseUint_any ⟨q.toArray⟩ (by simp [ByteArray.size]; omega) W hT
  rw [show (⟨p.toArray⟩ : ByteArray).data.toList = p by simp] at hat
  rw [show (⟨q.toArray⟩ : ByteArray).data.toList = q by simp] at hpu
  clear ha hcl
  go_enter Tryd.func6, Tryd.ntmps6
  go_wp2_with fail
  refine htrim.mono ?_
  rintro e w1 ⟨rfl, rfl⟩
  go_wp2_with fail
  refine (hcut w1).mono ?_
  rintro e w2 ⟨rfl, k, rfl⟩
  have T2 : STabs (w1.drewN k) := T.below ⟨rfl, rfl, rfl, Nat.le_refl _, fun _ _ => rfl⟩
  have b2 : Below w1.heap.size w1 (w1.drewN k) := ⟨rfl, rfl, rfl, Nat.le_refl _, fun _ _ => rfl⟩
  generalize w1.drewN k = w2 at T2 b2 ⊢
  clear hcut htrim
  go_wp2_with fail
  refine (hat w2 T2).mono ?_
  rintro e w3 ⟨hres, hb3⟩
  have b3 := b2.trans (hb3.mono b2.size)
  have T3 := T2.below hb3
  clear hat
  have NO : (¬ ∃ v, Lib.atoiAll p = .ok v) ∨ (∀ f, f < 18446744073709551616 → q ≠ hexP 16 f) → Hid (∀ (n u : Nat), n < 256 → u < 18446744073709551616 → l ≠ nameL (n : Int) u) := fun h => Lib.hid (fun n u hn hu he => by
    obtain ⟨h1, h2⟩ := NP.out n u hn he
    rcases h with h | h
    · exact h ⟨_, by rw [h1]; exact name_atoi hn⟩
    · exact h u hu h2)
  rcases hres with ⟨x, x0, x1, rfl, hx⟩ | ⟨x, Tx, y, rfl, hx⟩
  · go_wp2_with fail
    refine (hpu w3 T3).mono ?_
    rintro e w4 ⟨hres, hb4⟩
    have b4 := b3.trans (hb4.mono b3.size)
    have T4 := T3.below hb4
    clear hpu
    rcases hres with ⟨v, rfl, hv, _, hv2⟩ | ⟨v, Tv, y, rfl, hv, hv2, _⟩
    · have hnm := name_any x v x0 x1 hv w4 T4
      have FIT : Hid (∀ n u : Nat, n < 256 → u < 18446744073709551616 → l = nameL (n : Int) u → x = (n : Int) ∧ v = u) := Lib.hid (fun n u hn hu he => by
        obtain ⟨h1, h2⟩ := NP.out n u hn he
        exact ⟨hx _ (by rw [h1]; exact name_atoi hn), hv2 (fun h => h) u hu h2⟩)
      obtain ⟨N, hN⟩ : ∃ N, N = nameL x v := ⟨_, rfl⟩
      rw [← hN] at hnm
      have HN := Lib.hid hN
      clear hN hx hv2 NO NP
      by_cases hNl : N = l
      · have heq : (N == l) = true := by rw [hNl]; simp
        have HNL := Lib.hid hNl
        clear hNl
        go_wp2_with fail
        refine hnm.mono ?_
        rintro e w5 ⟨rfl, hb5⟩
        have b5 := b4.trans (hb5.mono b4.size)
        clear hnm
        go_wp2
        go_ret3
        exact ⟨.inl ⟨x, v, x0, x1, hv, rfl, by rw [← HN.out]; exact HNL.out, FIT.out⟩, b5⟩
      · have heq : (N == l) = false := by simpa using hNl
        have F : Hid (∀ n u : Nat, n < 256 → u < 18446744073709551616 → l ≠ nameL (n : Int) u) := Lib.hid (fun n u hn hu he => by
          obtain ⟨h1, h2⟩ := FIT.out n u hn hu he
          have := HN.out
          rw [h1, h2, ← he] at this
          exact hNl this)
        clear hNl FIT
        go_wp2_with fail
        refine hnm.mono ?_
        rintro e w5 ⟨rfl, hb5⟩
        have b5 := b4.trans (hb5.mono b4.size)
        clear hnm
        go_wp2
        go_ret3
        exact ⟨.inr ⟨rfl, F.out⟩, b5⟩
    · have F := NO (.inr (hv2 trivial))
      clear hx hv2 NO
      go_wp2
      go_ret3
      exact ⟨.inr ⟨rfl, F.out⟩, b4⟩
  · have F := NO (.inl fun ⟨v, h⟩ => hx v h)
    clear hx NO
    go_wp2_with fail
    refine (hpu w3 T3).mono ?_
    rintro e w4 ⟨hres, hb4⟩
    have b4 := b3.trans (hb4.mono b3.size)
    clear hpu
    rcases hres with ⟨v, rfl, _⟩ | ⟨v, Tv, z, rfl, _⟩
    · go_wp2
      go_ret3
      exact ⟨.inr ⟨rfl, F.out⟩, b4⟩
    · go_wp2
      go_ret3
      exact ⟨.inr ⟨rfl, F.out⟩, b4⟩
end Go.Proofs.YtdelppndoepkbaaDoor.Seg
