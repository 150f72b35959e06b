/- FeedFolds, walked. -/
import Derived.Test.YtkphklmgbdljiaaGreatDoorFdSt
import Derived.Test.YtkphklmgbdljiaaGreatDoorFdBeg
namespace Go.Proofs.YtkphklmgbdljiaaGreatDoor.Fd
open Go Go.RowKit Go.Proofs.YtkphklmgbdljiaaGreatDoor.Words Go.Proofs.YtkphklmgbdljiaaGreatDoor.Enc Go.Proofs.YtkphklmgbdljiaaGreatDoor.Evt Go.Proofs.YtkphklmgbdljiaaGreatDoor.Made Go.Proofs.YtkphklmgbdljiaaGreatDoor.Dsk Go.Proofs.YtkphklmgbdljiaaGreatDoor.Sht Go.Proofs.YtkphklmgbdljiaaGreatDoor.Seg
set_option linter.unusedVariables false
set_option linter.unusedSimpArgs false

theorem beginSaid : BeginSaid := begin_at
/-- The law's feed at its start. -/
theorem StF.start (w0 w : World) (d f : Nat) (sz : Int) (S : List Nat) (T : TabsOn (S ++ [f]) w) (hd : Disk w d S [] (hdA 0)) (g : w.heap[f]? = some (.cells (cells d ((3 : Nat) : Int) sz 0 0 (.slice none 0 0) 0) 60 (0, 0))) (hf : f ∉ S) (hS : ∀ b ∈ S ++ [f], w0.heap.size ≤ b) (hb : Below w0.heap.size w0 w) :
    StF w0 w d f sz 0 0 0 0 0 1 [] 0 0 (S ++ [f]) :=
  ⟨⟨[], none, 0, S, rfl, rfl, ⟨hd, g, ⟨by decide, .inl ⟨rfl, rfl⟩⟩, fun r hr => by simp at hr, hf, fun g hg => by simp [blk] at hg⟩⟩, T, ⟨⟨trivial, by omega, by simp [evsP], by omega, by simp [evsP]⟩, by simp, fun p hp => by simp at hp⟩, by simp [evsP], .inl ⟨by simp [evsP], rfl⟩, by omega, hS, hb⟩

theorem evE_comes {A seq time : Nat} (h1 : 1 ≤ seq) (h2 : seq < 9223372036854775808) (h3 : 1 ≤ time) (h4 : time < 9223372036854775808) : Comes 3 seq (evE A seq time) :=
  ⟨rfl, rfl, evE_right h1 h2 h3 h4, evE_fit h2 h4, evE_plain, by have := evE_text (A := A) (seq := seq) (time := time); omega, by rw [evE_key]; omega⟩

set_option maxRecDepth 100000 in
set_option maxHeartbeats 2000000 in
theorem folds_law (n0 n1 n2 n3 : Nat) (sync : Bool) (w : World) (TC : Chk.Tabs w) (ST : STabs w) (h0 : n0 < 256) (h1 : n1 < 256) (h2 : n2 < 18446744073709551616) (h3 : n3 < 18446744073709551616) :
    Calls Tryz.prog 4 #[.int .u8 (n0 : Int), .int .u8 (n1 : Int), .int .u64 (n2 : Int), .int .u64 (n3 : Int), .bool sync] w fun e w' => e = .returned (.bool true) ∧ Below w.heap.size w w' := by
  obtain ⟨k, hk⟩ : ∃ k, k = n0 % 8 := ⟨_, rfl⟩
  have hki : (n0 : Int) % 8 = (k : Int) := by omega
  have hk8 : k < 8 := by omega
  clear hk
  go_enter Tryz.func4, Tryz.ntmps4
  go_wp2_with fail
  refine (awake9 w ST).mono ?_
  rintro e w1 ⟨rfl, hb1⟩
  go_wp2_with fail
  refine (newC 65536 w1).mono ?_
  rintro e w2 ⟨d, S, rfl, hd, hS, hb2⟩
  have b2 := hb1.trans (hb2.mono hb1.size)
  go_wp2_with fail
  refine (openN d S _ 3 40 0 0 w2 (ST.below b2) hd rfl (by omega) (by omega)).mono ?_
  rintro e w3 ⟨f, rfl, hf, g, hb3⟩
  have b3 := b2.trans (hb3.mono b2.size)
  have hS3 : ∀ b ∈ S ++ [f], w.heap.size ≤ b := fun b hb => by
    rcases List.mem_append.1 hb with h | h
    · exact Nat.le_trans hb1.size (hS b h)
    · simp at h; subst h; exact Nat.le_trans b2.size hf
  have s0 := Lib.hid (StF.start w w3 d f 40 S (TabsOn.of TC ST b3 hS3) (hd.below hb3) g (fun hm => by have := hd.lt f hm; omega) hS3 b3)
  clear hb1 hd hS hb2 b2 hf g hb3 b3 hS3
  go_wp2_with fail
  rw [hki]
  clear hki
  go_loopw [15] (fun v wr => ∃ (j : Nat) (P : List Part) (safe acts : Nat) (O : List Nat), v = .int .i64 (j : Int) ∧ j ≤ k ∧ Hid (StF w wr d f 40 0 0 j j (30 * j) 1 P safe acts O)) (fun v _ => k - (intOf v).toNat)
  case atStart => exact ⟨0, [], 0, 0, S ++ [f], rfl, Nat.zero_le _, s0⟩
  case round =>
    obtain ⟨j, P, safe, acts, O, rfl, hj, HS⟩ := hrel
    by_cases hlt : j < k
    · have hj1 : wrap64 ((j : Int) + 1) = ((j + 1 : Nat) : Int) := intWrap_small j (by omega)
      go_wp2_with fail
      refine (event9 0 n0 (j + 1) (j + 1) wr h0).mono ?_
      rintro e w4 ⟨Be, me, ke, rfl, hs, hme, hke, hfr, hb4⟩
      have hout := hfr.out HS.out.feed.lt
      have ADD := Lib.hid ((HS.out.below hb4).add beginSaid (by omega) (by omega) (evE n0 (j + 1) (j + 1)) Be me ke (evE_comes (by omega) (by omega) (by omega) (by omega)) (by show 1 + n0 % 4 ≤ 5; omega) hs hout (Nat.lt_succ_self j))
      clear hs hme hke hfr hb4 hout
      go_wp2_with fail
      refine ADD.out.mono ?_
      rintro e w5 ⟨rfl, P', safe', acts', O', s5, _⟩
      have S5 := Lib.hid s5
      clear s5 ADD
      go_wp2
      go_roundw
      case rel => exact ⟨j + 1, P', safe', acts', O', by first | rfl | simp, by omega, S5⟩
      case measure => simp [intOf]; omega
    · have hjk : k = j := by omega
      subst hjk
      go_wp2_with fail
      refine (HS.out.sync (by omega) (by omega)).mono ?_
      rintro e w4 ⟨rfl, P4, safe4, acts4, O4, s4, hN4⟩
      obtain ⟨m, hm⟩ : ∃ m, m = n1 % (k + 1) := ⟨_, rfl⟩
      have hmk : m ≤ k := by have := Nat.mod_lt n1 (show 0 < k + 1 by omega); omega
      have hmi : (n1 : Int) % ((k : Int) + 1) = (m : Int) := by rw [hm]; rfl
      have S4 := Lib.hid s4
      have HN4 := Lib.hid hN4
      have hkd : ¬ (k : Int) + 1 = 0 := by omega
      have hw1 : wrap64 ((k : Int) + 1) = ((k + 1 : Nat) : Int) := intWrap_small k (by omega)
      clear s4 hN4
      go_wp2_with fail
      rw [hmi]
      clear hmi hkd hm
      go_wp2_with fail
      refine (S4.out.foldYes (by omega) (by omega) m m (by omega) (Nat.zero_le _) hmk HN4.out).mono ?_
      rintro e w5 ⟨rfl, u5, P5, safe5, acts5, O5, s5, hN5⟩
      have ht5 : (if m = k then max 0 m else k) = k := by split <;> omega
      rw [ht5] at s5
      have S5 := Lib.hid s5
      have HN5 := Lib.hid hN5
      clear s5 hN5 ht5 HN4 S4
      obtain ⟨q, hq⟩ : ∃ q, q = n2 % 10 := ⟨_, rfl⟩
      have hqi : (n2 : Int) % 10 = (q : Int) := by omega
      have hq10 : q < 10 := by omega
      cases hsy : sync with
      | true =>
        go_wp2_with fail
        rw [hqi]
        clear hq hqi hsy
        go_wp2_with fail
        by_cases hq1 : m ≤ q
        · by_cases hq2 : q ≤ k
          · refine (S5.out.foldYes (by omega) (by omega) q n3 h3 hq1 hq2 HN5.out).mono ?_
            rintro e w6 ⟨rfl, u6, P6, safe6, acts6, O6, s6, hN6⟩
            have S6 := Lib.hid s6
            clear s6 hN6
            go_wp2_with fail
            refine (S6.out.floorF).mono ?_
            rintro e w8 ⟨rfl, rfl⟩
            go_wp2_with fail
            refine (S6.out.nextF).mono ?_
            rintro e w9 ⟨rfl, hb9⟩
            have hfin := Lib.hid (S6.out.below hb9).base
            clear hb9
            go_wp2
            go_ret
            exact ⟨by simp, hfin.out⟩
          · refine (S5.out.foldNo (by omega) q n3 (by omega) h3 (.inr (.inl (by omega)))).mono ?_
            rintro e w7 ⟨rfl, hb7⟩
            have S7 := Lib.hid (S5.out.below hb7)
            clear hb7
            go_wp2_with fail
            refine (S7.out.floorF).mono ?_
            rintro e w8 ⟨rfl, rfl⟩
            go_wp2
            go_ret
            exact ⟨by simp, S7.out.base⟩
        · refine (S5.out.foldNo (by omega) q n3 (by omega) h3 (.inl (by omega))).mono ?_
          rintro e w7 ⟨rfl, hb7⟩
          have S7 := Lib.hid (S5.out.below hb7)
          clear hb7
          go_wp2_with fail
          refine (S7.out.floorF).mono ?_
          rintro e w8 ⟨rfl, rfl⟩
          go_wp2
          go_ret
          exact ⟨by simp, S7.out.base⟩
      | false =>
        go_wp2_with fail
        refine (event9 0 0 (k + 1) 100 w5 (by omega)).mono ?_
        rintro e w6 ⟨Be, me, ke, rfl, hs, hme, hke, hfr, hb6⟩
        have hout := hfr.out S5.out.feed.lt
        have ADD := Lib.hid ((S5.out.below hb6).add beginSaid (by omega) (by omega) (evE 0 (k + 1) 100) Be me ke (evE_comes (by omega) (by omega) (by omega) (by omega)) (by show 1 + 0 % 4 ≤ 5; omega) hs hout (by show k < 100; omega))
        clear hs hme hke hfr hb6 hout
        go_wp2_with fail
        refine ADD.out.mono ?_
        rintro e w6 ⟨rfl, P6, safe6, acts6, O6, s6, hl6⟩
        have S6 := Lib.hid s6
        have HL6 := Lib.hid hl6
        clear s6 hl6 ADD
        go_wp2_with fail
        rw [hqi]
        clear hq hqi hsy
        go_wp2_with fail
        refine (S6.out.foldNo (by omega) q n3 (by omega) h3 (.inr (.inr HL6.out))).mono ?_
        rintro e w7 ⟨rfl, hb7⟩
        have S7 := Lib.hid (S6.out.below hb7)
        clear hb7
        go_wp2_with fail
        refine (S7.out.floorF).mono ?_
        rintro e w8 ⟨rfl, rfl⟩
        go_wp2
        go_ret
        exact ⟨by simp, S7.out.base⟩
end Go.Proofs.YtkphklmgbdljiaaGreatDoor.Fd
