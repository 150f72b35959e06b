/- FoldNil, walked. -/
import Derived.Test.YtlbmfbhgpkdjoaaFolG
namespace Go.Proofs.Ytlbmfbhgpkdjoaa.Fol
open Go Go.RowKit Go.Proofs.Ytlbmfbhgpkdjoaa.Words Go.Proofs.Ytlbmfbhgpkdjoaa.Enc Go.Proofs.Ytlbmfbhgpkdjoaa.Q Go.Proofs.Ytlbmfbhgpkdjoaa.Evt
set_option linter.unusedVariables false
set_option linter.unusedSimpArgs false
set_option maxRecDepth 100000 in
set_option maxHeartbeats 4000000 in
theorem nil_law (e : Ev) (A : Option Addr) (n c : Nat) (key : ByteArray) (x : Int) (w : World) (hn : n ≤ 9223372036854775807) (hk : key.size ≤ 9223372036854775807) (hek : e.key.size ≤ 9223372036854775807) :
    Calls Try.prog 3 #[e.val A n c, .string key, .int .i64 x] w fun e' w' => e' = .returned (.bool true) ∧ Below w.heap.size w w' := by
  have hsf := store_float Try.prog
  have heqs : ∀ W, (binOp .eql 45 (.agg #[.int .u64 0, .int .i64 0]) (.agg #[.int .u64 0, .int .i64 0])).run Try.prog W = .ok (.bool true) W := fun W => by kernel_rfl
  have NA := Lib.hid (fun W => nil_apply e A n c W)
  have NC := Lib.hid (fun W => nil_cell key W)
  obtain ⟨wr, sq, tm, kd, ekey, text, num, node⟩ := e
  unfold Ev.val at NA ⊢
  unfold zeroC at NC
  simp only at hek NA ⊢
  have BX := Lib.hid (fun (W : World) hW => boxed (W := W) #[.int .i64 wr, .int .u64 (sq : Int), .int .u64 (tm : Int), .int .u8 (kd : Int), .string ekey, .slice A n c, .float .f64 num, .int .i64 node] w hW)
  by_cases h1 : 100 < key.size
  · go_enter Try.func3, Try.ntmps3
    go_wp2_with fail
    refine (awake_any _).mono ?_
    rintro e' u1 ⟨rfl, hb⟩
    obtain ⟨bel, g0, hz⟩ := BX.out u1 (by simpa using hb)
    go_wp2_with fail
    refine (awake_any _).mono ?_
    rintro e' u2 ⟨rfl, hb2⟩
    have bel2 := bel.trans (hb2.mono bel.size)
    clear g0 hz bel hb hb2
    go_wp2
    go_ret
    exact ⟨rfl, bel2⟩
  by_cases h2 : 100 < ekey.size
  · go_enter Try.func3, Try.ntmps3
    go_wp2_with fail
    refine (awake_any _).mono ?_
    rintro e' u1 ⟨rfl, hb⟩
    obtain ⟨bel, g0, hz⟩ := BX.out u1 (by simpa using hb)
    obtain ⟨p0, p1, p2, p3, p4, p5, p6, p7⟩ := box8 g0
    go_wp2_with fail
    refine (awake_any _).mono ?_
    rintro e' u2 ⟨rfl, hb2⟩
    have bel2 := bel.trans (hb2.mono bel.size)
    clear g0 hz bel hb hb2 p0 p1 p2 p3 p4 p5 p6 p7
    go_wp2
    go_ret
    exact ⟨rfl, bel2⟩
  by_cases h3 : 100 < n
  · go_enter Try.func3, Try.ntmps3
    go_wp2_with fail
    refine (awake_any _).mono ?_
    rintro e' u1 ⟨rfl, hb⟩
    obtain ⟨bel, g0, hz⟩ := BX.out u1 (by simpa using hb)
    obtain ⟨p0, p1, p2, p3, p4, p5, p6, p7⟩ := box8 g0
    go_wp2_with fail
    refine (awake_any _).mono ?_
    rintro e' u2 ⟨rfl, hb2⟩
    have bel2 := bel.trans (hb2.mono bel.size)
    clear g0 hz bel hb hb2 p0 p1 p2 p3 p4 p5 p6 p7
    go_wp2
    go_ret
    exact ⟨rfl, bel2⟩
  · go_enter Try.func3, Try.ntmps3
    go_wp2_with fail
    refine (awake_any _).mono ?_
    rintro e' u1 ⟨rfl, hb⟩
    obtain ⟨bel, g0, hz⟩ := BX.out u1 (by simpa using hb)
    obtain ⟨p0, p1, p2, p3, p4, p5, p6, p7⟩ := box8 g0
    have G0 := Lib.hid (And.intro g0 hz)
    have B0 := Lib.hid bel
    clear g0 hz bel hb
    go_wp2_with fail
    refine (NC.out _).mono ?_
    rintro e' u2 ⟨rfl, hb2⟩
    have B2 := Lib.hid ((B0.out.trans (hb2.mono B0.out.size)).alloc (by have := B0.out.size; have := hb2.size; omega) (.cells #[.int .u8 0, .slice none 0 0, .float .f64 0] 30))
    have g3 : (u2.alloc (.cells #[.int .u8 0, .slice none 0 0, .float .f64 0] 30)).heap[w.heap.size]? = some (.cells #[.int .i64 wr, .int .u64 (sq : Int), .int .u64 (tm : Int), .int .u8 (kd : Int), .string ekey, .slice A n c, .float .f64 num, .int .i64 node] 26 (0, 0)) := by
      exact (Below.heap_alloc _ _ _ (Nat.lt_of_lt_of_le G0.out.2 hb2.size)).trans ((hb2.block _ G0.out.2).trans G0.out.1)
    obtain ⟨q0, q1, q2, q3, q4, q5, q6, q7⟩ := box8 g3
    clear p0 p1 p2 p3 p4 p5 p6 p7 g3 hb2
    go_wp2_with fail
    refine (NA.out _).mono ?_
    rintro e' u4 ⟨rfl, hb4⟩
    have B4 := Lib.hid (B2.out.trans (hb4.mono B2.out.size))
    clear q0 q1 q2 q3 q4 q5 q6 q7 hb4
    go_wp2_with fail
    refine (nil_keys _).mono ?_
    rintro e' u5 ⟨rfl, rfl⟩
    go_wp2_with fail
    refine (nil_members _).mono ?_
    rintro e' u5 ⟨rfl, rfl⟩
    go_wp2_with fail
    refine (nil_have _).mono ?_
    rintro e' u5 ⟨rfl, rfl⟩
    go_wp2_with fail
    refine (nil_encode _).mono ?_
    rintro e' u5 ⟨rfl, rfl⟩
    go_wp2_with fail
    refine (nil_member x _).mono ?_
    rintro e' u5 ⟨rfl, rfl⟩
    go_wp2_with fail
    refine (nil_joined x _).mono ?_
    rintro e' u5 ⟨rfl, rfl⟩
    go_wp2_with fail
    refine (nil_retired x _).mono ?_
    rintro e' u5 ⟨rfl, rfl⟩
    go_wp2_with fail
    refine (nil_last _).mono ?_
    rintro e' u6 ⟨rfl, hb6⟩
    have B6 := Lib.hid (B4.out.trans (hb6.mono B4.out.size))
    clear hb6
    go_wp2_with fail
    refine (nil_mark _).mono ?_
    rintro e' u7 ⟨rfl, rfl⟩
    go_wp2_with fail
    refine (nil_copy _).mono ?_
    rintro e' u7 ⟨rfl, rfl⟩
    go_wp2
    go_ret
    exact ⟨rfl, B6.out⟩
end Go.Proofs.Ytlbmfbhgpkdjoaa.Fol
