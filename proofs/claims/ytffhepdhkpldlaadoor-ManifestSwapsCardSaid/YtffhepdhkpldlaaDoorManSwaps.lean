/- The law ManifestSwaps. -/
import Derived.Test.YtffhepdhkpldlaaDoorManAwake
namespace Go.Proofs.YtffhepdhkpldlaaDoor.Man
open Go Go.RowKit Go.Proofs.YtffhepdhkpldlaaDoor.Words Go.Proofs.YtffhepdhkpldlaaDoor.Enc Go.Proofs.YtffhepdhkpldlaaDoor.Made Go.Proofs.YtffhepdhkpldlaaDoor.Tape Go.Proofs.YtffhepdhkpldlaaDoor.Vec Go.Proofs.YtffhepdhkpldlaaDoor.Dsk
set_option linter.unusedVariables false
set_option linter.unusedSimpArgs false
open Go.Proofs.YtffhepdhkpldlaaDoor.Sht (Since newL armL crashL)

/-- A manifest that came in, as a law's argument. -/
structure Arg (w : World) (m : Mn) (A : Option Addr) (n c : Nat) : Prop where
  n0 : -9223372036854775808 ≤ m.node
  n1 : m.node ≤ 9223372036854775807
  sr : m.serial < 18446744073709551616
  tm : m.time < 18446744073709551616
  s : SeesU w A n m.floor
  f : Fits m.floor
  h : n ≤ c
  k : c ≤ 9223372036854775807
  fd : m.fold.size ≤ 9223372036854775807
theorem Arg.took {w : World} {m : Mn} {A : Option Addr} {n c : Nat} (h : Arg w m A n c) (hn : n ≤ 64) : Took2 w A n c m.floor := ⟨h.s, h.f, h.h, h.k, by omega⟩
theorem may_of {m : Mn} (h : Right m) : mayB m = true := by
  have h1 := h.n0; have h2 := h.n1
  simp [mayB, h1, h2, h.fd]
theorem fileL_right {m : Mn} (h : Right m) : (fileL m).length ≤ 2100 := by
  have hl := manL_len h
  have h1 := h.n0; have h2 := h.n1; have h3 := h.sr
  exact (fileL_len ⟨h1, h2⟩ (by omega) (by omega)).1
theorem alike_trim (m : Mn) : Alike { m with floor := trimL m.floor } m := ⟨rfl, rfl, rfl, rfl, fun i => trimL_at m.floor i⟩

set_option maxRecDepth 100000 in
set_option maxHeartbeats 4000000 in
theorem swaps_short (a b : Mn) (A B : Option Addr) (n c m d : Nat) (st torn keep : Nat) (w : World) (T : Chk.Tabs w) (ha : Arg w a A n c) (hb : Arg w b B m d) (h : 64 < n ∨ 64 < m ∨ 60 < a.fold.size ∨ 60 < b.fold.size) :
    Calls Tryd.prog 4 #[a.val A n c, b.val B m d, .int .u8 (st : Int), .int .u8 (torn : Int), .int .u8 (keep : Int)] w fun e w' => e = .returned (.bool true) ∧ Below w.heap.size w w' := by
  obtain ⟨nd, sr, v, tm, fd⟩ := a
  obtain ⟨nd2, sr2, v2, tm2, fd2⟩ := b
  have hn9 : n ≤ 9223372036854775807 := by have := ha.h; have := ha.k; omega
  have hm9 : m ≤ 9223372036854775807 := by have := hb.h; have := hb.k; omega
  have hf1 : fd.size ≤ 9223372036854775807 := ha.fd
  have hf2 : fd2.size ≤ 9223372036854775807 := hb.fd
  unfold Mn.val Mn.row
  simp only [] at h ⊢
  have b0 := ((Below.refl w.heap.size w).alloc (Nat.le_refl _) (.cells #[.int .i64 nd, .int .u64 (sr : Int), .slice A n c, .int .u64 (tm : Int), .string fd] 26)).alloc (by simp) (.cells #[.int .i64 nd2, .int .u64 (sr2 : Int), .slice B m d, .int .u64 (tm2 : Int), .string fd2] 26)
  have g0 : ((w.alloc (.cells #[.int .i64 nd, .int .u64 (sr : Int), .slice A n c, .int .u64 (tm : Int), .string fd] 26)).alloc (.cells #[.int .i64 nd2, .int .u64 (sr2 : Int), .slice B m d, .int .u64 (tm2 : Int), .string fd2] 26)).heap[w.heap.size]? = some (.cells #[.int .i64 nd, .int .u64 (sr : Int), .slice A n c, .int .u64 (tm : Int), .string fd] 26 (0, 0)) := by
    rw [Below.heap_alloc _ _ _ (by simp)]
    exact heap_alloc_new w _
  have g1 : ((w.alloc (.cells #[.int .i64 nd, .int .u64 (sr : Int), .slice A n c, .int .u64 (tm : Int), .string fd] 26)).alloc (.cells #[.int .i64 nd2, .int .u64 (sr2 : Int), .slice B m d, .int .u64 (tm2 : Int), .string fd2] 26)).heap[w.heap.size + 1]? = some (.cells #[.int .i64 nd2, .int .u64 (sr2 : Int), .slice B m d, .int .u64 (tm2 : Int), .string fd2] 26 (0, 0)) := by
    have := heap_alloc_new (w.alloc (.cells #[.int .i64 nd, .int .u64 (sr : Int), .slice A n c, .int .u64 (tm : Int), .string fd] 26)) (.cells #[.int .i64 nd2, .int .u64 (sr2 : Int), .slice B m d, .int .u64 (tm2 : Int), .string fd2] 26)
    simpa using this
  clear ha hb
  go_enter Tryd.func4, Tryd.ntmps4
  go_wp2_with fail
  generalize (w.alloc (.cells #[.int .i64 nd, .int .u64 (sr : Int), .slice A n c, .int .u64 (tm : Int), .string fd] 26)).alloc (.cells #[.int .i64 nd2, .int .u64 (sr2 : Int), .slice B m d, .int .u64 (tm2 : Int), .string fd2] 26) = w1 at b0 g0 g1 ⊢
  refine (awakeM w1 (T.below b0)).mono ?_
  rintro e w2 ⟨rfl, hb2⟩
  have b2 := b0.trans (hb2.mono b0.size)
  have k0 := (hb2.block w.heap.size (Array.getElem?_eq_some_iff.1 g0).1).trans g0
  have k1 := (hb2.block (w.heap.size + 1) (Array.getElem?_eq_some_iff.1 g1).1).trans g1
  obtain ⟨p0, p1, p2, p3, p4⟩ := box5 k0
  obtain ⟨q0, q1, q2, q3, q4⟩ := box5 k1
  have AW := Lib.hid (awakeM w2 (T.below b2))
  have B2 := Lib.hid b2
  clear hb2 g0 g1 k0 k1 b0 b2
  by_cases h1 : 64 < n
  · go_wp2_with fail
    refine AW.out.mono ?_
    rintro e w3 ⟨rfl, hb3⟩
    have B3 := Lib.hid (B2.out.trans (hb3.mono B2.out.size))
    clear hb3
    go_wp2
    go_ret
    exact ⟨rfl, B3.out⟩
  by_cases h2 : 64 < m
  · go_wp2_with fail
    refine AW.out.mono ?_
    rintro e w3 ⟨rfl, hb3⟩
    have B3 := Lib.hid (B2.out.trans (hb3.mono B2.out.size))
    clear hb3
    go_wp2
    go_ret
    exact ⟨rfl, B3.out⟩
  by_cases h3 : 60 < fd.size
  · go_wp2_with fail
    refine AW.out.mono ?_
    rintro e w3 ⟨rfl, hb3⟩
    have B3 := Lib.hid (B2.out.trans (hb3.mono B2.out.size))
    clear hb3
    go_wp2
    go_ret
    exact ⟨rfl, B3.out⟩
  · have h4 : 60 < fd2.size := by omega
    go_wp2_with fail
    refine AW.out.mono ?_
    rintro e w3 ⟨rfl, hb3⟩
    have B3 := Lib.hid (B2.out.trans (hb3.mono B2.out.size))
    clear hb3
    go_wp2
    go_ret
    exact ⟨rfl, B3.out⟩
end Go.Proofs.YtffhepdhkpldlaaDoor.Man
