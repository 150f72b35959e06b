/- Package fold: Apply of any event; a nil fold; the laws' example. Order: rows of events in memory (as layer 7 has them), and append onto rows of events. Layer 15: the law's base: the fold of a list's first events. DERIVED: THE SHELF's CONTRACTS AT THIS DUMP, IN PLAIN WORDS (tools/lay-plain.mjs out of 'TryzIter.lean', which tools/lay-shelf.mjs wrote): THE SAME DECLARATIONS UNDER THE SAME NAMES: 'import', 'namespace', 'open', 'def', 'theorem' AND NOTHING ELSE: no command of the shelf's: FOR A HAND-IN. Each laying: the table of numbers ('.._ren') and one theorem, a field a fact of the dump's own or the kernel's comparison; each contract: ONE APPLICATION. -/
import Derived.Laws.StructEq
import Derived.Deep.Cut
import Derived.Shelf.SlIter.Nil
import Derived.Shelf.SortM.Plain
import Derived.Shelf.SortM.SortNone
import Derived.Ground.GgzProg
import Derived.Ground.SlgmProg
import Derived.Shelf.SlMaps.Clone
import Derived.Ground.SlmcProg
import Derived.Test.YtmogoopkjkdkgaaGreatProg
import Derived.Test.YtmogoopkjkdkgaaGreatVTp01
import Derived.Test.YtmogoopkjkdkgaaGreatVTp02
import Derived.Test.YtmogoopkjkdkgaaGreatVTp04
import Derived.Test.YtmogoopkjkdkgaaGreatVTp05
import Derived.Test.YtmogoopkjkdkgaaGreatVTp09
namespace Go.Proofs.YtmogoopkjkdkgaaGreat.Fol
open Go Go.RowKit Go.Proofs.YtmogoopkjkdkgaaGreat.Words Go.Proofs.YtmogoopkjkdkgaaGreat.Enc Go.Proofs.YtmogoopkjkdkgaaGreat.Q Go.Proofs.YtmogoopkjkdkgaaGreat.Evt
set_option linter.unusedVariables false
set_option linter.unusedSimpArgs false

section
variable {S : List Nat} {d mb : Nat} {F : Fo}
set_option maxRecDepth 100000 in
set_option maxHeartbeats 1000000 in
theorem apply_bad (e : Ev) (A : Option Addr) (n c : Nat) (w : World) (h : FoldAt w S d mb F) (hr : rightE e ≠ 0) (hs : Sees w A n e.text) (hn : n ≤ 1000000000) (hfit : e.Fit) (hkl : e.key.size ≤ 9223372036854775807) :
    Calls Tryz.prog 21 #[.pointer (some ⟨d, 0, none⟩), e.val A n c] w fun e' w' => e' = .returned (.int .i64 (rightE e : Int)) ∧ Below w.heap.size w w' := by
  have RT := Lib.hid (fun (W : World) => right_any e A n c W hfit hs.1.symm (by rw [hs.1]; omega) hkl)
  obtain ⟨wr, sq, tm, kd, key, text, num, node⟩ := e
  have BX := Lib.hid (fun (W : World) hW => boxed (W := W) #[.int .i64 wr, .int .u64 (sq : Int), .int .u64 (tm : Int), .int .u8 (kd : Int), .string key, .slice A n c, .float .f64 num, .int .i64 node] w hW)
  obtain ⟨r, hre⟩ : ∃ r, r = rightE ⟨wr, sq, tm, kd, key, text, num, node⟩ := ⟨_, rfl⟩
  rw [← hre] at RT hr ⊢
  show Calls _ _ #[_, .agg #[.int .i64 wr, .int .u64 (sq : Int), .int .u64 (tm : Int), .int .u8 (kd : Int), .string key, .slice A n c, .float .f64 num, .int .i64 node]] _ _
  have hne : ((r : Int) == 0) = false := by rw [beq_eq_false_iff_ne]; omega
  have hne2 : ((r : Int) != 0) = true := by simp [hr]
  clear h hs hfit hre hkl
  go_enter Tryz.func21, Tryz.ntmps21
  go_wp2_with fail
  refine (RT.out _).mono ?_
  rintro e' w1 ⟨rfl, hb1⟩
  obtain ⟨b1, g1, z1⟩ := BX.out w1 (by simpa using hb1)
  have B1 := Lib.hid b1
  clear hb1 b1 g1 z1
  go_wp2
  go_ret
  exact ⟨rfl, B1.out⟩
/-- Apply, of whatever event. -/
theorem apply_any (e : Ev) (A : Option Addr) (n c : Nat) (w : World) (h : FoldAt w S d mb F) (hs : Sees w A n e.text) (ho : Out [d, mb] A n) (hS : ∀ x ∈ S, x < w.heap.size) (hf : F.L.length < 1000000000000) (hn : n ≤ 1000000000)
    (hfit : e.Fit) (hkl : e.key.size ≤ 9223372036854775807) :
    Calls Tryz.prog 21 #[.pointer (some ⟨d, 0, none⟩), e.val A n c] w fun e' w' => e' = .returned (.int .i64 (applyE F e : Int)) ∧ Makes S d mb w (applyF F e) w' := by
  by_cases hr : rightE e = 0
  · have hR := (right_iff e).1 hr
    obtain ⟨wr, sq, tm, kd, key, text, num, node⟩ := e
    obtain ⟨i, rfl⟩ := Int.eq_ofNat_of_zero_le hR.w1
    exact apply_right w h hR hfit.q hs ho hS hf hn hfit hkl
  · have hE : applyE F e = rightE e := by unfold applyE; rw [if_pos hr]
    have hF : applyF F e = F := by unfold applyF; rw [hE, if_neg hr]
    rw [hE, hF]
    refine (apply_bad e A n c w h hr hs hn hfit hkl).mono ?_
    rintro e' w' ⟨rfl, hb⟩
    exact ⟨rfl, h.below hb, Beside.of_below hb _⟩
end

/-! ### A nil fold -/
/-! ### The laws' example -/
end Go.Proofs.YtmogoopkjkdkgaaGreat.Fol
namespace Go.Proofs.YtmogoopkjkdkgaaGreat.Seg
open Go Go.RowKit Go.Proofs.YtmogoopkjkdkgaaGreat.Words Go.Proofs.YtmogoopkjkdkgaaGreat.Enc Go.Proofs.YtmogoopkjkdkgaaGreat.Evt
set_option linter.unusedVariables false

/-- An event as it lies in a row: and where its text lies. -/
structure EvS where
  e : Ev
  A : Option Addr
  n : Nat
  c : Nat
def EvS.cells (r : EvS) : List Value := [.int .i64 r.e.writer, .int .u64 (r.e.seq : Int), .int .u64 (r.e.time : Int), .int .u8 (r.e.kind : Int), .string r.e.key, .slice r.A r.n r.c, .float .f64 r.e.num, .int .i64 r.e.node]
theorem EvS.cells_len (r : EvS) : r.cells.length = 8 := rfl
theorem EvS.one (r : EvS) : ∀ u ∈ r.cells, u.oneCell' = true := by
  intro u hu
  simp only [EvS.cells, List.mem_cons, List.not_mem_nil, or_false] at hu
  rcases hu with rfl | rfl | rfl | rfl | rfl | rfl | rfl | rfl <;> rfl
def rowsL : List EvS → List Value
  | [] => []
  | r :: S => r.cells ++ rowsL S
theorem rowsL_len : ∀ S : List EvS, (rowsL S).length = S.length * 8
  | [] => rfl
  | r :: S => by simp only [rowsL, List.length_append, List.length_cons, rowsL_len S, EvS.cells_len]; omega
theorem rowsL_append : ∀ S T : List EvS, rowsL (S ++ T) = rowsL S ++ rowsL T
  | [], T => rfl
  | r :: S, T => by simp [rowsL, rowsL_append S T]
theorem rowsL_one (S : List EvS) : ∀ u ∈ rowsL S, u.oneCell' = true := by
  induction S with
  | nil => intro u hu; cases hu
  | cons r S ih =>
    intro u hu
    rcases List.mem_append.1 hu with h | h
    · exact r.one u h
    · exact ih u h
theorem rowsL_get : ∀ (S : List EvS) (j k : Nat) (r : EvS), S[j]? = some r → k < 8 → (rowsL S)[8 * j + k]? = r.cells[k]?
  | [], j, k, r, h, _ => by simp at h
  | x :: S, 0, k, r, h, hk => by
    simp at h
    subst h
    rw [rowsL, List.getElem?_append_left (by rw [EvS.cells_len]; omega)]
    simp
  | x :: S, j + 1, k, r, h, hk => by
    rw [rowsL, List.getElem?_append_right (by rw [EvS.cells_len]; omega), EvS.cells_len, show 8 * (j + 1) + k - 8 = 8 * j + k by omega]
    exact rowsL_get S j k r (by simpa using h) hk
theorem rowsL_take : ∀ (S : List EvS) (k j : Nat) (v : Value), (rowsL (S.take k))[j]? = some v → (rowsL S)[j]? = some v
  | [], k, j, v, h => by simpa using h
  | r :: S, 0, j, v, h => by simp [rowsL] at h
  | r :: S, k + 1, j, v, h => by
    rw [List.take_succ_cons, rowsL] at h
    rw [rowsL]
    by_cases hj : j < 8
    · rw [List.getElem?_append_left (by rw [EvS.cells_len]; omega)] at h ⊢
      exact h
    · rw [List.getElem?_append_right (by rw [EvS.cells_len]; omega)] at h ⊢
      exact rowsL_take S k _ v h

/-- Rows of events lie at A. -/
def RawEv (w : World) (A : Option Addr) (S : List EvS) : Prop := 0 < S.length → ∃ b o, A = some ⟨b, o, none⟩ ∧ ∀ j v, (rowsL S)[j]? = some v → w.cell? ⟨b, o + j, none⟩ = some v
theorem RawEv.below {w w' : World} {A : Option Addr} {S : List EvS} (h : RawEv w A S) (hb : Below w.heap.size w w') : RawEv w' A S := by
  intro hn
  obtain ⟨b, o, hA, hc⟩ := h hn
  refine ⟨b, o, hA, fun j v hv => ?_⟩
  have := hc j v hv
  rw [hb.cell (World.block_lt_of_cell? _ _ this)]
  exact this
theorem RawEv.take {w : World} {A : Option Addr} {S : List EvS} (h : RawEv w A S) (k : Nat) : RawEv w A (S.take k) := by
  intro hn
  rw [List.length_take] at hn
  obtain ⟨b, o, hA, hc⟩ := h (by omega)
  exact ⟨b, o, hA, fun j v hv => hc j v (rowsL_take S k j v hv)⟩
theorem RawEv.at_ {w : World} {A : Option Addr} {S : List EvS} (h : RawEv w A S) {j : Nat} {r : EvS} (hj : S[j]? = some r) :
    ∃ b o, A = some ⟨b, o, none⟩ ∧ w.cell? ⟨b, o + 8 * j, none⟩ = some (.int .i64 r.e.writer) ∧ w.cell? ⟨b, o + 8 * j + 1, none⟩ = some (.int .u64 (r.e.seq : Int)) ∧ w.cell? ⟨b, o + 8 * j + 2, none⟩ = some (.int .u64 (r.e.time : Int)) ∧ w.cell? ⟨b, o + 8 * j + 3, none⟩ = some (.int .u8 (r.e.kind : Int)) ∧
      w.cell? ⟨b, o + 8 * j + 4, none⟩ = some (.string r.e.key) ∧ w.cell? ⟨b, o + 8 * j + 5, none⟩ = some (.slice r.A r.n r.c) ∧ w.cell? ⟨b, o + 8 * j + 6, none⟩ = some (.float .f64 r.e.num) ∧ w.cell? ⟨b, o + 8 * j + 7, none⟩ = some (.int .i64 r.e.node) := by
  obtain ⟨b, o, hA, hc⟩ := h (by have := (List.getElem?_eq_some_iff.1 hj).1; omega)
  refine ⟨b, o, hA, ?_, ?_, ?_, ?_, ?_, ?_, ?_, ?_⟩
  · exact hc (8 * j + 0) _ (rowsL_get S j 0 r hj (by omega))
  · exact hc (8 * j + 1) _ (rowsL_get S j 1 r hj (by omega))
  · exact hc (8 * j + 2) _ (rowsL_get S j 2 r hj (by omega))
  · exact hc (8 * j + 3) _ (rowsL_get S j 3 r hj (by omega))
  · exact hc (8 * j + 4) _ (rowsL_get S j 4 r hj (by omega))
  · exact hc (8 * j + 5) _ (rowsL_get S j 5 r hj (by omega))
  · exact hc (8 * j + 6) _ (rowsL_get S j 6 r hj (by omega))
  · exact hc (8 * j + 7) _ (rowsL_get S j 7 r hj (by omega))

def TextOk (B : List Nat) (w : World) (r : EvS) : Prop := Sees w r.A r.n r.e.text ∧ r.n ≤ r.c ∧ r.c ≤ 9223372036854775807 ∧ Out B r.A r.n
/-- The slice of n events at A shows R; it and the texts lie outside B. -/
def SeesEv (B : List Nat) (w : World) (A : Option Addr) (n : Nat) (R : List Ev) : Prop :=
  ∃ S : List EvS, S.map EvS.e = R ∧ S.length = n ∧ RawEv w A S ∧ Out B A n ∧ ∀ r ∈ S, TextOk B w r
theorem SeesEv.nil (B : List Nat) (w : World) (A : Option Addr) : SeesEv B w A 0 [] := ⟨[], rfl, rfl, fun h => absurd h (by simp), fun h => absurd h (by omega), fun r hr => by cases hr⟩
theorem SeesEv.len {B : List Nat} {w : World} {A : Option Addr} {n : Nat} {R : List Ev} (h : SeesEv B w A n R) : R.length = n := by
  obtain ⟨S, h1, h2, _⟩ := h
  rw [← h1, List.length_map, h2]
theorem TextOk.next {B B' : List Nat} {w w' : World} {r : EvS} (h : TextOk B w r) (hb : Beside B w w') (hB : ∀ k ∈ B', k ∈ B ∨ w.heap.size ≤ k) : TextOk B' w' r :=
  ⟨h.1.beside hb h.2.2.2, h.2.1, h.2.2.1, Out.next h.2.2.2 h.1 hB⟩
theorem SeesEv.next {B B' : List Nat} {w w' : World} {A : Option Addr} {n : Nat} {R : List Ev} (h : SeesEv B w A n R) (hb : Beside B w w') (hB : ∀ k ∈ B', k ∈ B ∨ w.heap.size ≤ k) : SeesEv B' w' A n R := by
  obtain ⟨S, h1, h2, h3, h4, h5⟩ := h
  refine ⟨S, h1, h2, fun hn => ?_, fun hn a ha hm => ?_, fun r hr => (h5 r hr).next hb hB⟩
  · obtain ⟨b, o, rfl, hc⟩ := h3 hn
    exact ⟨b, o, rfl, fun j v hv => hb.cell (hc j v hv) (h4 (by omega) ⟨b, o, none⟩ rfl)⟩
  · obtain ⟨b, o, rfl, hc⟩ := h3 (by omega)
    cases ha
    rcases hB _ hm with h | h
    · exact h4 hn _ rfl h
    · have h0 : 0 < (rowsL S).length := by rw [rowsL_len]; omega
      have := World.block_lt_of_cell? _ _ (hc 0 (rowsL S)[0] (List.getElem?_eq_getElem h0))
      simp at this h
      omega
theorem SeesEv.below {B : List Nat} {w w' : World} {A : Option Addr} {n : Nat} {R : List Ev} (h : SeesEv B w A n R) (hb : Below w.heap.size w w') : SeesEv B w' A n R :=
  h.next (Beside.of_below hb B) fun k hk => .inl hk
theorem SeesEv.take {B : List Nat} {w : World} {A : Option Addr} {n : Nat} {R : List Ev} (h : SeesEv B w A n R) {k : Nat} (hk : k ≤ n) : SeesEv B w A k (R.take k) := by
  obtain ⟨S, h1, h2, h3, h4, h5⟩ := h
  refine ⟨S.take k, by rw [List.map_take, h1], by rw [List.length_take]; omega, h3.take k, fun hn => h4 (by omega), fun r hr => h5 r (List.mem_of_mem_take hr)⟩
theorem SeesEv.get {B : List Nat} {w : World} {A : Option Addr} {n : Nat} {R : List Ev} (h : SeesEv B w A n R) {j : Nat} (hj : j < n) :
    ∃ (b o : Nat) (r : EvS), A = some ⟨b, o, none⟩ ∧ R[j]? = some r.e ∧ TextOk B w r ∧ w.cell? ⟨b, o + 8 * j, none⟩ = some (.int .i64 r.e.writer) ∧ w.cell? ⟨b, o + 8 * j + 1, none⟩ = some (.int .u64 (r.e.seq : Int)) ∧ w.cell? ⟨b, o + 8 * j + 2, none⟩ = some (.int .u64 (r.e.time : Int)) ∧ w.cell? ⟨b, o + 8 * j + 3, none⟩ = some (.int .u8 (r.e.kind : Int)) ∧
      w.cell? ⟨b, o + 8 * j + 4, none⟩ = some (.string r.e.key) ∧ w.cell? ⟨b, o + 8 * j + 5, none⟩ = some (.slice r.A r.n r.c) ∧ w.cell? ⟨b, o + 8 * j + 6, none⟩ = some (.float .f64 r.e.num) ∧ w.cell? ⟨b, o + 8 * j + 7, none⟩ = some (.int .i64 r.e.node) := by
  obtain ⟨S, h1, h2, h3, h4, h5⟩ := h
  have hj' : j < S.length := by omega
  obtain ⟨b, o, hA, hc⟩ := h3.at_ (List.getElem?_eq_getElem hj')
  exact ⟨b, o, S[j], hA, by rw [← h1, List.getElem?_map, List.getElem?_eq_getElem hj']; rfl, h5 _ (List.getElem_mem hj'), hc⟩
/-- What is owned above all of B. -/
theorem RawEv.of_own {w : World} {base : Nat} {A : Option Addr} {n c : Nat} {S : List EvS} (h : w.ownsRow base 32 8 (.slice A n c) n (rowsL S)) : RawEv w A S := by
  intro hn
  have hl := h.1
  rw [rowsL_len] at hl
  rcases h.2 with ⟨hv, h0⟩ | ⟨g, cap, cur, hv, _⟩
  · omega
  · injection hv with hA
    subst hA
    exact ⟨g, 0, rfl, fun j v hv => by rw [← add_plain]; exact h.cells (g := g) rfl j _ hv⟩
theorem own_at8 {w : World} {base size : Nat} {e : TypeId} {A : Option Addr} {n c : Nat} {xs : List Value} (h : w.ownsRow base e size (.slice A n c) n xs) (hn : 0 < n) : ∃ g, A = some ⟨g, 0, none⟩ ∧ base ≤ g := by
  rcases h.2 with ⟨hv, rfl⟩ | ⟨g, cap, cur, hv, hb, _⟩
  · omega
  · injection hv with h1
    exact ⟨g, h1, hb⟩
theorem own_cap8 {w : World} {base size : Nat} {e : TypeId} {A : Option Addr} {n c : Nat} {xs : List Value} (h : w.ownsRow base e size (.slice A n c) n xs) : n ≤ c ∧ c ≤ 9223372036854775807 := by
  rcases h.2 with ⟨hv, rfl⟩ | ⟨g, cap, cur, hv, _, _, hc, hm, _⟩
  · injection hv with _ _ h3
    omega
  · injection hv with _ _ h3
    subst h3
    unfold maxLen at hm
    omega
theorem own_below8 {w w' : World} {base B size : Nat} {e : TypeId} {v : Value} {n : Nat} {xs : List Value} (h : w.ownsRow base e size v n xs) (hb : Below B w w') (hB : w.heap.size ≤ B) : w'.ownsRow base e size v n xs := by
  refine ⟨h.1, ?_⟩
  rcases h.2 with hn | ⟨g, cap, cur, hv, hg, hh, r⟩
  · exact .inl hn
  · exact .inr ⟨g, cap, cur, hv, hg, by rw [hb.block g (by have := (Array.getElem?_eq_some_iff.1 hh).1; omega)]; exact hh, r⟩
theorem SeesEv.of_own {B : List Nat} {w : World} {base : Nat} {A : Option Addr} {n c : Nat} {S : List EvS} (h : w.ownsRow base 32 8 (.slice A n c) n (rowsL S)) (hB : ∀ k ∈ B, k < base) (ht : ∀ r ∈ S, TextOk B w r) : SeesEv B w A n (S.map EvS.e) := by
  have hl := h.1
  rw [rowsL_len] at hl
  refine ⟨S, rfl, by omega, RawEv.of_own h, fun hn a ha hm => ?_, ht⟩
  obtain ⟨g, rfl, hg⟩ := own_at8 h hn
  cases ha
  have := hB _ hm
  simp at this
  omega
end Go.Proofs.YtmogoopkjkdkgaaGreat.Seg

/- slices.Grow of nil, Concat and Clip of events; append of events: their contracts. -/
namespace Go.Proofs.YtmogoopkjkdkgaaGreat.Seg
open Go Go.RowKit Go.Proofs.YtmogoopkjkdkgaaGreat.Words Go.Proofs.YtmogoopkjkdkgaaGreat.Enc Go.Proofs.YtmogoopkjkdkgaaGreat.Evt Go.Proofs.YtmogoopkjkdkgaaGreat.Made
set_option linter.unusedVariables false

theorem own_nil8 (w : World) (base : Nat) (e : TypeId) : w.ownsRow base e 8 (.slice none 0 0) 0 (rowsL []) := World.ownsRow_nil w base e 8

section
variable {P : Program}
/-- append of events onto a row that the call owns. -/
theorem run_appE {w : World} (base : Nat) (t ty e : TypeId) (i : TypeInfo) (z : Value) (ht : P.underlying t = some (.slice e)) (hi : P.info? e = some i) (hz : i.zero = some z)
    (hsize : i.size = 8) (hby : i.bytes = 88) (hzs : z.cells.size = 8)
    (A : Option Addr) (n c : Nat) (T : List EvS) (hown : w.ownsRow base e 8 (.slice A n c) n (rowsL T))
    (S : Option Addr) (m k : Nat) (q : List EvS) (hq : q.length = m) (hs : RawEv w S q) (h63 : n + m ≤ 1000000000000) (hbase : base ≤ w.heap.size) :
    ∃ A' c' w', (Builtin.append_ #[t, t] ty #[.slice A n c, .slice S m k]).run P w = .ok (.slice A' (n + m) c') w' ∧ w'.ownsRow base e 8 (.slice A' (n + m) c') (n + m) (rowsL (T ++ q)) ∧ Below base w w' := by
  have hmx : n + m ≤ maxLen := by unfold maxLen; omega
  cases S with
  | none =>
    have hm : m = 0 := by
      rcases Nat.eq_zero_or_pos m with h0 | h0
      · exact h0
      · obtain ⟨b, o, h, _⟩ := hs (by omega)
        cases h
    subst hm
    have hq0 : q = [] := List.eq_nil_of_length_eq_zero hq
    subst hq0
    refine ⟨A, c, w, ?_, by simpa using hown, Below.refl _ _⟩
    rcases hown.2 with ⟨hv, rfl⟩ | ⟨g, cap, cur, hv, _, _, hnc, _⟩
    · injection hv with h1 h2 h3
      subst h1; subst h3
      simp [Builtin.append_, run_underlying ht, sizeOf, typeInfo, hi, Builtin.lenOf, Builtin.firstCells]
    · injection hv with h1 h2 h3
      subst h1; subst h3
      simp [Builtin.append_, run_underlying ht, sizeOf, typeInfo, hi, Builtin.lenOf, Builtin.firstCells, hnc, storeCells]
  | some ad =>
    have hcells : ∀ j u, (rowsL q)[j]? = some u → w.cell? (ad.add j) = some u := by
      intro j u hu
      have hj : j < (rowsL q).length := (List.getElem?_eq_some_iff.1 hu).1
      rw [rowsL_len] at hj
      obtain ⟨b, o, h, hc⟩ := hs (by omega)
      injection h with h
      subst h
      rw [add_plain]
      exact hc j u hu
    obtain ⟨v', w', hrun, h2, h3, _⟩ := run_append_own (P := P) w base t ty e i z 8 88 ht hi hz hsize hby hzs (by decide) (.slice A n c) n (rowsL T) hown ad m k (rowsL q) (by rw [rowsL_len, hq]) hcells (rowsL_one q) hmx (by omega) hbase
    rw [← rowsL_append] at h2
    have hlt : ∀ g, Value.ownBlock (.slice A n c) = some g → base ≤ g := fun g hg => (hown.lt g hg).1
    have hB : Below base w w' := (Below.refl base w).grown h3 hbase hlt
    obtain ⟨A', c', rfl⟩ : ∃ A' c', v' = .slice A' (n + m) c' := by
      rcases h2.2 with ⟨rfl, h0⟩ | ⟨g, cap, cur, rfl, _⟩
      · exact ⟨none, 0, by rw [h0]⟩
      · exact ⟨_, cap, rfl⟩
    exact ⟨A', c', w', hrun, h2, hB⟩

theorem wpList_appE {w : World} {ops : Array Oper} {rest : List Oper} {o : Oper} {a : Act} {Q : Exit → Act → World → Prop} (hgd : o.guard = none) (s x : Operand) (t : TypeId)
    (ho : o.op = .call { callee := .builtin .append, args := #[s, x], argTypes := #[t, t] })
    (base : Nat) (e : TypeId) (i : TypeInfo) (z : Value) (ht : P.underlying t = some (.slice e)) (hi : P.info? e = some i) (hz : i.zero = some z)
    (hsize : i.size = 8) (hby : i.bytes = 88) (hzs : z.cells.size = 8)
    (A : Option Addr) (n c : Nat) (T : List EvS) (hs : a.eval s = .slice A n c) (hown : w.ownsRow base e 8 (.slice A n c) n (rowsL T))
    (S : Option Addr) (m k : Nat) (q : List EvS) (hx : a.eval x = .slice S m k) (hl : q.length = m) (hq : RawEv w S q) (h63 : n + m ≤ 1000000000000) (hbase : base ≤ w.heap.size)
    (h : ∀ A' c' w', w'.ownsRow base e 8 (.slice A' (n + m) c') (n + m) (rowsL (T ++ q)) → Below base w w' → wpList P ops Q rest (a.put o.dst (.slice A' (n + m) c')) w') : wpList P ops Q (o :: rest) a w :=
  wpList_plain hgd fun K hK => by
    obtain ⟨A', c', w', hrun, h2, h3⟩ := run_appE (P := P) base t o.type e i z ht hi hz hsize hby hzs A n c T hown S m k q hl hq h63 hbase
    unfold Oper.wp execOp
    simp only [ho, resolve, invoke, builtin, Sem.run_bind, Sem.run_pure, Result.andThen_ok, List.map_toArray, List.map_cons, List.map_nil, hs, hx, hrun]
    exact hK _ _ (h A' c' w' h2 h3)
end

end Go.Proofs.YtmogoopkjkdkgaaGreat.Seg
namespace Go.Proofs.YtmogoopkjkdkgaaGreat.Vw
open Go Go.RowKit Go.Proofs.YtmogoopkjkdkgaaGreat.Words Go.Proofs.YtmogoopkjkdkgaaGreat.Enc Go.Proofs.YtmogoopkjkdkgaaGreat.Q Go.Proofs.YtmogoopkjkdkgaaGreat.Evt Go.Proofs.YtmogoopkjkdkgaaGreat.Seg Go.Proofs.YtmogoopkjkdkgaaGreat.Fol
set_option linter.unusedVariables false
set_option linter.unusedSimpArgs false

theorem change_len {F : Fo} {e : Ev} (hr : Rise F.L) : (change F e).L.length ≤ F.L.length + 1 := by
  have hi : ∀ (k : Key) (c : Cel), (ins k c F.L).length ≤ F.L.length + 1 := fun k c => by rw [len_ins k c hr]; split <;> omega
  have hd : ∀ (k : Key), (del k F.L).length ≤ F.L.length + 1 := fun k => by rw [len_del k F.L]; split <;> omega
  unfold change
  split
  · exact hi _ _
  · split
    · exact hi _ _
    · split
      · exact hi _ _
      · split
        · exact hd _
        · split <;> (show F.L.length ≤ _; omega)
theorem apply_L {F : Fo} {e : Ev} : (applyF F e).L = (change F e).L ∨ (applyF F e).L = F.L := by
  unfold applyF
  split
  · exact .inl rfl
  · exact .inr rfl
theorem apply_len {F : Fo} {e : Ev} (ok : Ok F) : (applyF F e).L.length ≤ F.L.length + 1 := by
  rcases apply_L (F := F) (e := e) with h | h
  · rw [h]; exact change_len ok.rise
  · rw [h]; omega
/-- Events that are read: where they and their texts lie. -/
structure EvSees (w : World) (A : Option Addr) (R : List EvS) : Prop where
  raw : RawEv w A R
  text : ∀ r ∈ R, Sees w r.A r.n r.e.text
  fit : ∀ r ∈ R, r.e.Fit ∧ r.e.key.size ≤ 64 ∧ r.n ≤ 1000000
theorem EvSees.below {w w' : World} {A : Option Addr} {R : List EvS} (h : EvSees w A R) (hb : Below w.heap.size w w') : EvSees w' A R :=
  ⟨h.raw.below hb, fun r hr => (h.text r hr).below hb, h.fit⟩

set_option maxRecDepth 100000 in
set_option maxHeartbeats 2000000 in
theorem base_any (A : Option Addr) (c : Nat) (R : List EvS) (n : Nat) (w : World) (h : EvSees w A R) (hn : n ≤ R.length) (hR : R.length ≤ 1000) :
    Calls Tryz.prog 9 #[.slice A R.length c, .int .i64 (n : Int)] w fun e w' => ∃ d mb, e = .returned (.pointer (some ⟨d, 0, none⟩)) ∧ w.heap.size ≤ d ∧ w.heap.size ≤ mb ∧ FoldAt w' [d, mb] d mb (applyAll (newF 3) ((R.take n).map EvS.e)) ∧ (applyAll (newF 3) ((R.take n).map EvS.e)).L.length ≤ n ∧ Below w.heap.size w w' := by
  have hsf := store_float Tryz.prog
  obtain ⟨N, hN⟩ : ∃ N, N = R.length := ⟨_, rfl⟩
  rw [← hN] at hn hR ⊢
  have HH := Lib.hid (And.intro h hN)
  have NW := Lib.hid (new_any 3 (by omega) w)
  obtain ⟨d, hd⟩ : ∃ d, d = w.heap.size + 1 := ⟨_, rfl⟩
  obtain ⟨mb, hmb⟩ : ∃ d, d = w.heap.size := ⟨_, rfl⟩
  rw [← hd] at NW
  have HDM := Lib.hid (And.intro hd hmb)
  have hn2 : (n : Int) ≤ 1000 := by omega
  clear h hN hd hmb
  go_enter Tryz.func9, Tryz.ntmps9
  go_wp2_with fail
  refine NW.out.mono ?_
  rintro e w1 ⟨rfl, hf1, hb1⟩
  have hf1 : FoldAt w1 [d, mb] d mb (newF 3) := by rw [HDM.out.2]; exact hf1
  have HF1 := Lib.hid hf1
  have HB1 := Lib.hid hb1
  clear hf1 hb1 NW
  go_wp2_with fail
  go_loopw [6] (fun y wr => ∃ j : Nat, y = .int .i64 (j : Int) ∧ j ≤ n ∧ Hid (FoldAt wr [d, mb] d mb (applyAll (newF 3) ((R.take j).map EvS.e))) ∧ (applyAll (newF 3) ((R.take j).map EvS.e)).L.length ≤ j ∧ Hid (Below w.heap.size w wr)) (fun y _ => n - (intOf y).toNat)
  case atStart => exact ⟨0, rfl, Nat.zero_le _, HF1, Nat.le_refl _, HB1⟩
  case round =>
    obtain ⟨j, rfl, hj, HF, hlen, HB⟩ := hrel
    by_cases hlt : j < n
    · have hdj : decide ((j : Int) < (n : Int)) = true := decide_eq_true (by omega)
      have hjN : (j : Int) < (N : Int) := by omega
      have hjb : (j : Int) ≤ 1000 := by omega
      obtain ⟨r, hr⟩ : ∃ r, R[j]? = some r := ⟨_, List.getElem?_eq_getElem (by rw [← HH.out.2]; omega)⟩
      have hES := HH.out.1.below HB.out
      have hrm := List.mem_of_getElem? hr
      have hst : applyAll (newF 3) ((R.take (j + 1)).map EvS.e) = applyF (applyAll (newF 3) ((R.take j).map EvS.e)) r.e := by
        have := applyAll_take (newF 3) (R.map EvS.e) j (e := r.e) (by rw [List.getElem?_map, hr]; rfl)
        rw [List.map_take, List.map_take]
        exact this
      obtain ⟨F, hF⟩ : ∃ F, F = applyAll (newF 3) ((R.take j).map EvS.e) := ⟨_, rfl⟩
      have hfa := HF.out
      rw [← hF] at hfa hlen hst
      obtain ⟨b, o, rfl, q0, q1, q2, q3, q4, q5, q6, q7⟩ := RawEv.at_ hES.raw hr
      have htx := hES.text r hrm
      have hfit := hES.fit r hrm
      have AP := Lib.hid (apply_any r.e r.A r.n r.c wr hfa htx (Out.of_lt (S := [d, mb]) (w := w) (B := w.heap.size) (HH.out.1.text r hrm) (Nat.le_refl _) (fun x hx => by have := HDM.out; simp at hx; omega)) (fun x hx => by have := hfa.lt; simp at hx; rcases hx with rfl | rfl; exact this.1; exact this.2) (by omega) (by have := hfit.2.2; omega) hfit.1 (by have := hfit.2.1; omega))
      have hlen2 := apply_len (e := r.e) hfa.ok
      rw [← hst] at AP hlen2
      have HL2 := Lib.hid hlen2
      have HLEN := Lib.hid hlen
      rw [show 8 * j = j * 8 by omega] at q0 q1 q2 q3 q4 q5 q6 q7
      obtain ⟨⟨ew, sq, et, kd, key, text, num, node⟩, rA, rn, rc⟩ := r
      simp only [] at q0 q1 q2 q3 q4 q5 q6 q7
      have AP2 : Calls Tryz.prog 21 #[.pointer (some ⟨d, 0, none⟩), .agg #[.int .i64 ew, .int .u64 (sq : Int), .int .u64 (et : Int), .int .u8 (kd : Int), .string key, .slice rA rn rc, .float .f64 num, .int .i64 node]] wr _ := AP.out
      have HAP := Lib.hid AP2
      clear hst hF hfa htx hfit hlen hlen2 hES hrm AP AP2 HF
      go_wp2_with fail
      refine HAP.out.mono ?_
      rintro e w2 ⟨rfl, hf2, hb2⟩
      have HF2 := Lib.hid hf2
      have HB2 := Lib.hid (Below.beside HB.out hb2 HB.out.size (fun x hx => by have := HDM.out; simp at hx; omega))
      clear hf2 hb2 HAP q0 q1 q2 q3 q4 q5 q6 q7
      go_wp2
      go_roundw
      case rel => exact ⟨j + 1, by simp, by omega, HF2, by have h1 := HL2.out; have h2 := HLEN.out; omega, HB2⟩
      case measure => simp [intOf]; omega
    · obtain rfl : j = n := by omega
      have hdj : decide ((j : Int) < (j : Int)) = false := decide_eq_false (by omega)
      go_wp2
      go_ret
      exact ⟨d, mb, rfl, by have := HDM.out; omega, by have := HDM.out; omega, HF.out, hlen, HB.out⟩
end Go.Proofs.YtmogoopkjkdkgaaGreat.Vw
namespace Go.Proofs
open Go.Shelf
def Tryz.keys71_ren : Go.Shelf.Ren := ⟨fun | 7 => 71 | 10 => 99 | n => n, fun | 23 => 78 | 26 => 9 | 3 => 69 | 28 => 109 | 0 => 0 | 27 => 108 | 33 => 137 | 4 => 4 | n => n, fun | n => n⟩
theorem Tryz.keys71 : Go.Proofs.SlLaysZ.n7 Tryz.prog Tryz.keys71_ren := {
  mixed := by kernel_rfl
  f7 := ⟨Tryz.f71.name, by decide, Tryz.func71.trans (congrArg some (by kernel_rfl))⟩
  f10 := ⟨Tryz.f99.name, by decide, Tryz.func99.trans (congrArg some (by kernel_rfl))⟩
  t0 := Tryz.underlying0
  a0 := Tryz.isAgg0
  z0 := Tryz.sizeOf0
  v0 := Tryz.zeroValue0
  t4 := Tryz.underlying4
  a4 := Tryz.isAgg4
  z4 := Tryz.sizeOf4
  v4 := Tryz.zeroValue4
  t23 := Tryz.underlying78
  a23 := Tryz.isAgg78
  z23 := Tryz.sizeOf78
  v23 := Tryz.zeroValue78
  t26 := Tryz.underlying9
  a26 := Tryz.isAgg9
  z26 := Tryz.sizeOf9
  v26 := Tryz.zeroValue9
  t27 := Tryz.underlying108
  a27 := Tryz.isAgg108
  z27 := Tryz.sizeOf108
  v27 := Tryz.zeroValue108
  t28 := Tryz.underlying109
  a28 := Tryz.isAgg109
  z28 := Tryz.sizeOf109
  v28 := Tryz.zeroValue109
  t33 := Tryz.underlying137
  a33 := Tryz.isAgg137
  z33 := Tryz.sizeOf137
  v33 := Tryz.zeroValue137 }
def Tryz.sorted70_ren : Go.Shelf.Ren := ⟨fun | 6 => 70 | 8 => 97 | 9 => 98 | 11 => 110 | 13 => 112 | 12 => 111 | 23 => 125 | 24 => 96 | 14 => 116 | 15 => 117 | 16 => 118 | 17 => 119 | 18 => 120 | 19 => 121 | 20 => 122 | 21 => 123 | 22 => 124 | 25 => 126 | 26 => 127 | 27 => 128 | 28 => 129 | 29 => 130 | 30 => 131 | 31 => 132 | n => n, fun | 26 => 9 | 28 => 109 | 24 => 66 | 0 => 0 | 3 => 3 | 37 => 135 | 48 => 163 | 50 => 28 | 4 => 4 | 40 => 156 | 39 => 155 | 45 => 129 | 5 => 5 | 9 => 9 | 51 => 165 | 55 => 168 | 57 => 170 | 58 => 171 | 33 => 137 | n => n, fun | n => n⟩
theorem Tryz.sorted70 : Go.Proofs.SlLaysZ.n6 Tryz.prog Tryz.sorted70_ren := {
  mixed := by kernel_rfl
  f6 := ⟨Tryz.f70.name, by decide, Tryz.func70.trans (congrArg some (by kernel_rfl))⟩
  f8 := ⟨Tryz.f97.name, by decide, Tryz.func97.trans (congrArg some (by kernel_rfl))⟩
  f11 := ⟨Tryz.f110.name, by decide, Tryz.func110.trans (congrArg some (by kernel_rfl))⟩
  t0 := Tryz.underlying0
  a0 := Tryz.isAgg0
  z0 := Tryz.sizeOf0
  v0 := Tryz.zeroValue0
  t24 := Tryz.underlying66
  a24 := Tryz.isAgg66
  z24 := Tryz.sizeOf66
  v24 := Tryz.zeroValue66
  t26 := Tryz.underlying9
  a26 := Tryz.isAgg9
  z26 := Tryz.sizeOf9
  v26 := Tryz.zeroValue9
  t28 := Tryz.underlying109
  a28 := Tryz.isAgg109
  z28 := Tryz.sizeOf109
  v28 := Tryz.zeroValue109
  i26 := by kernel_rfl }
def Tryz.sort98_ren : Go.Shelf.Ren := ⟨fun | 6 => 98 | 8 => 112 | 9 => 111 | 19 => 125 | 20 => 96 | 21 => 116 | 22 => 117 | 23 => 118 | 24 => 119 | 25 => 120 | 26 => 121 | 27 => 122 | 28 => 123 | 29 => 124 | 36 => 126 | 31 => 127 | 32 => 128 | 37 => 129 | 38 => 130 | 39 => 131 | 41 => 132 | n => n, fun | 27 => 66 | 29 => 9 | 3 => 3 | 32 => 135 | 26 => 66 | 0 => 0 | 44 => 163 | 46 => 28 | 4 => 4 | 36 => 156 | 35 => 155 | 41 => 129 | 5 => 5 | 9 => 9 | 53 => 165 | 57 => 168 | 63 => 170 | 64 => 171 | n => n, fun | n => n⟩
theorem Tryz.sort98 : Go.Proofs.SlLaysM.n6 Tryz.prog Tryz.sort98_ren := {
  mixed := by kernel_rfl
  f6 := ⟨Tryz.f98.name, by decide, Tryz.func98.trans (congrArg some (by kernel_rfl))⟩
  f8 := Tryz.func112.trans (congrArg some (by kernel_rfl))
  f9 := ⟨Tryz.f111.name, by decide, Tryz.func111.trans (congrArg some (by kernel_rfl))⟩
  f19 := Tryz.func125.trans (congrArg some (by kernel_rfl))
  f20 := Tryz.func96.trans (congrArg some (by kernel_rfl))
  f21 := ⟨Tryz.f116.name, by decide, Tryz.func116.trans (congrArg some (by kernel_rfl))⟩
  f22 := ⟨Tryz.f117.name, by decide, Tryz.func117.trans (congrArg some (by kernel_rfl))⟩
  f23 := ⟨Tryz.f118.name, by decide, Tryz.func118.trans (congrArg some (by kernel_rfl))⟩
  f24 := ⟨Tryz.f119.name, by decide, Tryz.func119.trans (congrArg some (by kernel_rfl))⟩
  f25 := ⟨Tryz.f120.name, by decide, Tryz.func120.trans (congrArg some (by kernel_rfl))⟩
  f26 := ⟨Tryz.f121.name, by decide, Tryz.func121.trans (congrArg some (by kernel_rfl))⟩
  f27 := ⟨Tryz.f122.name, by decide, Tryz.func122.trans (congrArg some (by kernel_rfl))⟩
  f28 := ⟨Tryz.f123.name, by decide, Tryz.func123.trans (congrArg some (by kernel_rfl))⟩
  f29 := ⟨Tryz.f124.name, by decide, Tryz.func124.trans (congrArg some (by kernel_rfl))⟩
  f31 := Tryz.func127.trans (congrArg some (by kernel_rfl))
  f32 := Tryz.func128.trans (congrArg some (by kernel_rfl))
  f36 := ⟨Tryz.f126.name, by decide, Tryz.func126.trans (congrArg some (by kernel_rfl))⟩
  f37 := ⟨Tryz.f129.name, by decide, Tryz.func129.trans (congrArg some (by kernel_rfl))⟩
  f38 := ⟨Tryz.f130.name, by decide, Tryz.func130.trans (congrArg some (by kernel_rfl))⟩
  f39 := ⟨Tryz.f131.name, by decide, Tryz.func131.trans (congrArg some (by kernel_rfl))⟩
  f41 := ⟨Tryz.f132.name, by decide, Tryz.func132.trans (congrArg some (by kernel_rfl))⟩
  t0 := Tryz.underlying0
  a0 := Tryz.isAgg0
  z0 := Tryz.sizeOf0
  v0 := Tryz.zeroValue0
  t3 := Tryz.underlying3
  a3 := Tryz.isAgg3
  z3 := Tryz.sizeOf3
  v3 := Tryz.zeroValue3
  t4 := Tryz.underlying4
  a4 := Tryz.isAgg4
  z4 := Tryz.sizeOf4
  v4 := Tryz.zeroValue4
  t5 := Tryz.underlying5
  a5 := Tryz.isAgg5
  z5 := Tryz.sizeOf5
  v5 := Tryz.zeroValue5
  t9 := Tryz.underlying9
  a9 := Tryz.isAgg9
  z9 := Tryz.sizeOf9
  v9 := Tryz.zeroValue9
  t26 := Tryz.underlying66
  a26 := Tryz.isAgg66
  z26 := Tryz.sizeOf66
  v26 := Tryz.zeroValue66
  t27 := Tryz.underlying66
  a27 := Tryz.isAgg66
  z27 := Tryz.sizeOf66
  v27 := Tryz.zeroValue66
  t29 := Tryz.underlying9
  a29 := Tryz.isAgg9
  z29 := Tryz.sizeOf9
  v29 := Tryz.zeroValue9
  t32 := Tryz.underlying135
  a32 := Tryz.isAgg135
  z32 := Tryz.sizeOf135
  v32 := Tryz.zeroValue135
  t35 := Tryz.underlying155
  a35 := Tryz.isAgg155
  z35 := Tryz.sizeOf155
  v35 := Tryz.zeroValue155
  t36 := Tryz.underlying156
  a36 := Tryz.isAgg156
  z36 := Tryz.sizeOf156
  v36 := Tryz.zeroValue156
  t41 := Tryz.underlying129
  a41 := Tryz.isAgg129
  z41 := Tryz.sizeOf129
  v41 := Tryz.zeroValue129
  t44 := Tryz.underlying163
  a44 := Tryz.isAgg163
  z44 := Tryz.sizeOf163
  v44 := Tryz.zeroValue163
  t46 := Tryz.underlying28
  a46 := Tryz.isAgg28
  z46 := Tryz.sizeOf28
  v46 := Tryz.zeroValue28
  t53 := Tryz.underlying165
  a53 := Tryz.isAgg165
  z53 := Tryz.sizeOf165
  v53 := Tryz.zeroValue165
  t57 := Tryz.underlying168
  a57 := Tryz.isAgg168
  z57 := Tryz.sizeOf168
  v57 := Tryz.zeroValue168
  t63 := Tryz.underlying170
  a63 := Tryz.isAgg170
  z63 := Tryz.sizeOf170
  v63 := Tryz.zeroValue170
  t64 := Tryz.underlying171
  a64 := Tryz.isAgg171
  z64 := Tryz.sizeOf171
  v64 := Tryz.zeroValue171 }
theorem Tryz.sorts70 (m : Nat) : AnyZ.SortsIn Tryz.prog Tryz.sorted70_ren Fence.wide m :=
  ⟨fun blk off cap ss W hH hblk hsz => callsIn_wide.2 (AnyM.slices_Sort_string Tryz.sort98 blk off cap ss W hH hblk hsz),
   fun p cap W => callsIn_wide.2 (AnyM.slices_Sort_string_none Tryz.sort98 p cap W)⟩
theorem Tryz.maps_Keys_71 (mb : Option Nat) (W : World) : CallsIn Fence.wide 5 Tryz.prog 71 #[.map mb] W fun e w' => e = .returned (.func (.func 99) #[] #[.pointer (some ⟨W.heap.size, 0, none⟩)]) ∧ w' = W.alloc (.cells #[.map mb] 78) :=
  AnyZ.keys_in Tryz.keys71 Fence.wide 5 trivial rfl mb W
theorem Tryz.slices_Sorted_keys_70_71 {H : Type} (b nn : Nat) (D0 : DataW H) (R : Value → Option (DataW H × List MemPlace)) (w : World) (hown : w.ownsMap Tryz.prog 9 R b nn D0) (hmax : Go.Maps.size D0 ≤ maxLen) (hbytes : Go.Maps.size D0 * 16 ≤ 140737488355328) :
    CallsIn Fence.wide 5 Tryz.prog 70 #[.func (.func 99) #[] #[.pointer (some ⟨w.heap.size, 0, none⟩)]] (w.alloc (.cells #[.map (some b)] 78)) fun e w' => ∃ (v : Value) (ss : List (List UInt8)), e = .returned v ∧ ss.Perm (strKeys D0) ∧
      w'.ownsRow (w.alloc (.cells #[.map (some b)] 78)).heap.size 9 1 v ss.length ((ss.mergeSort (fun x y => decide (x ≤ y))).map encStr) ∧ (v = .slice none 0 0 ↔ ss = []) ∧ Go.RowKit.Below (w.alloc (.cells #[.map (some b)] 78)).heap.size (w.alloc (.cells #[.map (some b)] 78)) w' := by
  have hbl := hown.lt
  have hseq : SeqGives Fence.wide 2 Tryz.prog 99 #[.pointer (some ⟨w.heap.size, 0, none⟩)] encStr (fun ss => ss.Perm (strKeys D0)) (Go.Maps.size D0) (w.alloc (.cells #[.map (some b)] 78)) :=
    AnyZ.keys_gives (ρ := Tryz.keys71_ren) { Tryz.keys71 with } Fence.wide _ trivial rfl (by omega) w.heap.size b nn D0 _ (by simp) (by simp) (by
      obtain ⟨es, clock, hb, Ft, hs, hD⟩ := hown
      exact ⟨es, clock, (Go.RowKit.Below.heap_alloc _ _ b hbl).trans hb, Ft, hs, hD⟩)
  exact AnyZ.sorted_in Tryz.sorted70 Fence.wide 5 trivial trivial trivial trivial rfl (by omega) (Tryz.sorts70 _) (enters_of Tryz.func98 (by kernel_rfl) rfl) 99 #[.pointer (some ⟨w.heap.size, 0, none⟩)] trivial (enters_of Tryz.func99 (by kernel_rfl) rfl) _ _ hmax hbytes _ hseq
def Tryz.clone42_ren : Go.Shelf.Ren := ⟨fun | 5 => 42 | 7 => 75 | n => n, fun | 23 => 78 | 25 => 9 | 3 => 69 | 4 => 4 | 20 => 20 | n => n, fun | n => n⟩
theorem Tryz.clone42 : Go.Proofs.SlLaysW.n5 Tryz.prog Tryz.clone42_ren := {
  mixed := by kernel_rfl
  f5 := ⟨Tryz.f42.name, by decide, Tryz.func42.trans (congrArg some (by kernel_rfl))⟩
  f7 := Tryz.func75.trans (congrArg some (by kernel_rfl))
  t4 := Tryz.underlying4
  a4 := Tryz.isAgg4
  z4 := Tryz.sizeOf4
  v4 := Tryz.zeroValue4
  t20 := Tryz.underlying20
  a20 := Tryz.isAgg20
  z20 := Tryz.sizeOf20
  v20 := Tryz.zeroValue20
  t23 := Tryz.underlying78
  a23 := Tryz.isAgg78
  z23 := Tryz.sizeOf78
  v23 := Tryz.zeroValue78 }
end Go.Proofs
