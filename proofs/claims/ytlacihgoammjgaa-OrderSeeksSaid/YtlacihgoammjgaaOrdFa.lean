/- Order: the document's lists of events by writers: Feeds: what stands while they are made. -/
import Derived.Test.YtlacihgoammjgaaOrdM
namespace Go.Proofs.Ytlacihgoammjgaa.Ord
open Go Go.RowKit Go.Proofs.Ytlacihgoammjgaa.Words Go.Proofs.Ytlacihgoammjgaa.Enc Go.Proofs.Ytlacihgoammjgaa.Evt Go.Proofs.Ytlacihgoammjgaa.Seg
set_option linter.unusedVariables false
set_option linter.unusedSimpArgs false

/-- A row of numbers of 16 bits. -/
structure SeesH (w : World) (A : Option Addr) (n : Nat) (l : List Nat) : Prop where
  len : l.length = n
  row : 0 < n → ∃ b o, A = some ⟨b, o, none⟩ ∧ ∀ (j x : Nat), l[j]? = some x → w.cell? ⟨b, o + j, none⟩ = some (.int .u16 (x : Int))
  few : ∀ x ∈ l, x < 65536
theorem SeesH.below {w w' : World} {A : Option Addr} {n : Nat} {l : List Nat} (h : SeesH w A n l) (hb : Below w.heap.size w w') : SeesH w' A n l :=
  ⟨h.len, fun hn => by
    obtain ⟨b, o, h1, h2⟩ := h.row hn
    exact ⟨b, o, h1, fun j x hx => by rw [hb.cell (World.block_lt_of_cell? _ _ (h2 j x hx))]; exact h2 j x hx⟩, h.few⟩

/-- An event's text, if it has one, is a block of one byte. -/
def TextBox (B : Nat) (W : World) (e : EvS) : Prop :=
  (e.n = 0 ∧ e.c = 0 ∧ e.A = none ∧ e.e.text = []) ∨ ∃ (tb : Nat) (u : UInt8), e.A = some ⟨tb, 0, none⟩ ∧ e.n = 1 ∧ e.c = 1 ∧ e.e.text = [u] ∧ W.heap[tb]? = some (.cells #[.int .u8 (u.toNat : Int)] 5 (0, 0)) ∧ B ≤ tb
/-- A list of the writer k, whose last event has the time t. -/
structure ListOf (k t : Nat) (x : HV) : Prop where
  each : ∀ e ∈ x.S, e.e.writer = k ∧ 1 ≤ e.e.time ∧ e.e.time ≤ t ∧ 1 ≤ e.e.seq ∧ e.e.seq ≤ 60 ∧ 1 ≤ e.e.kind ∧ e.e.kind ≤ 4 ∧ e.e.key.size = 1 ∧ (e.e.kind ≠ 1 → e.e.text = []) ∧ e.e.node = 0 ∧ e.e.num < 18446744073709551616
  rise : x.S.Pairwise fun a b => a.e.time < b.e.time
def u64s (T : List Nat) : List Value := T.map fun (t : Nat) => Value.int .u64 (t : Int)
/-- What stands while the lists are made. -/
structure FeedsAt (B0 ob lb wn : Nat) (w0 : World) (i m : Nat) (L : List HV) (T : List Nat) (W : World) : Prop where
  out : W.heap[ob]? = some (.cells (L.map HV.val).toArray 26 (0, 0))
  last : W.heap[lb]? = some (.cells (u64s T).toArray 30 (0, 0))
  lenL : L.length = wn
  lenT : T.length = wn
  own : ∀ x ∈ L, W.ownsRow B0 34 8 (.slice x.A x.S.length x.c) x.S.length (rowsL x.S)
  apart : ∀ (j k : Nat) (x y : HV) (a b : Addr), L[j]? = some x → L[k]? = some y → x.A = some a → y.A = some b → j ≠ k → a.block ≠ b.block
  text : ∀ x ∈ L, ∀ e ∈ x.S, TextBox B0 W e
  good : ∀ (k t : Nat) (x : HV), L[k]? = some x → T[k]? = some t → ListOf k t x
  few : (flat L).length = i
  time : ∀ t ∈ T, t ≤ m
  below : Below B0 w0 W
  new : B0 ≤ ob ∧ B0 ≤ lb ∧ B0 ≤ w0.heap.size

theorem infoLL : (Try.prog.info? 26).map (fun i => (i.zero, i.size, i.bytes)) = some (some (.slice none 0 0), 1, 24) := by kernel_rfl
set_option maxRecDepth 100000 in
theorem make_ll (W : World) (kk : Nat) (hk : kk ≤ 1000000) : (Instr.makeSlice 24 (.int .i64 (kk : Int)) (.int .i64 (kk : Int))).run Try.prog W = .ok (.slice (some ⟨W.heap.size, 0, none⟩) kk kk) (W.alloc (.cells ((List.replicate kk (⟨none, 0, []⟩ : HV)).map HV.val).toArray 26)) := by
  obtain ⟨i, hi, hz, hsz, hby⟩ := info_parts infoLL
  have := run_make (P := Try.prog) W 24 26 i (.slice none 0 0) Try.underlying24 hi hz .i64 .i64 (kk : Int) (kk : Int) (by omega) (Int.le_refl _) (by rw [hby]; omega) (by omega)
  rw [this, hsz]
  simp only [Int.toNat_natCast, Nat.mul_one]
  congr 4
  apply Array.ext'
  rw [show (Value.slice none 0 0).cells = #[Value.slice none 0 0] from rfl, toList_madeCells_one]
  simp [HV.val]
theorem infoU64 : (Try.prog.info? 30).map (fun i => (i.zero, i.size, i.bytes)) = some (some (.int .u64 0), 1, 8) := by kernel_rfl
set_option maxRecDepth 100000 in
theorem make_us (W : World) (kk : Nat) (hk : kk ≤ 1000000) : (Instr.makeSlice 51 (.int .i64 (kk : Int)) (.int .i64 (kk : Int))).run Try.prog W = .ok (.slice (some ⟨W.heap.size, 0, none⟩) kk kk) (W.alloc (.cells (u64s (List.replicate kk 0)).toArray 30)) := by
  obtain ⟨i, hi, hz, hsz, hby⟩ := info_parts infoU64
  have := run_make (P := Try.prog) W 51 30 i (.int .u64 0) Try.underlying51 hi hz .i64 .i64 (kk : Int) (kk : Int) (by omega) (Int.le_refl _) (by rw [hby]; omega) (by omega)
  rw [this, hsz]
  simp only [Int.toNat_natCast, Nat.mul_one]
  congr 4
  apply Array.ext'
  rw [show (Value.int .u64 0).cells = #[Value.int .u64 0] from rfl, toList_madeCells_one]
  simp [u64s]
theorem feeds_start (w : World) (wn : Nat) : FeedsAt w.heap.size w.heap.size (w.heap.size + 1) wn w 0 0 (List.replicate wn ⟨none, 0, []⟩) (List.replicate wn 0)
    ((w.alloc (.cells ((List.replicate wn (⟨none, 0, []⟩ : HV)).map HV.val).toArray 26)).alloc (.cells (u64s (List.replicate wn 0)).toArray 30)) := by
  have hall : ∀ x ∈ List.replicate wn (⟨none, 0, []⟩ : HV), x = ⟨none, 0, []⟩ := fun x hx => (List.mem_replicate.1 hx).2
  refine ⟨(Below.heap_alloc _ _ _ (by simp)).trans (heap_alloc_new w _), ?_, by simp, by simp, fun x hx => ?_, fun j k x y a b hx hy ha hb => ?_, fun x hx e he => ?_, fun k t x hx ht => ?_, ?_, fun t ht => ?_, ((Below.refl _ _).alloc (Nat.le_refl _) _).alloc (by simp) _, Nat.le_refl _, by omega, Nat.le_refl _⟩
  · have := heap_alloc_new (w.alloc (.cells ((List.replicate wn (⟨none, 0, []⟩ : HV)).map HV.val).toArray 26)) (.cells (u64s (List.replicate wn 0)).toArray 30)
    rwa [World.size_alloc] at this
  · rw [hall x hx]; exact World.ownsRow_nil _ _ _ 8
  · rw [hall x (List.mem_of_getElem? hx)] at ha; cases ha
  · rw [hall x hx] at he; cases he
  · rw [hall x (List.mem_of_getElem? hx)]; exact ⟨fun e he => (by cases he), List.Pairwise.nil⟩
  · simp [flat]
  · rw [(List.mem_replicate.1 ht).2]; omega

theorem ListOf.later {k t t' : Nat} {x : HV} (h : ListOf k t x) (ht : t ≤ t') : ListOf k t' x :=
  ⟨fun e he => by obtain ⟨h1, h2, h3, h4⟩ := h.each e he; exact ⟨h1, h2, by omega, h4⟩, h.rise⟩
/-- One writer's last time is another one. -/
theorem FeedsAt.tick {B0 ob lb wn i m k t t' : Nat} {w0 W : World} {L : List HV} {T : List Nat} (h : FeedsAt B0 ob lb wn w0 i m L T W) (hol : ob ≠ lb) (hx : ∀ (b : Nat) (x : HV) (a : Addr), x ∈ L → x.A = some a → a.block ≠ lb) (hk : T[k]? = some t) (htt : t ≤ t') (m' : Nat) (hm : m ≤ m') (ht' : t' ≤ m') :
    FeedsAt B0 ob lb wn w0 i m' L (T.set k t') (W.setCell ⟨lb, k, none⟩ (.int .u64 (t' : Int))).drew := by
  have hkl : k < T.length := (List.getElem?_eq_some_iff.1 hk).1
  have hlast := heapSame (i := k) (v := .int .u64 (t' : Int)) h.last
  refine ⟨(heapOther hol).trans h.out, ?_, h.lenL, by simpa using h.lenT, fun x hxL => ⟨(h.own x hxL).1, ?_⟩, h.apart, fun x hxL e he => ?_, fun j tj x hj htj => ?_, h.few, fun tj htj => ?_, (h.below.setCell (p := ⟨lb, k, none⟩) h.new.2.1 _).drew, h.new⟩
  · show (W.setCell ⟨lb, k, none⟩ (.int .u64 (t' : Int))).heap[lb]? = _
    rw [hlast]
    congr 2
    apply Array.ext'
    simp [u64s, List.map_set]
  · rcases (h.own x hxL).2 with hn | ⟨g, cap, cur, hv, hg, hh, r⟩
    · exact .inl hn
    · have hA : x.A = some ⟨g, 0, none⟩ := by injection hv
      exact .inr ⟨g, cap, cur, hv, hg, (heapOther (hx 0 x _ hxL hA)).trans hh, r⟩
  · rcases h.text x hxL e he with hz | ⟨tb, u, h1, h2, h3, h4, h5, h6⟩
    · exact .inl hz
    · refine .inr ⟨tb, u, h1, h2, h3, h4, (heapOther (fun e => ?_)).trans h5, h6⟩
      subst e
      rw [h.last] at h5
      injection h5 with h5
      injection h5 with _ h5
      exact absurd h5 (by decide)
  · by_cases hjk : j = k
    · subst hjk
      rw [List.getElem?_set_self hkl] at htj
      cases htj
      exact (h.good j t x hj hk).later htt
    · rw [List.getElem?_set_ne (Ne.symm hjk)] at htj
      exact h.good j tj x hj htj
  · rcases List.mem_or_eq_of_mem_set htj with h1 | rfl
    · have := h.time tj h1; omega
    · exact ht'
/-- The rows of the lists aren't the row of the last times. -/
theorem FeedsAt.far {B0 ob lb wn i m : Nat} {w0 W : World} {L : List HV} {T : List Nat} (h : FeedsAt B0 ob lb wn w0 i m L T W) {x : HV} {a : Addr} (hx : x ∈ L) (ha : x.A = some a) : a.block ≠ lb ∧ a.block ≠ ob := by
  rcases (h.own x hx).2 with ⟨hv, _⟩ | ⟨g, cap, cur, hv, hg, hh, r⟩
  · rw [ha] at hv; cases hv
  · have hA : x.A = some ⟨g, 0, none⟩ := by injection hv
    rw [ha] at hA
    cases hA
    refine ⟨fun e => ?_, fun e => ?_⟩
    · simp only at e; rw [e, h.last] at hh; injection hh with hh; injection hh with _ hh; exact absurd hh (by decide)
    · simp only at e; rw [e, h.out] at hh; injection hh with hh; injection hh with _ hh; exact absurd hh (by decide)
/-- The key's byte, as the program reckons it. -/
def keyV (x : Nat) : Int := IntKind.u8.wrap (97 + (IntKind.u8.wrap (IntKind.u16.wrap ((x : Int) / 256))).tmod 4)
theorem keyV_eq (x : Nat) (hx : x < 65536) : keyV x = ((97 + x / 256 % 4 : Nat) : Int) := by
  have h1 : IntKind.u16.wrap ((x : Int) / 256) = (x : Int) / 256 := by simp [IntKind.wrap, IntKind.bits, IntKind.signed]; omega
  have h2 : IntKind.u8.wrap ((x : Int) / 256) = (x : Int) / 256 := by simp [IntKind.wrap, IntKind.bits, IntKind.signed]; omega
  have h3 : ((x : Int) / 256).tmod 4 = (x : Int) / 256 % 4 := Int.tmod_eq_emod_of_nonneg (by omega)
  unfold keyV
  rw [h1, h2, h3]
  simp [IntKind.wrap, IntKind.bits, IntKind.signed]
  omega
theorem key_run12 (W : World) (x : Nat) (hx : x < 65536) : (convert 31 9 (.slice (some ⟨W.heap.size, 0, none⟩) 1 1)).run Try.prog (W.alloc (.cells #[.int .u8 (keyV x)] 5)).drew = .ok (.string ⟨#[UInt8.ofNat (97 + x / 256 % 4)]⟩) (W.alloc (.cells #[.int .u8 (keyV x)] 5)).drew := by
  have h : Sees (W.alloc (.cells #[.int .u8 (keyV x)] 5)) (some ⟨W.heap.size, 0, none⟩) 1 [UInt8.ofNat (97 + x / 256 % 4)] := by
    refine sees_new W _ _ 1 _ rfl fun j u hu => ?_
    match j, hu with
    | 0, hu =>
      rw [List.getElem?_cons_zero] at hu
      injection hu with hu
      subst hu
      have h2 : (UInt8.ofNat (97 + x / 256 % 4)).toNat = 97 + x / 256 % 4 := by rw [UInt8.toNat_ofNat']; omega
      show some (Value.int IntKind.u8 (keyV x)) = some (Value.int IntKind.u8 ((UInt8.ofNat (97 + x / 256 % 4)).toNat : Int))
      rw [h2, keyV_eq x hx]
  exact (h.below (Below.refl _ _).drew).string 1 Try.underlying31 Try.underlying5 Try.underlying9
theorem key_run13 (W : World) (x : Nat) (hx : x < 65536) (o : Obj) : (convert 31 9 (.slice (some ⟨W.heap.size, 0, none⟩) 1 1)).run Try.prog ((W.alloc (.cells #[.int .u8 (keyV x)] 5)).alloc o).drew = .ok (.string ⟨#[UInt8.ofNat (97 + x / 256 % 4)]⟩) ((W.alloc (.cells #[.int .u8 (keyV x)] 5)).alloc o).drew := by
  have h : Sees (W.alloc (.cells #[.int .u8 (keyV x)] 5)) (some ⟨W.heap.size, 0, none⟩) 1 [UInt8.ofNat (97 + x / 256 % 4)] := by
    refine sees_new W _ _ 1 _ rfl fun j u hu => ?_
    match j, hu with
    | 0, hu =>
      rw [List.getElem?_cons_zero] at hu
      injection hu with hu
      subst hu
      have h2 : (UInt8.ofNat (97 + x / 256 % 4)).toNat = 97 + x / 256 % 4 := by rw [UInt8.toNat_ofNat']; omega
      show some (Value.int IntKind.u8 (keyV x)) = some (Value.int IntKind.u8 ((UInt8.ofNat (97 + x / 256 % 4)).toNat : Int))
      rw [h2, keyV_eq x hx]
  exact (h.below (((Below.refl _ _).alloc (Nat.le_refl _) o).drew)).string 1 Try.underlying31 Try.underlying5 Try.underlying9
theorem kindV_eq (x : Nat) (hx : x < 65536) : ∃ kd : Nat, 1 ≤ kd ∧ kd ≤ 4 ∧ IntKind.u8.wrap (1 + (IntKind.u8.wrap (IntKind.u16.wrap ((x : Int) / 64))).tmod 4) = (kd : Int) := by
  have h1 : IntKind.u16.wrap ((x : Int) / 64) = (x : Int) / 64 := by simp [IntKind.wrap, IntKind.bits, IntKind.signed]; omega
  have h2 : IntKind.u8.wrap ((x : Int) / 64) = (x : Int) / 64 % 256 := by simp [IntKind.wrap, IntKind.bits, IntKind.signed]
  have h3 : ((x : Int) / 64 % 256).tmod 4 = (x : Int) / 64 % 256 % 4 := Int.tmod_eq_emod_of_nonneg (by omega)
  refine ⟨1 + x / 64 % 256 % 4, by omega, by omega, ?_⟩
  rw [h1, h2, h3]
  simp [IntKind.wrap, IntKind.bits, IntKind.signed]
  omega
theorem seqV_eq (s : Nat) (hs : s ≤ 60) : IntKind.u64.wrap (IntKind.u64.wrap (s : Int) + 1) = ((s + 1 : Nat) : Int) := by
  rw [IntKind.wrap_u64, IntKind.wrap_u64]; omega
theorem quo4_some : ∀ i : Fin 60, (floatBits .quo .f64 (floatOfInt .f64 ((i.val : Nat) : Int)) 4616189618054758400).any (fun q => decide (q < 18446744073709551616)) = true := by decide +kernel
theorem quo4_run (i : Nat) (hi : i < 60) : ∃ q : Nat, q < 18446744073709551616 ∧ ∀ t W, (binOp .quo t (.float .f64 (floatOfInt .f64 (i : Int))) (.float .f64 4616189618054758400)).run Try.prog W = .ok (.float .f64 q) W := by
  obtain ⟨q, hq, hq2⟩ := (Option.any_eq_true _ _).1 (quo4_some ⟨i, hi⟩)
  exact ⟨q, of_decide_eq_true hq2, fun t W => run_float_arith W .quo t .f64 _ _ _ hq⟩
theorem TextBox.below {B : Nat} {w w' : World} {e : EvS} (h : TextBox B w e) (hb : Below w.heap.size w w') : TextBox B w' e := by
  rcases h with hz | ⟨tb, u, q1, q2, q3, q4, q5, q6⟩
  · exact .inl hz
  · exact .inr ⟨tb, u, q1, q2, q3, q4, (hb.block tb (Array.getElem?_eq_some_iff.1 q5).1).trans q5, q6⟩
end Go.Proofs.Ytlacihgoammjgaa.Ord
