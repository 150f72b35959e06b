/- Order: the document's lists of events by writers: Feeds: what stands while they are made. Order: Feeds: an event is put behind a list. -/
import Derived.Test.YtmogoopkjkdkgaaGreatVTp15
namespace Go.Proofs.YtmogoopkjkdkgaaGreat.Ord
open Go Go.RowKit Go.Proofs.YtmogoopkjkdkgaaGreat.Words Go.Proofs.YtmogoopkjkdkgaaGreat.Enc Go.Proofs.YtmogoopkjkdkgaaGreat.Evt Go.Proofs.YtmogoopkjkdkgaaGreat.Seg
set_option linter.unusedVariables false
set_option linter.unusedSimpArgs false

/-- A row of numbers of 16 bits. -/
structure SeesH (w : World) (A : Option Addr) (n : Nat) (l : List Nat) : Prop where
  len : l.length = n
  row : 0 < n → ∃ b o, A = some ⟨b, o, none⟩ ∧ ∀ (j x : Nat), l[j]? = some x → w.cell? ⟨b, o + j, none⟩ = some (.int .u16 (x : Int))
  few : ∀ x ∈ l, x < 65536
theorem SeesH.below {w w' : World} {A : Option Addr} {n : Nat} {l : List Nat} (h : SeesH w A n l) (hb : Below w.heap.size w w') : SeesH w' A n l :=
  ⟨h.len, fun hn => by
    obtain ⟨b, o, h1, h2⟩ := h.row hn
    exact ⟨b, o, h1, fun j x hx => by rw [hb.cell (World.block_lt_of_cell? _ _ (h2 j x hx))]; exact h2 j x hx⟩, h.few⟩

/-- An event's text, if it has one, is a block of one byte. -/
def TextBox (B : Nat) (W : World) (e : EvS) : Prop :=
  (e.n = 0 ∧ e.c = 0 ∧ e.A = none ∧ e.e.text = []) ∨ ∃ (tb : Nat) (u : UInt8), e.A = some ⟨tb, 0, none⟩ ∧ e.n = 1 ∧ e.c = 1 ∧ e.e.text = [u] ∧ W.heap[tb]? = some (.cells #[.int .u8 (u.toNat : Int)] 5 (0, 0)) ∧ B ≤ tb
/-- A list of the writer k, whose last event has the time t. -/
structure ListOf (k t : Nat) (x : HV) : Prop where
  each : ∀ e ∈ x.S, e.e.writer = k ∧ 1 ≤ e.e.time ∧ e.e.time ≤ t ∧ 1 ≤ e.e.seq ∧ e.e.seq ≤ 60 ∧ 1 ≤ e.e.kind ∧ e.e.kind ≤ 4 ∧ e.e.key.size = 1 ∧ (e.e.kind ≠ 1 → e.e.text = []) ∧ e.e.node = 0 ∧ e.e.num < 18446744073709551616
  rise : x.S.Pairwise fun a b => a.e.time < b.e.time
  seq : ∀ j e, x.S[j]? = some e → e.e.seq = j + 1
def u64s (T : List Nat) : List Value := T.map fun (t : Nat) => Value.int .u64 (t : Int)
/-- What stands while the lists are made. -/
structure FeedsAt (B0 ob lb wn : Nat) (w0 : World) (i m : Nat) (L : List HV) (T : List Nat) (W : World) : Prop where
  out : W.heap[ob]? = some (.cells (L.map HV.val).toArray 24 (0, 0))
  last : W.heap[lb]? = some (.cells (u64s T).toArray 28 (0, 0))
  lenL : L.length = wn
  lenT : T.length = wn
  own : ∀ x ∈ L, W.ownsRow B0 32 8 (.slice x.A x.S.length x.c) x.S.length (rowsL x.S)
  apart : ∀ (j k : Nat) (x y : HV) (a b : Addr), L[j]? = some x → L[k]? = some y → x.A = some a → y.A = some b → j ≠ k → a.block ≠ b.block
  text : ∀ x ∈ L, ∀ e ∈ x.S, TextBox B0 W e
  good : ∀ (k t : Nat) (x : HV), L[k]? = some x → T[k]? = some t → ListOf k t x
  few : (flat L).length = i
  time : ∀ t ∈ T, t ≤ m
  below : Below B0 w0 W
  new : B0 ≤ ob ∧ B0 ≤ lb ∧ B0 ≤ w0.heap.size

theorem infoLL : (Tryz.prog.info? 24).map (fun i => (i.zero, i.size, i.bytes)) = some (some (.slice none 0 0), 1, 24) := by kernel_rfl
set_option maxRecDepth 100000 in
theorem make_ll (W : World) (kk : Nat) (hk : kk ≤ 1000000) : (Instr.makeSlice 26 (.int .i64 (kk : Int)) (.int .i64 (kk : Int))).run Tryz.prog W = .ok (.slice (some ⟨W.heap.size, 0, none⟩) kk kk) (W.alloc (.cells ((List.replicate kk (⟨none, 0, []⟩ : HV)).map HV.val).toArray 24)) := by
  obtain ⟨i, hi, hz, hsz, hby⟩ := info_parts infoLL
  have := run_make (P := Tryz.prog) W 26 24 i (.slice none 0 0) Tryz.underlying26 hi hz .i64 .i64 (kk : Int) (kk : Int) (by omega) (Int.le_refl _) (by rw [hby]; omega) (by omega)
  rw [this, hsz]
  simp only [Int.toNat_natCast, Nat.mul_one]
  congr 4
  apply Array.ext'
  rw [show (Value.slice none 0 0).cells = #[Value.slice none 0 0] from rfl, toList_madeCells_one]
  simp [HV.val]
theorem infoU64 : (Tryz.prog.info? 28).map (fun i => (i.zero, i.size, i.bytes)) = some (some (.int .u64 0), 1, 8) := by kernel_rfl
set_option maxRecDepth 100000 in
theorem make_us (W : World) (kk : Nat) (hk : kk ≤ 1000000) : (Instr.makeSlice 50 (.int .i64 (kk : Int)) (.int .i64 (kk : Int))).run Tryz.prog W = .ok (.slice (some ⟨W.heap.size, 0, none⟩) kk kk) (W.alloc (.cells (u64s (List.replicate kk 0)).toArray 28)) := by
  obtain ⟨i, hi, hz, hsz, hby⟩ := info_parts infoU64
  have := run_make (P := Tryz.prog) W 50 28 i (.int .u64 0) Tryz.underlying50 hi hz .i64 .i64 (kk : Int) (kk : Int) (by omega) (Int.le_refl _) (by rw [hby]; omega) (by omega)
  rw [this, hsz]
  simp only [Int.toNat_natCast, Nat.mul_one]
  congr 4
  apply Array.ext'
  rw [show (Value.int .u64 0).cells = #[Value.int .u64 0] from rfl, toList_madeCells_one]
  simp [u64s]
theorem feeds_start (w : World) (wn : Nat) : FeedsAt w.heap.size w.heap.size (w.heap.size + 1) wn w 0 0 (List.replicate wn ⟨none, 0, []⟩) (List.replicate wn 0)
    ((w.alloc (.cells ((List.replicate wn (⟨none, 0, []⟩ : HV)).map HV.val).toArray 24)).alloc (.cells (u64s (List.replicate wn 0)).toArray 28)) := by
  have hall : ∀ x ∈ List.replicate wn (⟨none, 0, []⟩ : HV), x = ⟨none, 0, []⟩ := fun x hx => (List.mem_replicate.1 hx).2
  refine ⟨(Below.heap_alloc _ _ _ (by simp)).trans (heap_alloc_new w _), ?_, by simp, by simp, fun x hx => ?_, fun j k x y a b hx hy ha hb => ?_, fun x hx e he => ?_, fun k t x hx ht => ?_, ?_, fun t ht => ?_, ((Below.refl _ _).alloc (Nat.le_refl _) _).alloc (by simp) _, Nat.le_refl _, by omega, Nat.le_refl _⟩
  · have := heap_alloc_new (w.alloc (.cells ((List.replicate wn (⟨none, 0, []⟩ : HV)).map HV.val).toArray 24)) (.cells (u64s (List.replicate wn 0)).toArray 28)
    rwa [World.size_alloc] at this
  · rw [hall x hx]; exact World.ownsRow_nil _ _ _ 8
  · rw [hall x (List.mem_of_getElem? hx)] at ha; cases ha
  · rw [hall x hx] at he; cases he
  · rw [hall x (List.mem_of_getElem? hx)]; exact ⟨fun e he => (by cases he), List.Pairwise.nil, fun j e h => (by simp at h)⟩
  · simp [flat]
  · rw [(List.mem_replicate.1 ht).2]; omega

theorem ListOf.later {k t t' : Nat} {x : HV} (h : ListOf k t x) (ht : t ≤ t') : ListOf k t' x :=
  ⟨fun e he => by obtain ⟨h1, h2, h3, h4⟩ := h.each e he; exact ⟨h1, h2, by omega, h4⟩, h.rise, h.seq⟩
/-- One writer's last time is another one. -/
theorem FeedsAt.tick {B0 ob lb wn i m k t t' : Nat} {w0 W : World} {L : List HV} {T : List Nat} (h : FeedsAt B0 ob lb wn w0 i m L T W) (hol : ob ≠ lb) (hx : ∀ (b : Nat) (x : HV) (a : Addr), x ∈ L → x.A = some a → a.block ≠ lb) (hk : T[k]? = some t) (htt : t ≤ t') (m' : Nat) (hm : m ≤ m') (ht' : t' ≤ m') :
    FeedsAt B0 ob lb wn w0 i m' L (T.set k t') (W.setCell ⟨lb, k, none⟩ (.int .u64 (t' : Int))).drew := by
  have hkl : k < T.length := (List.getElem?_eq_some_iff.1 hk).1
  have hlast := heapSame (i := k) (v := .int .u64 (t' : Int)) h.last
  refine ⟨(heapOther hol).trans h.out, ?_, h.lenL, by simpa using h.lenT, fun x hxL => ⟨(h.own x hxL).1, ?_⟩, h.apart, fun x hxL e he => ?_, fun j tj x hj htj => ?_, h.few, fun tj htj => ?_, (h.below.setCell (p := ⟨lb, k, none⟩) h.new.2.1 _).drew, h.new⟩
  · show (W.setCell ⟨lb, k, none⟩ (.int .u64 (t' : Int))).heap[lb]? = _
    rw [hlast]
    congr 2
    apply Array.ext'
    simp [u64s, List.map_set]
  · rcases (h.own x hxL).2 with hn | ⟨g, cap, cur, hv, hg, hh, r⟩
    · exact .inl hn
    · have hA : x.A = some ⟨g, 0, none⟩ := by injection hv
      exact .inr ⟨g, cap, cur, hv, hg, (heapOther (hx 0 x _ hxL hA)).trans hh, r⟩
  · rcases h.text x hxL e he with hz | ⟨tb, u, h1, h2, h3, h4, h5, h6⟩
    · exact .inl hz
    · refine .inr ⟨tb, u, h1, h2, h3, h4, (heapOther (fun e => ?_)).trans h5, h6⟩
      subst e
      rw [h.last] at h5
      injection h5 with h5
      injection h5 with _ h5
      exact absurd h5 (by decide)
  · by_cases hjk : j = k
    · subst hjk
      rw [List.getElem?_set_self hkl] at htj
      cases htj
      exact (h.good j t x hj hk).later htt
    · rw [List.getElem?_set_ne (Ne.symm hjk)] at htj
      exact h.good j tj x hj htj
  · rcases List.mem_or_eq_of_mem_set htj with h1 | rfl
    · have := h.time tj h1; omega
    · exact ht'
/-- The rows of the lists aren't the row of the last times. -/
theorem FeedsAt.far {B0 ob lb wn i m : Nat} {w0 W : World} {L : List HV} {T : List Nat} (h : FeedsAt B0 ob lb wn w0 i m L T W) {x : HV} {a : Addr} (hx : x ∈ L) (ha : x.A = some a) : a.block ≠ lb ∧ a.block ≠ ob := by
  rcases (h.own x hx).2 with ⟨hv, _⟩ | ⟨g, cap, cur, hv, hg, hh, r⟩
  · rw [ha] at hv; cases hv
  · have hA : x.A = some ⟨g, 0, none⟩ := by injection hv
    rw [ha] at hA
    cases hA
    refine ⟨fun e => ?_, fun e => ?_⟩
    · simp only at e; rw [e, h.last] at hh; injection hh with hh; injection hh with _ hh; exact absurd hh (by decide)
    · simp only at e; rw [e, h.out] at hh; injection hh with hh; injection hh with _ hh; exact absurd hh (by decide)
/-- The key's byte, as the program reckons it. -/
def keyV (x : Nat) : Int := IntKind.u8.wrap (97 + (IntKind.u8.wrap (IntKind.u16.wrap ((x : Int) / 256))).tmod 4)
theorem keyV_eq (x : Nat) (hx : x < 65536) : keyV x = ((97 + x / 256 % 4 : Nat) : Int) := by
  have h1 : IntKind.u16.wrap ((x : Int) / 256) = (x : Int) / 256 := by simp [IntKind.wrap, IntKind.bits, IntKind.signed]; omega
  have h2 : IntKind.u8.wrap ((x : Int) / 256) = (x : Int) / 256 := by simp [IntKind.wrap, IntKind.bits, IntKind.signed]; omega
  have h3 : ((x : Int) / 256).tmod 4 = (x : Int) / 256 % 4 := Int.tmod_eq_emod_of_nonneg (by omega)
  unfold keyV
  rw [h1, h2, h3]
  simp [IntKind.wrap, IntKind.bits, IntKind.signed]
  omega
theorem key_run12 (W : World) (x : Nat) (hx : x < 65536) : (convert 29 9 (.slice (some ⟨W.heap.size, 0, none⟩) 1 1)).run Tryz.prog (W.alloc (.cells #[.int .u8 (keyV x)] 5)).drew = .ok (.string ⟨#[UInt8.ofNat (97 + x / 256 % 4)]⟩) (W.alloc (.cells #[.int .u8 (keyV x)] 5)).drew := by
  have h : Sees (W.alloc (.cells #[.int .u8 (keyV x)] 5)) (some ⟨W.heap.size, 0, none⟩) 1 [UInt8.ofNat (97 + x / 256 % 4)] := by
    refine sees_new W _ _ 1 _ rfl fun j u hu => ?_
    match j, hu with
    | 0, hu =>
      rw [List.getElem?_cons_zero] at hu
      injection hu with hu
      subst hu
      have h2 : (UInt8.ofNat (97 + x / 256 % 4)).toNat = 97 + x / 256 % 4 := by rw [UInt8.toNat_ofNat']; omega
      show some (Value.int IntKind.u8 (keyV x)) = some (Value.int IntKind.u8 ((UInt8.ofNat (97 + x / 256 % 4)).toNat : Int))
      rw [h2, keyV_eq x hx]
  exact (h.below (Below.refl _ _).drew).string 1 Tryz.underlying29 Tryz.underlying5 Tryz.underlying9
theorem key_run13 (W : World) (x : Nat) (hx : x < 65536) (o : Obj) : (convert 29 9 (.slice (some ⟨W.heap.size, 0, none⟩) 1 1)).run Tryz.prog ((W.alloc (.cells #[.int .u8 (keyV x)] 5)).alloc o).drew = .ok (.string ⟨#[UInt8.ofNat (97 + x / 256 % 4)]⟩) ((W.alloc (.cells #[.int .u8 (keyV x)] 5)).alloc o).drew := by
  have h : Sees (W.alloc (.cells #[.int .u8 (keyV x)] 5)) (some ⟨W.heap.size, 0, none⟩) 1 [UInt8.ofNat (97 + x / 256 % 4)] := by
    refine sees_new W _ _ 1 _ rfl fun j u hu => ?_
    match j, hu with
    | 0, hu =>
      rw [List.getElem?_cons_zero] at hu
      injection hu with hu
      subst hu
      have h2 : (UInt8.ofNat (97 + x / 256 % 4)).toNat = 97 + x / 256 % 4 := by rw [UInt8.toNat_ofNat']; omega
      show some (Value.int IntKind.u8 (keyV x)) = some (Value.int IntKind.u8 ((UInt8.ofNat (97 + x / 256 % 4)).toNat : Int))
      rw [h2, keyV_eq x hx]
  exact (h.below (((Below.refl _ _).alloc (Nat.le_refl _) o).drew)).string 1 Tryz.underlying29 Tryz.underlying5 Tryz.underlying9
theorem kindV_eq (x : Nat) (hx : x < 65536) : ∃ kd : Nat, 1 ≤ kd ∧ kd ≤ 4 ∧ IntKind.u8.wrap (1 + (IntKind.u8.wrap (IntKind.u16.wrap ((x : Int) / 64))).tmod 4) = (kd : Int) := by
  have h1 : IntKind.u16.wrap ((x : Int) / 64) = (x : Int) / 64 := by simp [IntKind.wrap, IntKind.bits, IntKind.signed]; omega
  have h2 : IntKind.u8.wrap ((x : Int) / 64) = (x : Int) / 64 % 256 := by simp [IntKind.wrap, IntKind.bits, IntKind.signed]
  have h3 : ((x : Int) / 64 % 256).tmod 4 = (x : Int) / 64 % 256 % 4 := Int.tmod_eq_emod_of_nonneg (by omega)
  refine ⟨1 + x / 64 % 256 % 4, by omega, by omega, ?_⟩
  rw [h1, h2, h3]
  simp [IntKind.wrap, IntKind.bits, IntKind.signed]
  omega
theorem seqV_eq (s : Nat) (hs : s ≤ 60) : IntKind.u64.wrap (IntKind.u64.wrap (s : Int) + 1) = ((s + 1 : Nat) : Int) := by
  rw [IntKind.wrap_u64, IntKind.wrap_u64]; omega
theorem quo4_some : ∀ i : Fin 60, (floatBits .quo .f64 (floatOfInt .f64 ((i.val : Nat) : Int)) 4616189618054758400).any (fun q => decide (q < 18446744073709551616)) = true := by decide +kernel
theorem quo4_run (i : Nat) (hi : i < 60) : ∃ q : Nat, q < 18446744073709551616 ∧ ∀ t W, (binOp .quo t (.float .f64 (floatOfInt .f64 (i : Int))) (.float .f64 4616189618054758400)).run Tryz.prog W = .ok (.float .f64 q) W := by
  obtain ⟨q, hq, hq2⟩ := (Option.any_eq_true _ _).1 (quo4_some ⟨i, hi⟩)
  exact ⟨q, of_decide_eq_true hq2, fun t W => run_float_arith W .quo t .f64 _ _ _ hq⟩
theorem TextBox.below {B : Nat} {w w' : World} {e : EvS} (h : TextBox B w e) (hb : Below w.heap.size w w') : TextBox B w' e := by
  rcases h with hz | ⟨tb, u, q1, q2, q3, q4, q5, q6⟩
  · exact .inl hz
  · exact .inr ⟨tb, u, q1, q2, q3, q4, (hb.block tb (Array.getElem?_eq_some_iff.1 q5).1).trans q5, q6⟩
end Go.Proofs.YtmogoopkjkdkgaaGreat.Ord
namespace Go.Proofs.YtmogoopkjkdkgaaGreat.Ord
open Go Go.RowKit Go.Proofs.YtmogoopkjkdkgaaGreat.Words Go.Proofs.YtmogoopkjkdkgaaGreat.Enc Go.Proofs.YtmogoopkjkdkgaaGreat.Evt Go.Proofs.YtmogoopkjkdkgaaGreat.Seg
set_option linter.unusedVariables false
set_option linter.unusedSimpArgs false

theorem own_block_of {w : World} {base : Nat} {e : TypeId} {A : Option Addr} {n c : Nat} {xs : List Value} (h : w.ownsRow base e 8 (.slice A n c) n xs) {a : Addr} (ha : A = some a) : base ≤ a.block ∧ a.off = 0 ∧ a.spot = none ∧ ∃ cur, w.heap[a.block]? = some (.cells cur e (0, 0)) := by
  rcases h.2 with ⟨hv, _⟩ | ⟨g, cap, cur, hv, hg, hh, r⟩
  · rw [ha] at hv; cases hv
  · rw [ha] at hv
    injection hv with e1
    injection e1 with e1
    exact ⟨by rw [e1]; exact hg, by rw [e1], by rw [e1], cur, by rw [e1]; exact hh⟩
theorem flat_set_len {L : List HV} {k : Nat} {x y : HV} (h : L[k]? = some x) (hy : y.S.length = x.S.length + 1) : (flat (L.set k y)).length = (flat L).length + 1 := by
  induction L generalizing k with
  | nil => simp at h
  | cons a t ih =>
    cases k with
    | zero =>
      simp at h; subst h
      unfold flat
      simp only [List.set_cons_zero, List.flatMap_cons, List.length_append]
      omega
    | succ k =>
      have := ih (k := k) (by simpa using h)
      unfold flat at *
      simp only [List.set_cons_succ, List.flatMap_cons, List.length_append]
      omega
set_option maxHeartbeats 1000000 in
theorem FeedsAt.put {B0 ob lb wn i m k t : Nat} {w0 W1 W W2 : World} {L : List HV} {T : List Nat} {x : HV} (h : FeedsAt B0 ob lb wn w0 i m L T W1) (hol : ob ≠ lb) (hx : L[k]? = some x) (hT : T[k]? = some t) (e : EvS) (hW : Below W1.heap.size W1 W) (htx : TextBox B0 W e)
    (he : e.e.writer = k ∧ e.e.time = t ∧ 1 ≤ t ∧ e.e.seq = x.S.length + 1 ∧ x.S.length + 1 ≤ 60 ∧ 1 ≤ e.e.kind ∧ e.e.kind ≤ 4 ∧ e.e.key.size = 1 ∧ (e.e.kind ≠ 1 → e.e.text = []) ∧ e.e.node = 0 ∧ e.e.num < 18446744073709551616) (hlt : ∀ e' ∈ x.S, e'.e.time < t) {g' cap' : Nat}
    (hown : W2.ownsRow B0 32 8 (.slice (some ⟨g', 0, none⟩) (x.S.length + 1) cap') (x.S.length + 1) (rowsL x.S ++ e.cells)) (hg : W.grownBy W2 (Value.slice x.A x.S.length x.c).ownBlock) (hat : (Value.slice x.A x.S.length x.c).ownBlock = some g' ∨ W1.heap.size ≤ g') :
    W2.heap[ob]? = some (.cells (L.map HV.val).toArray 24 (0, 0)) ∧
    FeedsAt B0 ob lb wn w0 (i + 1) m (L.set k ⟨some ⟨g', 0, none⟩, cap', x.S ++ [e]⟩) T (W2.setCell ⟨ob, k, none⟩ (.slice (some ⟨g', 0, none⟩) (x.S.length + 1) cap')) := by
  have hxm : x ∈ L := List.mem_of_getElem? hx
  have hkl : k < L.length := (List.getElem?_eq_some_iff.1 hx).1
  have hobl : ob < W1.heap.size := (Array.getElem?_eq_some_iff.1 h.out).1
  have hlbl : lb < W1.heap.size := (Array.getElem?_eq_some_iff.1 h.last).1
  have hBW1 : B0 ≤ W1.heap.size := by have := h.new.1; omega
  -- the row's block, if there is one, holds events
  have hrow : ∀ b, (Value.slice x.A x.S.length x.c).ownBlock = some b → b < W1.heap.size ∧ B0 ≤ b ∧ b ≠ ob ∧ b ≠ lb ∧ ∃ cur, W1.heap[b]? = some (.cells cur 32 (0, 0)) := fun b hb => by
    cases hA : x.A with
    | none => rw [hA] at hb; simp [Value.ownBlock] at hb
    | some a =>
      rw [hA] at hb
      simp [Value.ownBlock] at hb
      subst hb
      obtain ⟨hb0, _, _, cur, hc⟩ := own_block_of (h.own x hxm) hA
      have hf := h.far hxm hA
      exact ⟨(Array.getElem?_eq_some_iff.1 hc).1, hb0, hf.2, hf.1, cur, hc⟩
  have hrn : ∀ b, b < W1.heap.size → (∀ a, x.A = some a → a.block ≠ b) → W2.heap[b]? = W1.heap[b]? := fun b hb hn => by
    refine (hg.block b (by have := hW.size; omega) (fun e => ?_)).trans (hW.block b hb)
    cases hA : x.A with
    | none => rw [hA] at e; simp [Value.ownBlock] at e
    | some a => rw [hA] at e; simp [Value.ownBlock] at e; exact hn a hA e.symm
  have hout2 : W2.heap[ob]? = some (.cells (L.map HV.val).toArray 24 (0, 0)) := (hrn ob hobl fun a ha => (h.far hxm ha).2).trans h.out
  have hlast2 : W2.heap[lb]? = some (.cells (u64s T).toArray 28 (0, 0)) := (hrn lb hlbl fun a ha => (h.far hxm ha).1).trans h.last
  have hgo : g' ≠ ob ∧ g' ≠ lb ∧ B0 ≤ g' := by
    rcases hat with hh | hh
    · obtain ⟨_, q1, q2, q3, _⟩ := hrow g' hh; exact ⟨q2, q3, q1⟩
    · exact ⟨by omega, by omega, by omega⟩
  have hB2 : Below B0 W1 W2 := (hW.mono hBW1).trans ((Below.refl B0 W).grown hg (by have := hW.size; omega) (fun b hb => (hrow b hb).2.1))
  refine ⟨hout2, ?_⟩
  have hset : ∀ (j : Nat) (y : HV), (L.set k ⟨some ⟨g', 0, none⟩, cap', x.S ++ [e]⟩)[j]? = some y → (j = k ∧ y = ⟨some ⟨g', 0, none⟩, cap', x.S ++ [e]⟩) ∨ (j ≠ k ∧ L[j]? = some y) := fun j y hy => by
    by_cases hj : j = k
    · subst hj; rw [List.getElem?_set_self hkl] at hy; cases hy; exact .inl ⟨rfl, rfl⟩
    · rw [List.getElem?_set_ne (Ne.symm hj)] at hy; exact .inr ⟨hj, hy⟩
  have hother : ∀ (j : Nat) (y : HV), j ≠ k → L[j]? = some y → ∀ a, y.A = some a → a.block ≠ g' ∧ W2.heap[a.block]? = W1.heap[a.block]? := fun j y hj hy a ha => by
    obtain ⟨hb0, _, _, cur, hc⟩ := own_block_of (h.own y (List.mem_of_getElem? hy)) ha
    have hlt2 := (Array.getElem?_eq_some_iff.1 hc).1
    refine ⟨fun e2 => ?_, hrn _ hlt2 fun a2 ha2 => h.apart k j x y a2 a hx hy ha2 ha (Ne.symm hj)⟩
    rcases hat with hh | hh
    · cases hA : x.A with
      | none => rw [hA] at hh; simp [Value.ownBlock] at hh
      | some a2 =>
        rw [hA] at hh; simp [Value.ownBlock] at hh
        exact h.apart k j x y a2 a hx hy hA ha (Ne.symm hj) (by rw [hh, e2])
    · omega
  have htext : ∀ e', (TextBox B0 W1 e' ∨ TextBox B0 W e') → TextBox B0 (W2.setCell ⟨ob, k, none⟩ (.slice (some ⟨g', 0, none⟩) (x.S.length + 1) cap')) e' := fun e' h1 => by
    have h2 : TextBox B0 W e' := by
      rcases h1 with h1 | h1
      · rcases h1 with hz | ⟨tb, u, q1, q2, q3, q4, q5, q6⟩
        · exact .inl hz
        · exact .inr ⟨tb, u, q1, q2, q3, q4, (hW.block tb (Array.getElem?_eq_some_iff.1 q5).1).trans q5, q6⟩
      · exact h1
    rcases h2 with hz | ⟨tb, u, q1, q2, q3, q4, q5, q6⟩
    · exact .inl hz
    · have htl := (Array.getElem?_eq_some_iff.1 q5).1
      have n1 : ¬ some tb = (Value.slice x.A x.S.length x.c).ownBlock := fun e2 => by
        obtain ⟨r1, _, _, _, cur, r2⟩ := hrow tb e2.symm
        rw [hW.block tb r1, r2] at q5
        injection q5 with q5; injection q5 with _ q5
        exact absurd q5 (by decide)
      have n2 : tb ≠ ob := fun e2 => by
        subst e2
        rw [hW.block tb hobl, h.out] at q5
        injection q5 with q5; injection q5 with _ q5
        exact absurd q5 (by decide)
      exact .inr ⟨tb, u, q1, q2, q3, q4, (heapOther n2).trans ((hg.block tb htl n1).trans q5), q6⟩
  refine ⟨?_, (heapOther (Ne.symm hol)).trans hlast2, by simpa using h.lenL, h.lenT, fun y hy => ?_, fun j1 j2 y1 y2 a1 a2 hy1 hy2 ha1 ha2 hj => ?_, fun y hy e' he' => ?_, fun j tj y hy htj => ?_, ?_, h.time, (h.below.trans hB2).setCell (p := ⟨ob, k, none⟩) h.new.1 _, h.new⟩
  · rw [heapSame hout2]
    congr 2
    apply Array.ext'
    simp [List.map_set, HV.val]
  · obtain ⟨j, hjl, rfl⟩ := List.getElem_of_mem hy
    rcases hset j _ (List.getElem?_eq_getElem hjl) with ⟨_, e2⟩ | ⟨hj, hyj⟩
    · rw [e2]
      simp only [List.length_append, List.length_cons, List.length_nil, Nat.zero_add]
      have e3 : rowsL (x.S ++ [e]) = rowsL x.S ++ e.cells := by rw [rowsL_append]; simp [rowsL]
      rw [e3]
      refine ⟨hown.1, ?_⟩
      rcases hown.2 with ⟨hv, _⟩ | ⟨g, cap, cur, hv, hbg, hh, r⟩
      · cases hv
      · have : g = g' := by injection hv with e1; injection e1 with e1; injection e1 with e1; exact e1.symm
        subst this
        exact .inr ⟨g, cap, cur, hv, hbg, (heapOther hgo.1).trans hh, r⟩
    · have ho := h.own _ (List.mem_of_getElem? hyj)
      refine ⟨ho.1, ?_⟩
      rcases ho.2 with hn | ⟨g, cap, cur, hv, hbg, hh, r⟩
      · exact .inl hn
      · have hA : (L.set k ⟨some ⟨g', 0, none⟩, cap', x.S ++ [e]⟩)[j].A = some ⟨g, 0, none⟩ := by injection hv
        have q := hother j _ hj hyj _ hA
        exact .inr ⟨g, cap, cur, hv, hbg, (heapOther (h.far (List.mem_of_getElem? hyj) hA).2).trans (q.2.trans hh), r⟩
  · rcases hset j1 _ hy1 with ⟨e1, rfl⟩ | ⟨hj1, hy1'⟩
    · rcases hset j2 _ hy2 with ⟨e2, rfl⟩ | ⟨hj2, hy2'⟩
      · exact absurd (e1.trans e2.symm) hj
      · simp at ha1; subst ha1
        exact Ne.symm (hother j2 _ hj2 hy2' _ ha2).1
    · rcases hset j2 _ hy2 with ⟨e2, rfl⟩ | ⟨hj2, hy2'⟩
      · simp at ha2; subst ha2
        exact (hother j1 _ hj1 hy1' _ ha1).1
      · exact h.apart j1 j2 y1 y2 a1 a2 hy1' hy2' ha1 ha2 hj
  · obtain ⟨j, hjl, rfl⟩ := List.getElem_of_mem hy
    rcases hset j _ (List.getElem?_eq_getElem hjl) with ⟨_, e2⟩ | ⟨hj, hyj⟩
    · rw [e2] at he'
      rcases List.mem_append.1 he' with he' | he'
      · exact htext _ (.inl (h.text x hxm e' he'))
      · rw [List.mem_singleton.1 he']; exact htext _ (.inr htx)
    · exact htext _ (.inl (h.text _ (List.mem_of_getElem? hyj) e' he'))
  · rcases hset j _ hy with ⟨e1, rfl⟩ | ⟨hj, hyj⟩
    · subst e1
      rw [hT] at htj; cases htj
      have hg1 := h.good j t x hx hT
      refine ⟨fun e' he' => ?_, ?_, fun j' e' hj' => ?_⟩
      · rcases List.mem_append.1 he' with he' | he'
        · exact hg1.each e' he'
        · rw [List.mem_singleton.1 he']
          obtain ⟨r1, r2, r3, r4, r5, r6, r7, r8, r9, r10⟩ := he
          exact ⟨r1, by omega, by omega, by omega, by omega, r6, r7, r8, r9, r10⟩
      · refine List.pairwise_append.2 ⟨hg1.rise, List.pairwise_singleton _ _, fun a ha b hb => ?_⟩
        rw [List.mem_singleton.1 hb, he.2.1]
        exact hlt a ha
      · by_cases h6 : j' < x.S.length
        · rw [List.getElem?_append_left h6] at hj'; exact hg1.seq j' e' hj'
        · rw [List.getElem?_append_right (by omega)] at hj'
          have h7 : j' - x.S.length = 0 := by
            cases h8 : j' - x.S.length with
            | zero => rfl
            | succ n => rw [h8] at hj'; simp at hj'
          rw [h7] at hj'
          simp at hj'
          subst hj'
          rw [he.2.2.2.1]; omega
    · exact h.good j tj y hyj htj
  · rw [flat_set_len hx (by simp), h.few]
end Go.Proofs.YtmogoopkjkdkgaaGreat.Ord
