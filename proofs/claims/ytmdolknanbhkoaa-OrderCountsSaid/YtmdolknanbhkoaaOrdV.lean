/- Order: Upto. -/
import Derived.Test.YtmdolknanbhkoaaOrdU
import Derived.Test.YtmdolknanbhkoaaOrdR
namespace Go.Proofs.Ytmdolknanbhkoaa.Ord
open Go Go.RowKit Go.Proofs.Ytmdolknanbhkoaa.Words Go.Proofs.Ytmdolknanbhkoaa.Enc Go.Proofs.Ytmdolknanbhkoaa.Evt Go.Proofs.Ytmdolknanbhkoaa.Seg
set_option linter.unusedVariables false
set_option linter.unusedSimpArgs false

def isL (C : List Nat) : List Value := C.map fun (n : Nat) => Value.int .i64 (n : Int)
theorem infoInt : (Try.prog.info? 3).map (fun i => (i.zero, i.size, i.bytes)) = some (some (.int .i64 0), 1, 8) := by kernel_rfl
theorem make_is (W : World) (kk : Nat) (hk : kk ≤ 1000000) : (Instr.makeSlice 50 (.int .i64 (kk : Int)) (.int .i64 (kk : Int))).run Try.prog W = .ok (.slice (some ⟨W.heap.size, 0, none⟩) kk kk) (W.alloc (.cells (isL (List.replicate kk 0)).toArray 3)) := by
  obtain ⟨i, hi, hz, hsz, hby⟩ := info_parts infoInt
  have := run_make (P := Try.prog) W 50 3 i (.int .i64 0) Try.underlying50 hi hz .i64 .i64 (kk : Int) (kk : Int) (by omega) (Int.le_refl _) (by rw [hby]; omega) (by omega)
  rw [this, hsz]
  simp only [Int.toNat_natCast, Nat.mul_one]
  congr 4
  apply Array.ext'
  rw [show (Value.int .i64 0).cells = #[Value.int .i64 0] from rfl, toList_madeCells_one]
  simp [isL]
/-- How many events of a list have a time of at most tm. -/
def cntOf (tm : Nat) (S : List EvS) : Nat := misses (fun i => decide (tm < (evAt S i).e.time)) S.length
theorem rises_time {S : List EvS} (h : Rises S) : ∀ a b, a ≤ b → b < S.length → (evAt S a).e.time ≤ (evAt S b).e.time := by
  intro a b hab hb
  rcases Nat.lt_or_eq_of_le hab with hlt | rfl
  · have := List.pairwise_iff_getElem.1 h a b (by omega) hb hlt
    have ea : evAt S a = S[a] := by have := evAt_get (S := S) (k := a) (by omega); rw [List.getElem?_eq_getElem (by omega)] at this; exact (Option.some.inj this).symm
    have eb : evAt S b = S[b] := by have := evAt_get (S := S) (k := b) hb; rw [List.getElem?_eq_getElem hb] at this; exact (Option.some.inj this).symm
    rw [ea, eb]
    unfold evLe at this
    omega
  · exact Nat.le_refl _
/-- Of the first k lists the counts stand in the row at g. -/
structure CountsAt (g n k tm : Nat) (L : List HV) (W : World) : Prop where
  ex : ∃ C : List Nat, W.heap[g]? = some (.cells (isL C).toArray 3 (0, 0)) ∧ C.length = n ∧ ∀ (j : Nat) (x : HV), j < k → L[j]? = some x → C[j]? = some (cntOf tm x.S)
theorem CountsAt.keep {g n k tm : Nat} {L : List HV} {W W' : World} (h : CountsAt g n k tm L W) (hb : W'.heap[g]? = W.heap[g]?) : CountsAt g n k tm L W' := by
  obtain ⟨C, h1, h2⟩ := h.ex
  exact ⟨C, hb.trans h1, h2⟩
theorem CountsAt.put {g n k tm : Nat} {L : List HV} {W : World} (h : CountsAt g n k tm L W) {x : HV} (hx : L[k]? = some x) (hk : k < n) : CountsAt g n (k + 1) tm L (W.setCell ⟨g, k, none⟩ (.int .i64 (cntOf tm x.S : Int))) := by
  obtain ⟨C, h1, h2, h3⟩ := h.ex
  refine ⟨C.set k (cntOf tm x.S), ?_, by simpa using h2, fun j y hj hy => ?_⟩
  · rw [heapSame h1]
    congr 2
    apply Array.ext'
    simp [isL, List.map_set]
  · by_cases hjk : j = k
    · subst hjk
      rw [hx] at hy; cases hy
      rw [List.getElem?_set_self (by omega)]
    · rw [List.getElem?_set_ne (Ne.symm hjk)]
      exact h3 j y (by omega) hy

set_option maxRecDepth 100000 in
set_option maxHeartbeats 8000000 in
theorem counts_any (Al : Option Addr) (cl : Nat) (L : List HV) (tm : Nat) (w : World) (h : Lists w.heap.size w Al L) (hr : ∀ x ∈ L, Rises x.S) (hf : ∀ x ∈ L, x.S.length ≤ 1000000) (hn : L.length ≤ 1000000) :
    Calls Try.prog 21 #[.slice Al L.length cl, .int .u64 (tm : Int)] w fun e w' => e = .returned (.slice (some ⟨w.heap.size + 1, 0, none⟩) L.length L.length) ∧ CountsAt (w.heap.size + 1) L.length L.length tm L w' ∧ Below w.heap.size w w' := by
  obtain ⟨n, hn'⟩ : ∃ n, n = L.length := ⟨_, rfl⟩
  rw [← hn'] at hn ⊢
  have eg : ∀ args w, (callFunc 35 args).run Try.prog w = .ok (.enter 35 args) w := enters_of Try.func35 (by kernel_rfl) rfl
  obtain ⟨u0, hu0⟩ : ∃ u, u = w.alloc (.cells #[.int .u64 (tm : Int)] 30) := ⟨_, rfl⟩
  have g0 : u0.heap[w.heap.size]? = some (.cells #[.int .u64 (tm : Int)] 30 (0, 0)) := by rw [hu0]; exact heap_alloc_new w _
  have b0 : Below w.heap.size w u0 := by rw [hu0]; exact (Below.refl _ _).alloc (Nat.le_refl _) _
  have z0 : u0.heap.size = w.heap.size + 1 := by rw [hu0]; simp
  have MK := make_is u0 n hn
  rw [z0] at MK
  obtain ⟨u, hu⟩ : ∃ u, u = u0.alloc (.cells (isL (List.replicate n 0)).toArray 3) := ⟨_, rfl⟩
  have g1 : u.heap[w.heap.size]? = some (.cells #[.int .u64 (tm : Int)] 30 (0, 0)) := by rw [hu]; exact (Below.heap_alloc _ _ _ (by omega)).trans g0
  have g2 : u.heap[w.heap.size + 1]? = some (.cells (isL (List.replicate n 0)).toArray 3 (0, 0)) := by rw [hu, ← z0]; exact heap_alloc_new u0 _
  have b1 : Below w.heap.size w u := by rw [hu]; exact b0.alloc b0.size _
  rw [← hu] at MK
  have H0 := Lib.hid (And.intro b1 (And.intro g1 (CountsAt.mk (g := w.heap.size + 1) (n := n) (k := 0) (tm := tm) (L := L) (W := u) ⟨_, g2, by simp, fun j x hj _ => absurd hj (Nat.not_lt_zero _)⟩)))
  have HU0 := Lib.hid hu0
  have HL := Lib.hid (And.intro h (And.intro hr (And.intro hf hn')))
  clear b0 b1 g0 g1 g2 z0 hu hu0 h hr hf hn'
  go_enter Try.func21, Try.ntmps21
  go_upto_region 1 with fail
  rw [← HU0.out]
  go_wp2_with fail
  go_loopw [13] (fun iv W => ∃ k : Nat, iv = .int .i64 (k : Int) ∧ k ≤ n ∧ Hid (Below w.heap.size w W ∧ W.heap[w.heap.size]? = some (.cells #[.int .u64 (tm : Int)] 30 (0, 0)) ∧ CountsAt (w.heap.size + 1) n k tm L W)) (fun iv _ => n - (intOf iv).toNat)
  case atStart => exact ⟨0, rfl, Nat.zero_le _, H0⟩
  case round =>
    obtain ⟨k, rfl, hk, HR⟩ := hrel
    by_cases hlt : k < n
    · obtain ⟨hLs, hri, hfe, hnL⟩ := HL.out
      have hkL : k < L.length := by omega
      obtain ⟨x, hx⟩ : ∃ x, L[k]? = some x := ⟨_, List.getElem?_eq_getElem hkL⟩
      have hxm := List.mem_of_getElem? hx
      have hLw := hLs.below HR.out.1
      obtain ⟨lb, lo, hlb, rfl, hcell⟩ := hLw.row (by omega)
      have hxc := hcell k x hx
      have hlie := hLw.lie x hxm
      have hrow : wr.heap.size ≤ wr.heap.size := Nat.le_refl _
      have hg2 : w.heap.size + 1 < wr.heap.size := by
        obtain ⟨C, q, _⟩ := HR.out.2.2.ex
        exact (Array.getElem?_eq_some_iff.1 q).1
      -- the box of the list
      obtain ⟨u5, hu5⟩ : ∃ u, u = wr.alloc (.cells #[x.val] 26) := ⟨_, rfl⟩
      have b5 : Below wr.heap.size wr u5 := by rw [hu5]; exact (Below.refl _ _).alloc (Nat.le_refl _) _
      have g5 : u5.heap[wr.heap.size]? = some (.cells #[x.val] 26 (0, 0)) := by rw [hu5]; exact heap_alloc_new wr _
      have t5 := (b5.block w.heap.size (by omega)).trans HR.out.2.1
      have SE : Calls Try.prog 34 #[.int .i64 (x.S.length : Int), .func (.func 35) #[] #[.pointer (some ⟨wr.heap.size, 0, none⟩), .pointer (some ⟨w.heap.size, 0, none⟩)]] u5 fun e w' => e = .returned (.int .i64 (cntOf tm x.S : Int)) ∧ Below u5.heap.size u5 w' := by
        refine search_any _ _ x.S.length (fun i => decide (tm < (evAt x.S i).e.time)) u5 eg (Nat.le_trans (hfe x hxm) (by omega)) (fun W i hW hi => ?_) (fun a b hab hb ha => ?_)
        · obtain ⟨b, o, _, hA, hc⟩ := hlie.2 (by omega)
          have c1 : W.cell? ⟨wr.heap.size, 0, none⟩ = some (.slice (some ⟨b, o, none⟩) x.S.length x.c) := by
            rw [cell_of_row W _ 0 _ _ _ ((hW.block _ (Array.getElem?_eq_some_iff.1 g5).1).trans g5), ← hA]; rfl
          have c2 : W.cell? ⟨w.heap.size, 0, none⟩ = some (.int .u64 (tm : Int)) := by
            rw [cell_of_row W _ 0 _ _ _ ((hW.block _ (Array.getElem?_eq_some_iff.1 t5).1).trans t5)]; rfl
          have c3 := (RawEv.cells_at (w := wr) hc hi).2.2.1
          have c4 : W.cell? ⟨b, o + i * 8 + 2, none⟩ = some (.int .u64 ((evAt x.S i).e.time : Int)) := by
            rw [((b5.trans (hW.mono b5.size)).cell (World.block_lt_of_cell? _ _ c3))]; exact c3
          exact later_any wr.heap.size w.heap.size b o x.S.length x.c i (evAt x.S i).e.time tm W hi (Nat.le_trans (hfe x hxm) (by omega)) c1 c2 c4
        · have := rises_time (hri x hxm) a b hab hb
          have ha := of_decide_eq_true ha
          exact decide_eq_true (by omega)
      have FI : ∀ W6, Below u5.heap.size u5 W6 → (W6.cell? ⟨w.heap.size + 1, k, none⟩).isSome = true ∧ W6.frozen? ⟨w.heap.size + 1, k, none⟩ = false ∧ Hid (Below w.heap.size w (W6.setCell ⟨w.heap.size + 1, k, none⟩ (.int .i64 (cntOf tm x.S : Int))) ∧ (W6.setCell ⟨w.heap.size + 1, k, none⟩ (.int .i64 (cntOf tm x.S : Int))).heap[w.heap.size]? = some (.cells #[.int .u64 (tm : Int)] 30 (0, 0)) ∧ CountsAt (w.heap.size + 1) n (k + 1) tm L (W6.setCell ⟨w.heap.size + 1, k, none⟩ (.int .i64 (cntOf tm x.S : Int)))) := fun W6 h6 => by
        have hb6 := b5.trans (h6.mono b5.size)
        have hc6 := HR.out.2.2.keep (hb6.block _ hg2)
        obtain ⟨C, q1, q2, _⟩ := hc6.ex
        refine ⟨?_, frozen_row0 q1, Lib.hid ⟨(HR.out.1.trans (hb6.mono HR.out.1.size)).setCell (p := ⟨w.heap.size + 1, k, none⟩) (by simp) _, (heapOther (by omega)).trans ((hb6.block _ (by omega)).trans HR.out.2.1), hc6.put hx hlt⟩⟩
        rw [cell_of_row W6 _ k _ _ _ q1, Array.getElem?_eq_getElem (by simp [isL]; omega)]
        rfl
      obtain ⟨xa, xn, xc, hxv⟩ : ∃ xa xn xc, x.val = .slice xa xn xc := ⟨_, _, _, rfl⟩
      have hxn : xn = x.S.length := by unfold HV.val at hxv; injection hxv with _ h2 _; exact h2.symm
      rw [hxv] at hxc hu5 g5
      rw [← hxn] at SE
      generalize cntOf tm x.S = ct at SE FI
      have zk : (k : Int) < (n : Int) := by omega
      have zk0 : (0 : Int) ≤ (k : Int) := by omega
      have c5 : u5.cell? ⟨wr.heap.size, 0, none⟩ = some (.slice xa xn xc) := by rw [cell_of_row u5 _ 0 _ _ _ g5]; rfl
      have HSE := Lib.hid SE
      have HFI := Lib.hid FI
      have HU5 := Lib.hid hu5
      clear SE FI hu5 g5 t5 b5 hrow hlie hcell hLw hxm hx hLs hri hfe hnL hxn hxv hkL
      go_upto_region 5 with fail
      rw [← HU5.out]
      go_wp2_with fail
      refine HSE.out.mono ?_
      rintro e w6 ⟨rfl, hb6⟩
      obtain ⟨hs6, hf6, HF⟩ := HFI.out w6 hb6
      obtain ⟨V, hV⟩ := Option.isSome_iff_exists.1 hs6
      clear hb6 hs6 HFI HSE
      go_wp2
      go_roundw
      case rel => exact ⟨k + 1, rfl, by omega, HF⟩
      case measure => simp [intOf]; omega
    · have hkn : k = n := by omega
      subst hkn
      go_wp2
      go_ret
      exact ⟨rfl, HR.out.2.2, HR.out.1⟩
end Go.Proofs.Ytmdolknanbhkoaa.Ord
