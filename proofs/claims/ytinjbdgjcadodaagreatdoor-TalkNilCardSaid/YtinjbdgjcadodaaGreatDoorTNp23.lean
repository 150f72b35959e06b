/- Package vector: Read, of any tape. -/
import Derived.Test.YtinjbdgjcadodaaGreatDoorTNp18
namespace Go.Proofs.YtinjbdgjcadodaaGreatDoor.Vec
open Go Go.RowKit Go.Proofs.YtinjbdgjcadodaaGreatDoor.Words Go.Proofs.YtinjbdgjcadodaaGreatDoor.Enc Go.Proofs.YtinjbdgjcadodaaGreatDoor.Made Go.Proofs.YtinjbdgjcadodaaGreatDoor.Tape
set_option linter.unusedVariables false
set_option linter.unusedSimpArgs false

theorem own_beside {w w' : World} {S : List Nat} {base : Nat} {e : TypeId} {v : Value} {n : Nat} {xs : List Value} (h : w.ownsRow base e 1 v n xs) (hb : Beside S w w') (hS : ∀ x ∈ S, x < base) : w'.ownsRow base e 1 v n xs := by
  refine ⟨h.1, ?_⟩
  rcases h.2 with hn | ⟨g, cap, cur, hv, hg, hh, r⟩
  · exact .inl hn
  · exact .inr ⟨g, cap, cur, hv, hg, by rw [hb.block g (Array.getElem?_eq_some_iff.1 hh).1 (fun hx => by have := hS g hx; omega)]; exact hh, r⟩
theorem set_next (xs : List Nat) (k x : Nat) : (us (xs ++ List.replicate (k + 1) 0)).set xs.length (.int .u64 (x : Int)) = us ((xs ++ [x]) ++ List.replicate k 0) := by
  rw [List.replicate_succ]
  simp [us]

theorem make_u64 (W : World) (kk : Nat) (hk : kk ≤ 3000000) : (Instr.makeSlice 24 (.int .u64 (kk : Int)) (.int .u64 (kk : Int))).run Tryz.prog W = .ok (.slice (some ⟨W.heap.size, 0, none⟩) kk kk) (W.alloc (.cells (uRow kk) 22)) := by
  have hi := info64
  cases hc : Tryz.prog.info? 22 with
  | none => rw [hc] at hi; cases hi
  | some i =>
    rw [hc] at hi
    simp only [Option.map_some, Option.some.injEq, Prod.mk.injEq] at hi
    obtain ⟨hz, hsz, hby⟩ := hi
    have := run_make (P := Tryz.prog) W 24 22 i (.int .u64 0) Tryz.underlying24 hc hz .u64 .u64 (kk : Int) (kk : Int) (by omega) (Int.le_refl _) (by rw [hby]; omega) (by omega)
    rw [this, hsz]
    simp only [Int.toNat_natCast, Nat.mul_one]
    rfl
/-- As ReadGives; the numbers lie in a row of their own. -/
def ReadOwns (PA : Option Addr) (PN : Nat) (L : List UInt8) (t : Nat) (g : Got (List Nat)) (w : World) (e : Ending) (w' : World) : Prop :=
  match g with
  | .bad E => e = fault E ∧ Beside [t] w w'
  | .ok v r => ∃ R k rc, e = .returned (.slice R k rc) ∧ w'.ownsRow w.heap.size 22 1 (.slice R k rc) k (us v) ∧ k ≤ rc ∧ rc ≤ 9223372036854775807 ∧ TapeOn PA PN L w' t r ∧ Beside [t] w w'
set_option maxRecDepth 100000 in
set_option maxHeartbeats 2000000 in
theorem read_own (PA : Option Addr) (PN : Nat) (L : List UInt8) (t : Nat) (l : List UInt8) (w : World) (ht : TapeOn PA PN L w t l) (hP : Sees w PA PN L) (hll : l.length ≤ 100000) :
    Calls Tryz.prog 242 #[.pointer (some ⟨t, 0, none⟩)] w (ReadOwns PA PN L t (readG l) w) := by
  have htl := ht.lt
  have hout : Out [t] PA PN := by
    obtain ⟨A', n', c', hb', -⟩ := ht
    exact sees_off hb' hP
  have SEE : Hid (∀ W, Beside [t] w W → Sees W PA PN L) := Lib.hid fun W hb => hP.beside hb hout
  obtain ⟨G, hG⟩ : ∃ G, G = readG l := ⟨_, rfl⟩
  rw [← hG]
  have HG := Lib.hid hG
  clear hG
  go_enter Tryz.func242, Tryz.ntmps242
  cases g1 : numG 64 l with
  | bad E =>
    go_wp2_with fail
    refine (num_bad t 64 E l w (ht.at_ hP) (by omega) g1).mono ?_
    rintro e w1 ⟨rfl, hbb⟩
    have HB := Lib.hid hbb
    have hbad : G = .bad E := by rw [HG.out]; simp only [readG, g1, Got.bind]
    subst hbad
    clear ht hP hbb g1 HG
    unfold fault
    go_wp2
    exact ⟨rfl, rfl, HB.out⟩
  | ok N l1 =>
    have hGN : G = manyG N l1 := by rw [HG.out]; simp only [readG, g1, Got.bind]
    have hN64 : N ≤ 64 := (numG_enc g1).2
    have hl1 : l1.length ≤ l.length := by rw [(numG_enc g1).1]; simp
    have HGN := Lib.hid hGN
    have hmk := fun W => make_u64 W N (by omega)
    go_wp2_with fail
    refine (num_ok t 64 N l l1 w ht hP (by omega) g1).mono ?_
    rintro e w1 ⟨rfl, ht1, be1⟩
    clear ht hP g1 HG hGN
    have hw : IntKind.i64.wrap (N : Int) = (N : Int) := IntWalk.i64_in _ (by omega)
    go_wp2_with fail
    have hbe : Beside [t] w (w1.alloc (.cells (uRow N) 22)) := be1.alloc _
    have hz1 := be1.size
    have own0 : (w1.alloc (.cells (uRow N) 22)).ownsRow w.heap.size 22 1 (.slice (some ⟨w1.heap.size, 0, none⟩) N N) N (us (List.replicate N 0)) := Own.lower (uRow_own w1 N (by omega)) hz1
    have ht2 := ht1.keep (w' := w1.alloc (.cells (uRow N) 22)) (Below.heap_alloc _ _ _ (by have := be1.size; omega))
    generalize w1.alloc (.cells (uRow N) 22) = w2 at hbe own0 ht2 ⊢
    clear ht1 be1 hmk
    generalize w1.heap.size = g at own0 hz1 ⊢
    go_loopw [10] (fun v wr => ∃ (j : Nat) (xs : List Nat) (r : List UInt8), v = .int .i64 (j : Int) ∧ j ≤ N ∧ r.length ≤ l.length ∧ Hid (xs.length = j ∧ G = (manyG (N - j) r).bind fun u q => .ok (xs ++ u) q) ∧
      wr.ownsRow w.heap.size 22 1 (.slice (some ⟨g, 0, none⟩) N N) N (us (xs ++ List.replicate (N - j) 0)) ∧ TapeOn PA PN L wr t r ∧ Beside [t] w wr) (fun v _ => N - (intOf v).toNat)
    case atStart => exact ⟨0, [], l1, rfl, by omega, hl1, ⟨rfl, by rw [HGN.out]; cases manyG N l1 <;> rfl⟩, own0, ht2, hbe⟩
    case round =>
      obtain ⟨j, xs, r, rfl, hj, hr, HX, own, ht, hb⟩ := hrel
      have hPr := SEE.out wr hb
      by_cases hlt : j < N
      · have h1 : (j : Int) < (N : Int) := by omega
        obtain ⟨k, hk⟩ : ∃ k, N - j = k + 1 := ⟨N - j - 1, by omega⟩
        cases gx : numG 9223372036854775807 r with
        | bad E =>
          have hbad : G = .bad E := by rw [HX.out.2, hk]; simp only [manyG, gx, Got.bind]
          have NB := Lib.hid (num_bad t 9223372036854775807 E r wr (ht.at_ hPr) (by omega) gx)
          clear own ht hPr gx HX hk
          go_wp2_with fail
          refine NB.out.mono ?_
          rintro e w3 ⟨rfl, hbb⟩
          have HB := Lib.hid (hb.trans hbb fun x hx => .inl hx)
          subst hbad
          clear hb hbb
          unfold fault
          go_wp2
          exact ⟨rfl, rfl, HB.out⟩
        | ok x r1 =>
          have NB := Lib.hid (num_ok t 9223372036854775807 x r r1 wr ht hPr (by omega) gx)
          have hr1 : r1.length ≤ l.length := by
            have := (numG_enc gx).1
            rw [this, List.length_append] at hr
            omega
          have HX2 : Hid ((xs ++ [x]).length = j + 1 ∧ G = (manyG (N - (j + 1)) r1).bind fun u q => .ok ((xs ++ [x]) ++ u) q) := Lib.hid ⟨by simp [HX.out.1], by
            rw [HX.out.2, hk, show N - (j + 1) = k by omega]
            simp only [manyG, gx, Got.bind]
            cases manyG k r1 with
            | bad E => rfl
            | ok u q => simp [Got.bind]⟩
          have OWN := Lib.hid own
          clear own ht hPr gx
          go_wp2_with fail
          refine NB.out.mono ?_
          rintro e w3 ⟨rfl, ht3, hbb⟩
          have hb3 := hb.trans hbb fun x hx => .inl hx
          have own3 := own_beside OWN.out hbb (by simp; omega)
          have hcell : w3.cell? ⟨g, j, none⟩ = some (.int .u64 (at_ (xs ++ List.replicate (N - j) 0) j : Int)) := by
            rw [own3.cellAt j (by omega), us_get (at_lt (by simp [HX.out.1]; omega))]
          have hfr : w3.frozen? ⟨g, j, none⟩ = false := own3.frozenAt j
          have hst := own3.stored j (.int .u64 (x : Int))
          have hset := set_next xs k x
          rw [HX.out.1] at hset
          rw [hk, hset, show k = N - (j + 1) by omega] at hst
          have hgt : w.heap.size ≤ g := by omega
          have hb4 := hb3.setNew (p := ⟨g, j, none⟩) hgt (.int .u64 (x : Int))
          have ht4 := ht3.keep (heapOther (v := .int .u64 (x : Int)) (i := j) (show t ≠ g by omega))
          have FIN := Lib.hid (And.intro hst.1 (And.intro ht4 hb4))
          generalize at_ (xs ++ List.replicate (N - j) 0) j = u at hcell
          clear hst hset hb4 ht4 own3 hb3 hbb hb ht3 NB HX hk
          go_wp2
          go_roundw
          case rel => exact ⟨j + 1, xs ++ [x], r1, by simp, by omega, hr1, HX2, FIN.out.1, FIN.out.2.1, FIN.out.2.2⟩
          case measure => simp [intOf]; omega
      · obtain rfl : j = N := by omega
        have hG2 : G = .ok xs r := by rw [HX.out.2, Nat.sub_self]; simp [manyG, Got.bind]
        rw [Nat.sub_self, List.replicate_zero, List.append_nil] at own
        have FIN := Lib.hid (And.intro own (And.intro ht hb))
        subst hG2
        clear own ht hb HX
        go_wp2
        go_ret
        exact ⟨_, _, _, rfl, FIN.out.1, Nat.le_refl _, by omega, FIN.out.2.1, FIN.out.2.2⟩
theorem read_any : ReadSaid := fun PA PN L t l w ht hP hll => (read_own PA PN L t l w ht hP hll).mono fun e w' h => by
  cases hg : readG l with
  | bad E => rw [hg] at h; exact h
  | ok v r =>
    rw [hg] at h
    obtain ⟨R, k, rc, h1, h2, h3, h4, h5, h6⟩ := h
    exact ⟨R, k, rc, h1, SeesU.of_own h2, h3, h4, h5, h6⟩
end Go.Proofs.YtinjbdgjcadodaaGreatDoor.Vec
