/- Layer 15: events in the order of all, one after the other: each is taken. Lists and numbers alone. Layer 15: the law's base: the fold of a list's first events. Layer 15: where a view lies, and what its methods answer. Layer 15: By: a view of a fold and of lists of events. Layer 15: the law's events, in the order of all: each is taken. -/
import Derived.Test.YtmogoopkjkdkgaaVRp04
import Derived.Test.YtmogoopkjkdkgaaVRp07
import Derived.Test.YtmogoopkjkdkgaaVRp08
import Derived.Test.YtmogoopkjkdkgaaVRp12
import Derived.Test.YtmogoopkjkdkgaaVRp13
import Derived.Test.YtmogoopkjkdkgaaVRp16
import Derived.Test.YtmogoopkjkdkgaaVRp18
namespace Go.Proofs.Ytmogoopkjkdkgaa.Vw
open Go Go.RowKit Go.Proofs.Ytmogoopkjkdkgaa.Words Go.Proofs.Ytmogoopkjkdkgaa.Enc Go.Proofs.Ytmogoopkjkdkgaa.Q Go.Proofs.Ytmogoopkjkdkgaa.Evt Go.Proofs.Ytmogoopkjkdkgaa.Fol
set_option linter.unusedVariables false
set_option linter.unusedSimpArgs false

/-- Does one event stand ahead of another one? -/
def ahead (a b : Ev) : Prop := a.time < b.time ∨ a.time = b.time ∧ a.writer < b.writer
/-- Is each event taken? -/
def Flows : Fo → List Ev → Prop
  | _, [] => True
  | F, e :: r => applyE F e = 0 ∧ Flows (applyF F e) r
def applyAll (F : Fo) (l : List Ev) : Fo := l.foldl applyF F
theorem applyAll_append (F : Fo) (a b : List Ev) : applyAll F (a ++ b) = applyAll (applyAll F a) b := by unfold applyAll; rw [List.foldl_append]
theorem applyAll_take (F : Fo) (l : List Ev) (j : Nat) {e : Ev} (h : l[j]? = some e) : applyAll F (l.take (j + 1)) = applyF (applyAll F (l.take j)) e := by
  unfold applyAll
  rw [List.take_add_one, h]
  simp
theorem Flows.append : ∀ {F : Fo} {a b : List Ev}, Flows F (a ++ b) → Flows F a ∧ Flows (applyAll F a) b
  | _, [], _, h => ⟨trivial, h⟩
  | F, e :: r, b, h => by
    obtain ⟨h1, h2⟩ := Flows.append (F := applyF F e) (a := r) (b := b) h.2
    exact ⟨⟨h.1, h1⟩, h2⟩
theorem Flows.at_ {F : Fo} {l : List Ev} (h : Flows F l) {j : Nat} {e : Ev} (hj : l[j]? = some e) : applyE (applyAll F (l.take j)) e = 0 := by
  have hl : j < l.length := (List.getElem?_eq_some_iff.1 hj).1
  have hs : l = l.take j ++ l.drop j := (List.take_append_drop j l).symm
  rw [hs] at h
  have h2 := h.append.2
  rw [List.drop_eq_getElem_cons hl] at h2
  have he : l[j] = e := by rw [List.getElem?_eq_getElem hl] at hj; injection hj
  rw [he] at h2
  exact h2.1
/-- How many events of a writer there are. -/
def ofW (k : Int) (l : List Ev) : Nat := (l.filter fun e => decide (e.writer = k)).length
theorem ofW_append (k : Int) (a b : List Ev) : ofW k (a ++ b) = ofW k a + ofW k b := by unfold ofW; rw [List.filter_append, List.length_append]
theorem ofW_one (k : Int) (e : Ev) : ofW k [e] = if e.writer = k then 1 else 0 := by
  unfold ofW
  by_cases h : e.writer = k <;> simp [h]
theorem flows_of : ∀ (rest done : List Ev) (F : Fo), F.H.length = 64 → (∀ k : Nat, k < 64 → F.H.getD k 0 = ofW (k : Int) done) → (∀ e ∈ rest, behind F e) → rest.Pairwise ahead → (∀ e ∈ rest, Right e) →
    (∀ i e, rest[i]? = some e → e.seq = ofW e.writer (done ++ rest.take i) + 1) → Flows F rest
  | [], _, _, _, _, _, _, _, _ => trivial
  | e :: r, done, F, hl, hH, hb, hp, hr, hs => by
    have hR := hr e List.mem_cons_self
    have h0 : rightE e = 0 := (right_iff e).2 hR
    have hbe := hb e List.mem_cons_self
    obtain ⟨i, hi⟩ := Int.eq_ofNat_of_zero_le hR.w1
    have hi64 : i < 64 := by have := hR.w2; omega
    have hs0 := hs 0 e rfl
    rw [List.take_zero, List.append_nil, hi, ← hH i hi64] at hs0
    have hE : applyE F e = 0 := by
      unfold applyE
      rw [h0, if_neg (by simp), if_neg (by simpa using hbe), hi, Int.toNat_natCast, if_neg (by simpa using hs0)]
    have hF : applyF F e = taken F e := by unfold applyF; rw [hE, if_pos rfl]
    have hp1 := List.pairwise_cons.1 hp
    refine ⟨hE, ?_⟩
    rw [hF]
    refine flows_of r (done ++ [e]) (taken F e) (by unfold taken; simp [hl]) (fun k hk => ?_) (fun e' he' => ?_) hp1.2 (fun e' he' => hr e' (List.mem_cons_of_mem _ he')) fun j e' hj => ?_
    · rw [ofW_append, ofW_one]
      show (F.H.set e.writer.toNat e.seq).getD k 0 = _
      rw [hi, Int.toNat_natCast]
      by_cases hk2 : i = k
      · subst hk2
        rw [List.getD_eq_getElem?_getD, List.getElem?_set_self (by omega), if_pos rfl, ← hH i hi64, ← hs0]
        rfl
      · rw [List.getD_eq_getElem?_getD, List.getElem?_set_ne hk2, ← List.getD_eq_getElem?_getD, hH k hk, if_neg (by omega), Nat.add_zero]
    · have ha := hp1.1 e' he'
      unfold behind
      show e.time < e'.time ∨ e.time = e'.time ∧ ((e.writer.toNat : Nat) : Int) < e'.writer
      unfold ahead at ha
      rw [hi] at ha ⊢
      simpa using ha
    · have := hs (j + 1) e' (by simpa using hj)
      rw [this, List.take_succ_cons]
      simp
/-- In strictly rising lists the writer's events stand where its own list has them. -/
theorem seq_of {R : List Ev} {P : Int → List Ev} (hf : ∀ k, R.filter (fun e => decide (e.writer = k)) = P k) (hq : ∀ k j e, (P k)[j]? = some e → e.seq = j + 1) {i : Nat} {e : Ev} (hi : R[i]? = some e) : e.seq = ofW e.writer (R.take i) + 1 := by
  have hl : i < R.length := (List.getElem?_eq_some_iff.1 hi).1
  have he : R[i] = e := by rw [List.getElem?_eq_getElem hl] at hi; injection hi
  refine hq e.writer _ e ?_
  rw [← hf]
  have hs : R = R.take i ++ e :: R.drop (i + 1) := by rw [← he, ← List.drop_eq_getElem_cons hl, List.take_append_drop]
  unfold ofW
  rw [show R.filter (fun e' => decide (e'.writer = e.writer)) = (R.take i).filter (fun e' => decide (e'.writer = e.writer)) ++ e :: (R.drop (i + 1)).filter (fun e' => decide (e'.writer = e.writer)) by
    conv => lhs; rw [hs]
    rw [List.filter_append, List.filter_cons, if_pos (by simp)]]
  rw [List.getElem?_append_right (Nat.le_refl _), Nat.sub_self]
  rfl
theorem flows_new (n : Nat) {R : List Ev} {P : Int → List Ev} (hp : R.Pairwise ahead) (hr : ∀ e ∈ R, Right e) (hf : ∀ k, R.filter (fun e => decide (e.writer = k)) = P k) (hq : ∀ k j e, (P k)[j]? = some e → e.seq = j + 1) : Flows (newF n) R :=
  flows_of R [] (newF n) rfl (fun k hk => by
    unfold newF
    rw [List.getD_eq_getElem?_getD, List.getElem?_replicate, if_pos hk]
    rfl) (fun e he => by
    have h := hr e he
    unfold behind newF
    show 0 < e.time ∨ _
    exact .inl (by have := h.t1; omega)) hp hr fun i e hi => by
    rw [List.nil_append]
    exact seq_of hf hq hi
end Go.Proofs.Ytmogoopkjkdkgaa.Vw
namespace Go.Proofs.Ytmogoopkjkdkgaa.Vw
open Go Go.RowKit Go.Proofs.Ytmogoopkjkdkgaa.Words Go.Proofs.Ytmogoopkjkdkgaa.Enc Go.Proofs.Ytmogoopkjkdkgaa.Q Go.Proofs.Ytmogoopkjkdkgaa.Evt Go.Proofs.Ytmogoopkjkdkgaa.Seg Go.Proofs.Ytmogoopkjkdkgaa.Fol
set_option linter.unusedVariables false
set_option linter.unusedSimpArgs false

theorem change_len {F : Fo} {e : Ev} (hr : Rise F.L) : (change F e).L.length ≤ F.L.length + 1 := by
  have hi : ∀ (k : Key) (c : Cel), (ins k c F.L).length ≤ F.L.length + 1 := fun k c => by rw [len_ins k c hr]; split <;> omega
  have hd : ∀ (k : Key), (del k F.L).length ≤ F.L.length + 1 := fun k => by rw [len_del k F.L]; split <;> omega
  unfold change
  split
  · exact hi _ _
  · split
    · exact hi _ _
    · split
      · exact hi _ _
      · split
        · exact hd _
        · split <;> (show F.L.length ≤ _; omega)
theorem apply_L {F : Fo} {e : Ev} : (applyF F e).L = (change F e).L ∨ (applyF F e).L = F.L := by
  unfold applyF
  split
  · exact .inl rfl
  · exact .inr rfl
theorem apply_len {F : Fo} {e : Ev} (ok : Ok F) : (applyF F e).L.length ≤ F.L.length + 1 := by
  rcases apply_L (F := F) (e := e) with h | h
  · rw [h]; exact change_len ok.rise
  · rw [h]; omega
/-- Events that are read: where they and their texts lie. -/
structure EvSees (w : World) (A : Option Addr) (R : List EvS) : Prop where
  raw : RawEv w A R
  text : ∀ r ∈ R, Sees w r.A r.n r.e.text
  fit : ∀ r ∈ R, r.e.Fit ∧ r.e.key.size ≤ 64 ∧ r.n ≤ 1000000
theorem EvSees.below {w w' : World} {A : Option Addr} {R : List EvS} (h : EvSees w A R) (hb : Below w.heap.size w w') : EvSees w' A R :=
  ⟨h.raw.below hb, fun r hr => (h.text r hr).below hb, h.fit⟩

set_option maxRecDepth 100000 in
set_option maxHeartbeats 2000000 in
theorem base_any (A : Option Addr) (c : Nat) (R : List EvS) (n : Nat) (w : World) (h : EvSees w A R) (hn : n ≤ R.length) (hR : R.length ≤ 1000) :
    Calls Try.prog 8 #[.slice A R.length c, .int .i64 (n : Int)] w fun e w' => ∃ d mb, e = .returned (.pointer (some ⟨d, 0, none⟩)) ∧ w.heap.size ≤ d ∧ w.heap.size ≤ mb ∧ FoldAt w' [d, mb] d mb (applyAll (newF 3) ((R.take n).map EvS.e)) ∧ (applyAll (newF 3) ((R.take n).map EvS.e)).L.length ≤ n ∧ Below w.heap.size w w' := by
  have hsf := store_float Try.prog
  obtain ⟨N, hN⟩ : ∃ N, N = R.length := ⟨_, rfl⟩
  rw [← hN] at hn hR ⊢
  have HH := Lib.hid (And.intro h hN)
  have NW := Lib.hid (new_any 3 (by omega) w)
  obtain ⟨d, hd⟩ : ∃ d, d = w.heap.size + 1 := ⟨_, rfl⟩
  obtain ⟨mb, hmb⟩ : ∃ d, d = w.heap.size := ⟨_, rfl⟩
  rw [← hd] at NW
  have HDM := Lib.hid (And.intro hd hmb)
  have hn2 : (n : Int) ≤ 1000 := by omega
  clear h hN hd hmb
  go_enter Try.func8, Try.ntmps8
  go_wp2_with fail
  refine NW.out.mono ?_
  rintro e w1 ⟨rfl, hf1, hb1⟩
  have hf1 : FoldAt w1 [d, mb] d mb (newF 3) := by rw [HDM.out.2]; exact hf1
  have HF1 := Lib.hid hf1
  have HB1 := Lib.hid hb1
  clear hf1 hb1 NW
  go_wp2_with fail
  go_loopw [6] (fun y wr => ∃ j : Nat, y = .int .i64 (j : Int) ∧ j ≤ n ∧ Hid (FoldAt wr [d, mb] d mb (applyAll (newF 3) ((R.take j).map EvS.e))) ∧ (applyAll (newF 3) ((R.take j).map EvS.e)).L.length ≤ j ∧ Hid (Below w.heap.size w wr)) (fun y _ => n - (intOf y).toNat)
  case atStart => exact ⟨0, rfl, Nat.zero_le _, HF1, Nat.le_refl _, HB1⟩
  case round =>
    obtain ⟨j, rfl, hj, HF, hlen, HB⟩ := hrel
    by_cases hlt : j < n
    · have hdj : decide ((j : Int) < (n : Int)) = true := decide_eq_true (by omega)
      have hjN : (j : Int) < (N : Int) := by omega
      have hjb : (j : Int) ≤ 1000 := by omega
      obtain ⟨r, hr⟩ : ∃ r, R[j]? = some r := ⟨_, List.getElem?_eq_getElem (by rw [← HH.out.2]; omega)⟩
      have hES := HH.out.1.below HB.out
      have hrm := List.mem_of_getElem? hr
      have hst : applyAll (newF 3) ((R.take (j + 1)).map EvS.e) = applyF (applyAll (newF 3) ((R.take j).map EvS.e)) r.e := by
        have := applyAll_take (newF 3) (R.map EvS.e) j (e := r.e) (by rw [List.getElem?_map, hr]; rfl)
        rw [List.map_take, List.map_take]
        exact this
      obtain ⟨F, hF⟩ : ∃ F, F = applyAll (newF 3) ((R.take j).map EvS.e) := ⟨_, rfl⟩
      have hfa := HF.out
      rw [← hF] at hfa hlen hst
      obtain ⟨b, o, rfl, q0, q1, q2, q3, q4, q5, q6, q7⟩ := RawEv.at_ hES.raw hr
      have htx := hES.text r hrm
      have hfit := hES.fit r hrm
      have AP := Lib.hid (apply_any r.e r.A r.n r.c wr hfa htx (Out.of_lt (S := [d, mb]) (w := w) (B := w.heap.size) (HH.out.1.text r hrm) (Nat.le_refl _) (fun x hx => by have := HDM.out; simp at hx; omega)) (fun x hx => by have := hfa.lt; simp at hx; rcases hx with rfl | rfl; exact this.1; exact this.2) (by omega) (by have := hfit.2.2; omega) hfit.1 (by have := hfit.2.1; omega))
      have hlen2 := apply_len (e := r.e) hfa.ok
      rw [← hst] at AP hlen2
      have HL2 := Lib.hid hlen2
      have HLEN := Lib.hid hlen
      rw [show 8 * j = j * 8 by omega] at q0 q1 q2 q3 q4 q5 q6 q7
      obtain ⟨⟨ew, sq, et, kd, key, text, num, node⟩, rA, rn, rc⟩ := r
      simp only [] at q0 q1 q2 q3 q4 q5 q6 q7
      have AP2 : Calls Try.prog 19 #[.pointer (some ⟨d, 0, none⟩), .agg #[.int .i64 ew, .int .u64 (sq : Int), .int .u64 (et : Int), .int .u8 (kd : Int), .string key, .slice rA rn rc, .float .f64 num, .int .i64 node]] wr _ := AP.out
      have HAP := Lib.hid AP2
      clear hst hF hfa htx hfit hlen hlen2 hES hrm AP AP2 HF
      go_wp2_with fail
      refine HAP.out.mono ?_
      rintro e w2 ⟨rfl, hf2, hb2⟩
      have HF2 := Lib.hid hf2
      have HB2 := Lib.hid (Below.beside HB.out hb2 HB.out.size (fun x hx => by have := HDM.out; simp at hx; omega))
      clear hf2 hb2 HAP q0 q1 q2 q3 q4 q5 q6 q7
      go_wp2
      go_roundw
      case rel => exact ⟨j + 1, by simp, by omega, HF2, by have h1 := HL2.out; have h2 := HLEN.out; omega, HB2⟩
      case measure => simp [intOf]; omega
    · obtain rfl : j = n := by omega
      have hdj : decide ((j : Int) < (j : Int)) = false := decide_eq_false (by omega)
      go_wp2
      go_ret
      exact ⟨d, mb, rfl, by have := HDM.out; omega, by have := HDM.out; omega, HF.out, hlen, HB.out⟩
end Go.Proofs.Ytmogoopkjkdkgaa.Vw
namespace Go.Proofs.Ytmogoopkjkdkgaa.Vw
open Go Go.RowKit Go.Proofs.Ytmogoopkjkdkgaa.Words Go.Proofs.Ytmogoopkjkdkgaa.Enc Go.Proofs.Ytmogoopkjkdkgaa.Q Go.Proofs.Ytmogoopkjkdkgaa.Evt Go.Proofs.Ytmogoopkjkdkgaa.Seg Go.Proofs.Ytmogoopkjkdkgaa.Fol
set_option linter.unusedVariables false
set_option linter.unusedSimpArgs false

/-- Where a view lies: its fold, its events, what they come to. -/
structure ViewAt (w : World) (vb b0 st : Nat) (F0 F : Fo) (A : Option Addr) (c : Nat) (R : List EvS) : Prop where
  row : w.heap[vb]? = some (.cells #[.pointer (some ⟨b0, 0, none⟩), .slice A R.length c, .pointer (some ⟨st, 0, none⟩)] 56 (0, 0))
  base : ∃ S mb, FoldAt w S b0 mb F0
  state : ∃ S mb, FoldAt w S st mb F
  raw : RawEv w A R
  text : ∀ r ∈ R, Sees w r.A r.n r.e.text
  few : R.length ≤ 1000
  small : ∀ r ∈ R, r.n ≤ 1000000
  cap : R.length ≤ c ∧ c ≤ 9223372036854775807
theorem ViewAt.below {w w' : World} {vb b0 st : Nat} {F0 F : Fo} {A : Option Addr} {c : Nat} {R : List EvS} (h : ViewAt w vb b0 st F0 F A c R) (hb : Below w.heap.size w w') : ViewAt w' vb b0 st F0 F A c R :=
  ⟨(hb.block vb (Array.getElem?_eq_some_iff.1 h.row).1).trans h.row, by obtain ⟨S, mb, h1⟩ := h.base; exact ⟨S, mb, h1.below hb⟩, by obtain ⟨S, mb, h1⟩ := h.state; exact ⟨S, mb, h1.below hb⟩, h.raw.below hb, fun r hr => (h.text r hr).below hb, h.few, h.small, h.cap⟩
section
variable {w : World} {vb b0 st : Nat} {F0 F : Fo} {A : Option Addr} {c : Nat} {R : List EvS}
theorem ViewAt.cells (h : ViewAt w vb b0 st F0 F A c R) : w.cell? ⟨vb, 0, none⟩ = some (.pointer (some ⟨b0, 0, none⟩)) ∧ w.cell? ⟨vb, 1, none⟩ = some (.slice A R.length c) ∧ w.cell? ⟨vb, 2, none⟩ = some (.pointer (some ⟨st, 0, none⟩)) := by
  refine ⟨?_, ?_, ?_⟩
  · rw [cell_of_row w vb 0 _ _ _ h.row]; rfl
  · rw [cell_of_row w vb 1 _ _ _ h.row]; rfl
  · rw [cell_of_row w vb 2 _ _ _ h.row]; rfl
set_option maxRecDepth 100000 in
theorem end_any (h : ViewAt w vb b0 st F0 F A c R) : Calls Try.prog 24 #[.pointer (some ⟨vb, 0, none⟩)] w fun e w' => e = .returned (.pointer (some ⟨st, 0, none⟩)) ∧ w' = w := by
  obtain ⟨h0, h1, h2⟩ := h.cells
  clear h
  go_enter Try.func24, Try.ntmps24
  go_wp2
  go_ret
  exact ⟨rfl, rfl⟩
set_option maxRecDepth 100000 in
theorem vlen_any (h : ViewAt w vb b0 st F0 F A c R) : Calls Try.prog 14 #[.pointer (some ⟨vb, 0, none⟩)] w fun e w' => e = .returned (.int .i64 (R.length : Int)) ∧ w' = w := by
  obtain ⟨h0, h1, h2⟩ := h.cells
  clear h
  go_enter Try.func14, Try.ntmps14
  go_wp2
  go_ret
  exact ⟨rfl, rfl⟩
set_option maxRecDepth 100000 in
theorem vmembers_any (h : ViewAt w vb b0 st F0 F A c R) : Calls Try.prog 15 #[.pointer (some ⟨vb, 0, none⟩)] w fun e w' => ∃ A c, e = .returned (.slice A (memL F 64).length c) ∧ Below w.heap.size w w' := by
  have HE := Lib.hid (end_any h)
  obtain ⟨S, mb, hs⟩ := h.state
  have HM := Lib.hid (members_any S st mb F w hs)
  clear hs h
  go_enter Try.func15, Try.ntmps15
  go_wp2_with fail
  refine HE.out.mono ?_
  rintro e w1 ⟨rfl, rfl⟩
  go_wp2_with fail
  refine HM.out.mono ?_
  rintro e w2 ⟨A', c', rfl, hown, hb⟩
  have HG := Lib.hid hb
  clear hown hb
  go_wp2
  go_ret
  exact ⟨_, _, rfl, HG.out⟩
end
end Go.Proofs.Ytmogoopkjkdkgaa.Vw
namespace Go.Proofs.Ytmogoopkjkdkgaa.Vw
open Go Go.RowKit Go.Proofs.Ytmogoopkjkdkgaa.Words Go.Proofs.Ytmogoopkjkdkgaa.Enc Go.Proofs.Ytmogoopkjkdkgaa.Q Go.Proofs.Ytmogoopkjkdkgaa.Evt Go.Proofs.Ytmogoopkjkdkgaa.Seg Go.Proofs.Ytmogoopkjkdkgaa.Fol Go.Proofs.Ytmogoopkjkdkgaa.Ord
set_option linter.unusedVariables false
set_option linter.unusedSimpArgs false

/-- By's answer. -/
def ByGives (w : World) (L : List HV) (F0 : Fo) (e : Ending) (w' : World) : Prop :=
  ∃ vb b0 st g R r0, e = .returned (.tuple #[.pointer (some ⟨vb, 0, none⟩), .int .i64 0]) ∧ ViewAt w' vb b0 st F0 (applyAll F0 (r0.map EvS.e)) (some ⟨g, 0, none⟩) R.length R ∧ R.map EvS.e = r0.map EvS.e ∧ r0.Perm (flat L) ∧ Rises r0 ∧ Below w.heap.size w w'
theorem good_later {B : Nat} {w w' : World} {Al : Option Addr} {L : List HV} (h : GoodLists B w Al L) (hb : Below B w w') (hB : B ≤ w'.heap.size) : GoodLists w'.heap.size w' Al L :=
  ⟨⟨fun hn => by
    obtain ⟨b, o, h1, h2⟩ := (h.lists.below hb).row hn
    exact ⟨b, o, by omega, h2⟩, fun x hx => ⟨((h.lists.below hb).lie x hx).1, fun h0 => by
    obtain ⟨b, o, h1, h2⟩ := ((h.lists.below hb).lie x hx).2 h0
    exact ⟨b, o, by omega, h2⟩⟩⟩, h.rise, h.few, h.evs, fun r hr => by
    have h0 := (h.text r hr).below hb
    exact ⟨h0.sees, h0.few, fun hn a ha => by have := h0.low hn a ha; omega⟩⟩
/-- What stands in the loop. -/
structure ByAt (w0 W : World) (S : List Nat) (vb d2 mb2 d3 mb3 g : Nat) (R : List EvS) (F0 F : Fo) : Prop where
  row : W.heap[vb]? = some (.cells #[.pointer (some ⟨d2, 0, none⟩), .slice (some ⟨g, 0, none⟩) R.length R.length, .pointer (some ⟨d3, 0, none⟩)] 56 (0, 0))
  base : FoldAt W (d2 :: mb2 :: d3 :: mb3 :: S) d2 mb2 F0
  state : FoldAt W (d3 :: mb3 :: S) d3 mb3 F
  raw : RawEv W (some ⟨g, 0, none⟩) R
  text : ∀ r ∈ R, Sees W r.A r.n r.e.text
  below : Below w0.heap.size w0 W
  lt : ∀ x ∈ d3 :: mb3 :: S, x < W.heap.size
theorem ByAt.keep {w0 W W' : World} {S : List Nat} {vb d2 mb2 d3 mb3 g : Nat} {R : List EvS} {F0 F : Fo} (h : ByAt w0 W S vb d2 mb2 d3 mb3 g R F0 F) (hb : Below W.heap.size W W') : ByAt w0 W' S vb d2 mb2 d3 mb3 g R F0 F :=
  ⟨(hb.block vb (Array.getElem?_eq_some_iff.1 h.row).1).trans h.row, h.base.below hb, h.state.below hb, h.raw.below hb, fun r hr => (h.text r hr).below hb, h.below.trans (hb.mono h.below.size), fun x hx => Nat.lt_of_lt_of_le (h.lt x hx) hb.size⟩
theorem RawEv.beside {W W' : World} {g : Nat} {R : List EvS} {S : List Nat} (h : RawEv W (some ⟨g, 0, none⟩) R) (hb : Beside S W W') (hg : g ∉ S) : RawEv W' (some ⟨g, 0, none⟩) R := fun hn => by
  obtain ⟨b, o, hA, hc⟩ := h hn
  injection hA with hA
  injection hA with h1 h2
  subst h1; subst h2
  exact ⟨g, 0, rfl, fun j v hv => by
    have h3 := hc j v hv
    have h4 := World.block_lt_of_cell? _ _ h3
    exact hb.cell h3 hg⟩

theorem boxE (cs : Array Value) (w : World) : (w.alloc (.cells cs 43)).heap[w.heap.size]? = some (.cells cs 43 (0, 0)) := heap_alloc_new w _
set_option maxRecDepth 100000 in
set_option maxHeartbeats 4000000 in
theorem by_any (Al : Option Addr) (cl : Nat) (L : List HV) (S : List Nat) (d mb : Nat) (F0 : Fo) (w : World) (hf : FoldAt w S d mb F0) (hg : GoodLists w.heap.size w Al L) (hS : ∀ x ∈ S, x < w.heap.size) (hfl : (flat L).length ≤ 1000) (hfit : ∀ r ∈ flat L, r.e.Fit ∧ r.e.key.size ≤ 64 ∧ r.n ≤ 1000000)
    (hflow : ∀ r0 : List EvS, r0.Perm (flat L) → Rises r0 → Flows F0 (r0.map EvS.e)) (hl : F0.L.length ≤ 100000) :
    Calls Try.prog 7 #[.pointer (some ⟨d, 0, none⟩), .slice Al L.length cl] w (ByGives w L F0) := by
  have hsf := store_float Try.prog
  have C1 := Lib.hid (copy_any S d mb F0 w hf)
  have HF := Lib.hid hf
  have HG := Lib.hid hg
  have HSS := Lib.hid hS
  have HFL := Lib.hid hfl
  have HFT := Lib.hid hfit
  have HFW := Lib.hid hflow
  have HL := Lib.hid hl
  obtain ⟨ln, hln⟩ : ∃ ln, ln = L.length := ⟨_, rfl⟩
  rw [← hln]
  have HLN := Lib.hid hln
  clear hf hg hS hfl hfit hflow hl hln
  go_enter Try.func7, Try.ntmps7
  go_wp2_with fail
  refine C1.out.mono ?_
  rintro e w1 ⟨d2, mb2, rfl, hd2, hm2, hf1, hb1⟩
  have AL := Lib.hid (all_any Al cl L w1 (good_later HG.out hb1 hb1.size))
  rw [← HLN.out] at AL
  have HF1 := Lib.hid hf1
  have HB1 := Lib.hid hb1
  have HD2 := Lib.hid (And.intro hd2 hm2)
  clear hf1 hb1 hd2 hm2 C1
  go_wp2_with fail
  refine AL.out.mono ?_
  rintro e w2 ⟨g, m, R, r0, rfl, hRm, hrow, hg1, hRe, ⟨hperm, hrise⟩, hb2⟩
  subst hRm
  have C2 := Lib.hid (copy_any S d mb F0 w2 ((HF.out.below HB1.out).below hb2))
  have HB12 := Lib.hid (HB1.out.trans (hb2.mono HB1.out.size))
  have HF2 := Lib.hid (HF1.out.below hb2)
  have HROW := Lib.hid hrow
  have HR := Lib.hid (And.intro hRe (And.intro hperm hrise))
  have HG1 := Lib.hid hg1
  have HSZ := Lib.hid hb2.size
  clear hrow hRe hperm hrise hb2 hg1 AL HF1
  go_wp2_with fail
  refine C2.out.mono ?_
  rintro e w3 ⟨d3, mb3, rfl, hd3, hm3, hf3, hb3⟩
  obtain ⟨vb, hvb⟩ : ∃ b, b = w3.heap.size := ⟨_, rfl⟩
  obtain ⟨u, hu⟩ : ∃ u, u = w3.alloc (.cells #[.pointer (some ⟨d2, 0, none⟩), .slice (some ⟨g, 0, none⟩) R.length R.length, .pointer (some ⟨d3, 0, none⟩)] 56) := ⟨_, rfl⟩
  have hbu : Below w3.heap.size w3 u := by rw [hu]; exact (Below.refl _ _).alloc (Nat.le_refl _) _
  have g2 : u.heap[vb]? = some (.cells #[.pointer (some ⟨d2, 0, none⟩), .slice (some ⟨g, 0, none⟩) R.length R.length, .pointer (some ⟨d3, 0, none⟩)] 56 (0, 0)) := by rw [hu, hvb]; exact heap_alloc_new w3 _
  have hlt3 := hf3.lt
  have hgl : g < w2.heap.size := by obtain ⟨cur, h1, _⟩ := HROW.out.row; exact (Array.getElem?_eq_some_iff.1 h1).1
  have hb2u := hb3.trans (hbu.mono hb3.size)
  have hx2 : ∀ x ∈ S, x < w2.heap.size := fun x hx => Nat.lt_of_lt_of_le (HSS.out x hx) HB12.out.size
  have hat : ByAt w u S vb d2 mb2 d3 mb3 g R F0 F0 := by
    refine ⟨g2, (HF2.out.wider (fun x hx => by simp at hx ⊢; rcases hx with h | h | h <;> simp [h]) (fun x hx => ?_)).below hb2u, hf3.below hbu, ?_, fun r hr => ((HROW.out.text r hr).sees.below hb2u), HB12.out.trans (hb2u.mono HB12.out.size), fun x hx => ?_⟩
    · simp at hx ⊢
      rcases hx with h | h | h | h | h
      · exact .inl (.inl h)
      · exact .inl (.inr (.inl h))
      · exact .inr (by omega)
      · exact .inr (by omega)
      · exact .inl (.inr (.inr h))
    · have hr : RawEv w2 (some ⟨g, 0, none⟩) R := fun _ => by
        obtain ⟨cur, h1, h2, h3⟩ := HROW.out.row
        exact ⟨g, 0, rfl, fun j v hv => by rw [cell_of_row w2 g _ _ _ _ h1, Nat.zero_add]; exact h3 j v hv⟩
      exact hr.below hb2u
    · have := hbu.size
      simp at hx
      rcases hx with rfl | rfl | h
      · omega
      · omega
      · have := hx2 x h; have := hb3.size; omega
  have hlt2 := HF2.out.lt
  have hne : vb ≠ d3 ∧ vb ≠ mb3 ∧ d3 ≠ d2 ∧ d3 ≠ mb2 ∧ mb3 ≠ d2 ∧ mb3 ≠ mb2 := by omega
  have hgn : g ∉ [d3, mb3] := by simp; omega
  have hout : ∀ r ∈ R, Out [d3, mb3] r.A r.n := fun r hr => Out.of_lt (S := [d3, mb3]) (w := w2) (B := w2.heap.size) (HROW.out.text r hr).sees (Nat.le_refl _) (fun x hx => by simp at hx; omega)
  have HAT := Lib.hid hat
  have HNE := Lib.hid hne
  have HGN := Lib.hid hgn
  have HOUT := Lib.hid hout
  have HD3 := Lib.hid (show w.heap.size ≤ d3 ∧ w.heap.size ≤ mb3 by have := HB12.out.size; omega)
  go_upto_region 4 with fail
  rw [← hu, ← hvb]
  clear hlt2 hat hne hgn hout hf3 hb3 hbu g2 hlt3 hgl hb2u hx2 C2 hd3 hm3 hu hvb HF2 HROW HSZ HB1
  obtain ⟨N, hN⟩ : ∃ N, N = R.length := ⟨_, rfl⟩
  rw [← hN]
  have HNN := Lib.hid hN
  have hN2 : (N : Int) ≤ 1000 := by
    have h1 := HR.out.2.1.length_eq
    have h2 := congrArg List.length HR.out.1
    rw [List.length_map, List.length_map] at h2
    have := HFL.out
    omega
  have hrow := HAT.out.row
  rw [← hN] at hrow
  have HROW := Lib.hid hrow
  clear hN hrow
  have c1 : u.cell? ⟨vb, 1, none⟩ = some (.slice (some ⟨g, 0, none⟩) N N) := by rw [cell_of_row u vb 1 _ _ _ HROW.out]; rfl
  go_wp2_with fail
  go_loopw [25] (fun y wr => ∃ j : Nat, y = .int .i64 (j : Int) ∧ j ≤ N ∧ Hid (ByAt w wr S vb d2 mb2 d3 mb3 g R F0 (applyAll F0 ((R.take j).map EvS.e))) ∧ Hid ((applyAll F0 ((R.take j).map EvS.e)).L.length ≤ F0.L.length + j)) (fun y _ => N - (intOf y).toNat)
  case atStart => exact ⟨0, rfl, Nat.zero_le _, HAT, Lib.hid (Nat.le_refl _)⟩
  case round =>
    obtain ⟨j, rfl, hj, HB, HLE⟩ := hrel
    by_cases hlt : j < N
    · have hdj : decide ((j : Int) < (N : Int)) = true := decide_eq_true (by omega)
      have hjN : (j : Int) < (N : Int) := by omega
      have hjb : (j : Int) ≤ 1000 := by omega
      obtain ⟨r, hr⟩ : ∃ r, R[j]? = some r := ⟨_, List.getElem?_eq_getElem (by rw [← HNN.out]; omega)⟩
      have hrm := List.mem_of_getElem? hr
      obtain ⟨F, hF⟩ : ∃ F, F = applyAll F0 ((R.take j).map EvS.e) := ⟨_, rfl⟩
      have hst : applyAll F0 ((R.take (j + 1)).map EvS.e) = applyF F r.e := by
        have := applyAll_take F0 (R.map EvS.e) j (e := r.e) (by rw [List.getElem?_map, hr]; rfl)
        rw [hF, List.map_take, List.map_take]
        exact this
      have hfl0 : applyE F r.e = 0 := by
        have h1 := HFW.out r0 HR.out.2.1 HR.out.2.2
        rw [← HR.out.1] at h1
        have h2 := Flows.at_ h1 (j := j) (e := r.e) (by rw [List.getElem?_map, hr]; rfl)
        rw [hF, List.map_take]
        exact h2
      have hfit := HFT.out
      have hrr : ∃ r' ∈ flat L, r'.e = r.e := by
        have h1 : r.e ∈ R.map EvS.e := List.mem_map.2 ⟨r, hrm, rfl⟩
        rw [HR.out.1] at h1
        obtain ⟨r', h2, h3⟩ := List.mem_map.1 h1
        exact ⟨r', HR.out.2.1.mem_iff.1 h2, h3⟩
      rw [← hF] at HB HLE
      obtain ⟨b, o, hA, q0, q1, q2, q3, q4, q5, q6, q7⟩ := RawEv.at_ HB.out.raw hr
      injection hA with hA
      injection hA with h1 h2
      subst h1; subst h2
      have htx := HB.out.text r hrm
      have hout := HOUT.out r hrm
      have hef : r.e.Fit ∧ r.e.key.size ≤ 64 ∧ r.n ≤ 1000000 := by
        obtain ⟨r', h1, h2⟩ := hrr
        obtain ⟨h3, h4, h5⟩ := hfit r' h1
        have h6 := (HG.out.text r' h1).sees.1
        have h7 := htx.1
        rw [h2] at h3 h4 h6
        exact ⟨h3, h4, by omega⟩
      have AP := Lib.hid (fun W (hW : Below wr.heap.size wr W) => by
        have hk := HB.out.keep hW
        have hll := HLE.out
        have hl0 := HL.out
        have := apply_any r.e r.A r.n r.c W hk.state (htx.below hW) hout hk.lt (by omega) (by omega) hef.1 (by omega)
        rw [hfl0] at this
        exact this)
      have hlen2 := apply_len (e := r.e) HB.out.state.ok
      have HST := Lib.hid (And.intro hst hlen2)
      rw [show 8 * j = j * 8 by omega] at q0 q1 q2 q3 q4 q5 q6 q7
      obtain ⟨⟨ew, sq, et, kd, key, text, num, node⟩, rA, rn, rc⟩ := r
      simp only [Nat.zero_add] at q0 q1 q2 q3 q4 q5 q6 q7
      obtain ⟨eb, heb⟩ : ∃ b, b = wr.heap.size := ⟨_, rfl⟩
      have BX := Lib.hid (boxE #[.int .i64 0, .int .u64 0, .int .u64 0, .int .u8 0, .string ⟨#[]⟩, .slice none 0 0, .float .f64 0, .int .i64 0] wr)
      have HEB := Lib.hid heb
      have AP2 : ∀ W, Below wr.heap.size wr W → Calls Try.prog 19 #[.pointer (some ⟨d3, 0, none⟩), .agg #[.int .i64 ew, .int .u64 (sq : Int), .int .u64 (et : Int), .int .u8 (kd : Int), .string key, .slice rA rn rc, .float .f64 num, .int .i64 node]] W _ := AP.out
      have HAP := Lib.hid AP2
      clear hst hF htx hfit hlen2 hrm AP AP2 hrr hef hout hfl0 heb hr
      go_wp2_with (first | (refine wpList_putRow rfl 43 (.tmp 8) (.tmp 28) rfl wr.heap.size 43 #[.int .i64 0, .int .u64 0, .int .u64 0, .int .u8 0, .string ⟨#[]⟩, .slice none 0 0, .float .f64 0, .int .i64 0] #[.int .i64 ew, .int .u64 (sq : Int), .int .u64 (et : Int), .int .u8 (kd : Int), .string key, .slice rA rn rc, .float .f64 num, .int .i64 node] rfl rfl ?g1 (by kernel_rfl) rfl (by simp [Value.oneCell']) ?_))
      case g1 => exact (Array.getElem?_eq_some_iff.1 BX.out).2
      intro W3 hW3 hbe3
      rw [← HEB.out] at hW3 hbe3 ⊢
      have hb3 : Below wr.heap.size wr W3 := Below.beside ((Below.refl _ _).alloc (Nat.le_refl _) _) hbe3 (by simp) (fun x hx => by simp at hx; have := HEB.out; omega)
      have HB3 := Lib.hid hb3
      have p0 : W3.cell? ⟨eb, 0, none⟩ = some (.int .i64 ew) := by rw [cell_of_row W3 eb 0 _ _ _ hW3]; rfl
      have p1 : W3.cell? ⟨eb, 1, none⟩ = some (.int .u64 (sq : Int)) := by rw [cell_of_row W3 eb 1 _ _ _ hW3]; rfl
      have p2 : W3.cell? ⟨eb, 2, none⟩ = some (.int .u64 (et : Int)) := by rw [cell_of_row W3 eb 2 _ _ _ hW3]; rfl
      have p3 : W3.cell? ⟨eb, 3, none⟩ = some (.int .u8 (kd : Int)) := by rw [cell_of_row W3 eb 3 _ _ _ hW3]; rfl
      have p4 : W3.cell? ⟨eb, 4, none⟩ = some (.string key) := by rw [cell_of_row W3 eb 4 _ _ _ hW3]; rfl
      have p5 : W3.cell? ⟨eb, 5, none⟩ = some (.slice rA rn rc) := by rw [cell_of_row W3 eb 5 _ _ _ hW3]; rfl
      have p6 : W3.cell? ⟨eb, 6, none⟩ = some (.float .f64 num) := by rw [cell_of_row W3 eb 6 _ _ _ hW3]; rfl
      have p7 : W3.cell? ⟨eb, 7, none⟩ = some (.int .i64 node) := by rw [cell_of_row W3 eb 7 _ _ _ hW3]; rfl
      have c2 : W3.cell? ⟨vb, 2, none⟩ = some (.pointer (some ⟨d3, 0, none⟩)) := by rw [cell_of_row W3 vb 2 _ _ _ (HB.out.keep hb3).row]; rfl
      clear hW3 hbe3 hb3 q0 q1 q2 q3 q4 q5 q6 q7
      go_upto_region 7 with fail
      go_still_tail 5, (by kernel_rfl)
      change wpList _ _ _ _ _ W3.drew
      go_wp2_with fail
      refine (HAP.out _ HB3.out.drew).mono ?_
      rintro e w5 ⟨rfl, hmk⟩
      have HMK := Lib.hid hmk
      clear hmk HAP p0 p1 p2 p3 p4 p5 p6 p7 c2
      go_wp2
      go_roundw
      case rel =>
        have hk := HB.out.keep HB3.out.drew
        obtain ⟨hm1, hm2⟩ := HMK.out
        have hvl := (Array.getElem?_eq_some_iff.1 hk.row).1
        have hn := HNE.out
        have hd := HD3.out
        refine ⟨j + 1, by simp, by omega, Lib.hid ?_, Lib.hid ?_⟩
        · rw [HST.out.1]
          exact ⟨(hm2.block vb hvl (by simp; omega)).trans hk.row, hk.base.beside hm2 (fun x hx => .inl (by simp at hx ⊢; omega)), hm1, RawEv.beside hk.raw hm2 HGN.out, fun r hr => (hk.text r hr).beside hm2 (HOUT.out r hr), Below.beside hk.below hm2 hk.below.size (fun x hx => by simp at hx; omega), fun x hx => Nat.lt_of_lt_of_le (hk.lt x hx) hm2.size⟩
        · rw [HST.out.1]
          have h1 := HST.out.2
          have h2 := HLE.out
          omega
      case measure => simp [intOf]; omega
    · obtain rfl : j = N := by omega
      have hdj : decide ((j : Int) < (j : Int)) = false := decide_eq_false (by omega)
      go_wp2
      go_returns
      have hRl : (R.take j).map EvS.e = r0.map EvS.e := by rw [HNN.out, List.take_length]; exact HR.out.1
      have hb := HB.out
      rw [hRl] at hb
      exact ⟨vb, d2, d3, g, R, r0, rfl, ⟨hb.row, ⟨_, _, hb.base⟩, ⟨_, _, hb.state⟩, hb.raw, hb.text, by have := HNN.out; omega, fun r hr => by
        have h1 : r.e ∈ R.map EvS.e := List.mem_map.2 ⟨r, hr, rfl⟩
        rw [HR.out.1] at h1
        obtain ⟨r', h2, h3⟩ := List.mem_map.1 h1
        have h4 := HR.out.2.1.mem_iff.1 h2
        have h5 := (HFT.out r' h4).2.2
        have h6 := (HG.out.text r' h4).sees.1
        have h7 := (hb.text r hr).1
        rw [h3] at h6
        omega, Nat.le_refl _, by have := HNN.out; omega⟩, HR.out.1, HR.out.2.1, HR.out.2.2, hb.below⟩
end Go.Proofs.Ytmogoopkjkdkgaa.Vw
namespace Go.Proofs.Ytmogoopkjkdkgaa.Vw
open Go Go.RowKit Go.Proofs.Ytmogoopkjkdkgaa.Words Go.Proofs.Ytmogoopkjkdkgaa.Enc Go.Proofs.Ytmogoopkjkdkgaa.Q Go.Proofs.Ytmogoopkjkdkgaa.Evt Go.Proofs.Ytmogoopkjkdkgaa.Seg Go.Proofs.Ytmogoopkjkdkgaa.Ord
set_option linter.unusedVariables false
set_option linter.unusedSimpArgs false

section
variable {B0 ob lb wn i m : Nat} {w0 W : World} {L : List HV} {T : List Nat} {R : List EvS}
theorem flat_filter_no : ∀ (L : List HV) (k : Nat) (p : EvS → Bool), (∀ (j : Nat) (x : HV) (e : EvS), L[j]? = some x → e ∈ x.S → p e = true → False) → (flat L).filter p = []
  | [], _, _, _ => rfl
  | x :: r, k, p, h => by
    show (x.S ++ flat r).filter p = []
    rw [List.filter_append, flat_filter_no r k p (fun j y e hy he hp => h (j + 1) y e (by simpa using hy) he hp), List.append_nil]
    rw [List.filter_eq_nil_iff]
    intro e he hp
    exact h 0 x e rfl he hp
/-- Of all lists those of one writer are one list. -/
theorem flat_of : ∀ (L : List HV) (b k : Nat) (x : HV), (∀ (j : Nat) (y : HV) (e : EvS), L[j]? = some y → e ∈ y.S → e.e.writer = ((b + j : Nat) : Int)) → L[k]? = some x → (flat L).filter (fun e => decide (e.e.writer = ((b + k : Nat) : Int))) = x.S
  | [], _, _, _, _, h => by simp at h
  | y :: r, b, 0, x, hw, h => by
    simp at h
    subst h
    show (y.S ++ flat r).filter _ = y.S
    rw [List.filter_append, flat_filter_no r 0 _ (fun j z e hz he hp => by
      have h1 := hw (j + 1) z e (by simpa using hz) he
      simp at hp
      omega), List.append_nil, List.filter_eq_self]
    intro e he
    have := hw 0 y e rfl he
    simp [this]
  | y :: r, b, k + 1, x, hw, h => by
    show (y.S ++ flat r).filter _ = x.S
    rw [List.filter_append]
    have h0 : y.S.filter (fun e => decide (e.e.writer = ((b + (k + 1) : Nat) : Int))) = [] := by
      rw [List.filter_eq_nil_iff]
      intro e he hp
      have := hw 0 y e rfl he
      simp at hp
      omega
    rw [h0, List.nil_append]
    have := flat_of r (b + 1) k x (fun j z e hz he => by have := hw (j + 1) z e (by simpa using hz) he; rw [this]; congr 1; omega) (by simpa using h)
    rw [show b + (k + 1) = b + 1 + k by omega]
    exact this
theorem feeds_good_at (h : FeedsAt B0 ob lb wn w0 i m L T W) {k : Nat} {x : HV} (hx : L[k]? = some x) : ∃ t, t ≤ m ∧ ListOf k t x := by
  have hk : k < L.length := (List.getElem?_eq_some_iff.1 hx).1
  have hkT : k < T.length := by rw [h.lenT, ← h.lenL]; exact hk
  exact ⟨T[k], h.time _ (List.getElem_mem _), h.good k _ x hx (List.getElem?_eq_getElem hkT)⟩
theorem feeds_filter (h : FeedsAt B0 ob lb wn w0 i m L T W) (hp : R.Perm (flat L)) (hs : Rises R) {k : Nat} {x : HV} (hx : L[k]? = some x) : R.filter (fun e => decide (e.e.writer = (k : Int))) = x.S := by
  have hw : ∀ (j : Nat) (y : HV) (e : EvS), L[j]? = some y → e ∈ y.S → e.e.writer = ((0 + j : Nat) : Int) := fun j y e hy he => by
    obtain ⟨t, _, hg⟩ := feeds_good_at h hy
    rw [(hg.each e he).1, Nat.zero_add]
  have hf := flat_of L 0 k x hw hx
  rw [Nat.zero_add] at hf
  obtain ⟨t, _, hg⟩ := feeds_good_at h hx
  have hpf := hp.filter (fun e => decide (e.e.writer = (k : Int)))
  rw [hf] at hpf
  refine List.Perm.eq_of_pairwise (le := evLe) (fun a b ha hb h1 h2 => feeds_anti h a b (hp.mem_iff.1 (List.mem_filter.1 ha).1) (hp.mem_iff.1 (List.mem_filter.1 (hpf.mem_iff.2 hb)).1) h1 h2) (hs.filter _) (hg.rise.imp fun {a b} hab => .inl hab) hpf
theorem feeds_none (h : FeedsAt B0 ob lb wn w0 i m L T W) (hp : R.Perm (flat L)) {k : Int} (hk : ∀ j : Nat, j < wn → k ≠ (j : Int)) : R.filter (fun e => decide (e.e.writer = k)) = [] := by
  rw [List.filter_eq_nil_iff]
  intro e he hpe
  have hm := hp.mem_iff.1 he
  obtain ⟨x, hx, hex⟩ := List.mem_flatMap.1 hm
  obtain ⟨j, hj, rfl⟩ := List.getElem_of_mem hx
  obtain ⟨t, _, hg⟩ := feeds_good_at h (List.getElem?_eq_getElem hj)
  have h1 := (hg.each e hex).1
  simp at hpe
  exact hk j (by rw [← h.lenL]; exact hj) (by rw [← hpe, h1])
theorem feeds_ahead (h : FeedsAt B0 ob lb wn w0 i m L T W) (hp : R.Perm (flat L)) (hs : Rises R) : R.Pairwise fun a b => ahead a.e b.e := by
  rw [List.pairwise_iff_forall_sublist]
  intro a b hab
  have hle : evLe a b := List.pairwise_iff_forall_sublist.1 hs hab
  rcases hle with h1 | ⟨h1, h2⟩
  · exact .inl h1
  · by_cases h3 : a.e.writer < b.e.writer
    · exact .inr ⟨h1, h3⟩
    · have h4 : a.e.writer = b.e.writer := by omega
      have hbm := hp.mem_iff.1 (hab.subset (by simp) : b ∈ R)
      obtain ⟨x, hx, hbx⟩ := List.mem_flatMap.1 hbm
      obtain ⟨j, hj, rfl⟩ := List.getElem_of_mem hx
      obtain ⟨t, _, hg⟩ := feeds_good_at h (List.getElem?_eq_getElem hj)
      have h5 := (hg.each b hbx).1
      have hsub := hab.filter (fun e => decide (e.e.writer = (j : Int)))
      rw [feeds_filter h hp hs (List.getElem?_eq_getElem hj)] at hsub
      have he : [a, b].filter (fun e => decide (e.e.writer = (j : Int))) = [a, b] := by simp [h4, h5]
      rw [he] at hsub
      have := List.pairwise_iff_forall_sublist.1 hg.rise hsub
      exact .inl this
theorem feeds_flows (h : FeedsAt B0 ob lb wn w0 i m L T W) (hr : ∀ r ∈ flat L, Right r.e) (hp : R.Perm (flat L)) (hs : Rises R) (n : Nat) : Flows (Fol.newF n) (R.map EvS.e) := by
  refine flows_new n (P := fun k => (R.filter (fun e => decide (e.e.writer = k))).map EvS.e) ?_ ?_ ?_ ?_
  · rw [List.pairwise_map]; exact feeds_ahead h hp hs
  · intro e he
    obtain ⟨r, hr1, rfl⟩ := List.mem_map.1 he
    exact hr r (hp.mem_iff.1 hr1)
  · intro k
    rw [List.filter_map]
    rfl
  · intro k j e hj
    by_cases hk : ∃ q : Nat, q < wn ∧ k = (q : Int)
    · obtain ⟨q, hq, rfl⟩ := hk
      have hql : q < L.length := by rw [h.lenL]; exact hq
      rw [feeds_filter h hp hs (List.getElem?_eq_getElem hql), List.getElem?_map] at hj
      obtain ⟨t, _, hg⟩ := feeds_good_at h (List.getElem?_eq_getElem hql)
      cases hx : L[q].S[j]? with
      | none => rw [hx] at hj; cases hj
      | some y => rw [hx] at hj; cases hj; exact hg.seq j y hx
    · rw [feeds_none h hp (k := k) (fun q hq e1 => hk ⟨q, hq, e1⟩)] at hj
      simp at hj
end
end Go.Proofs.Ytmogoopkjkdkgaa.Vw
