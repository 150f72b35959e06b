/- disk.Crash: its contract, in whatever order the files come. -/
import Derived.Test.YtokfajlmephdeaaDoorDiskOps
import Derived.LoopTactic
namespace Go.Proofs.YtokfajlmephdeaaDoor.Dsk
open Go Go.RowKit Go.Proofs.YtokfajlmephdeaaDoor.Words
set_option linter.unusedVariables false

/-- How many bytes of a file a fall keeps. -/
def Fil.stays (keep : Int) (f : Fil) : Nat := f.safe + min keep.toNat (f.p.length - f.safe)
/-- The files, where those of 'left' are still to come. -/
def stage (keep : Int) (left : Lit → Bool) (fs : List Fil) : List Fil := fs.map fun f => if left (.string f.name) then f else f.cut (f.stays keep)
theorem stays_le {keep : Int} {f : Fil} (h : f.safe ≤ f.p.length) : f.stays keep ≤ f.p.length := by unfold Fil.stays; omega
theorem total_stage (keep : Int) (left : Lit → Bool) : ∀ fs : List Fil, total (stage keep left fs) ≤ total fs
  | [] => Nat.le_refl _
  | f :: r => by
    have ih := total_stage keep left r
    simp only [stage, List.map_cons, total] at ih ⊢
    have : (if left (.string f.name) = true then f else f.cut (f.stays keep)).p.length ≤ f.p.length := by
      split
      · exact Nat.le_refl _
      · simp [Fil.cut]; omega
    omega
theorem stage_all (keep : Int) {left : Lit → Bool} {fs : List Fil} (h : ∀ f ∈ fs, left (.string f.name) = true) : stage keep left fs = fs := by
  unfold stage
  conv => rhs; rw [← List.map_id fs]
  apply List.map_congr_left
  intro f hf
  simp [h f hf]
/-- What a fall makes of a file. -/
def crashG (keep : Int) (f : File) : File := ⟨f.name, f.p.take (f.safe + min keep.toNat (f.p.length - f.safe)), f.safe + min keep.toNat (f.p.length - f.safe)⟩
theorem stage_none (keep : Int) {left : Lit → Bool} {fs : List Fil} (h : ∀ k, left k = false) : abs (stage keep left fs) = (abs fs).map (crashG keep) := by
  simp only [stage, abs, List.map_map]
  apply List.map_congr_left
  intro f hf
  simp [h, Fil.cut, Fil.abs, crashG, Fil.stays]

theorem strKey_inv {key : Value} {kl : Lit} (h : keyOf Tryd.prog 9 key = some kl) : ∃ x : ByteArray, key = .string x := by
  have hk := Tryd.underlying9
  cases key <;> simp [keyOf, hk, mapKey] at h
  exact ⟨_, rfl⟩
theorem strKey_of {x : ByteArray} {kl : Lit} (h : keyOf Tryd.prog 9 (.string x) = some kl) : kl = .string x.data.toList := by
  have hk := Tryd.underlying9
  simp [keyOf, hk, mapKey] at h
  exact h.2.symm

theorem own_stage (d mb : Nat) (keep : Int) (left : Lit → Bool) (fs : List Fil) : own d mb (stage keep left fs) = own d mb fs := by
  unfold own
  congr 2
  induction fs with
  | nil => rfl
  | cons f r ih =>
    simp only [stage, List.map_cons, List.flatMap_cons] at ih ⊢
    rw [ih]
    congr 1
    split <;> rfl
theorem look_stage (s : List UInt8) (keep : Int) (left : Lit → Bool) : ∀ fs : List Fil, (look s (stage keep left fs)).isSome = (look s fs).isSome
  | [] => rfl
  | f :: r => by
    have ih := look_stage s keep left r
    simp only [look, stage, List.map_cons, List.find?_cons] at ih ⊢
    have hn : (if left (.string f.name) = true then f else f.cut (f.stays keep)).name = f.name := by split <;> rfl
    rw [hn]
    by_cases h : f.name = s
    · simp [h]
    · rw [decide_eq_false h]
      exact ih
/-- One that was still to come has come. -/
theorem stage_step {keep : Int} {left : Lit → Bool} {s : List UInt8} {l m : List Fil} {f : Fil} (hs : f.name = s) (hl : ∀ x ∈ l ++ m, x.name ≠ s) (hk : left (.string s) = true) (hkey : WideAt.IsKeyLit (.string s)) :
    stage keep left (l ++ f :: m) = stage keep left l ++ f :: stage keep left m ∧
    stage keep (fun z => left z && !z.sameKey (.string s)) (l ++ f :: m) = stage keep left l ++ f.cut (f.stays keep) :: stage keep left m := by
  have same : ∀ k : List Fil, (∀ x ∈ k, x.name ≠ s) → stage keep (fun z => left z && !z.sameKey (.string s)) k = stage keep left k := by
    intro k hk'
    unfold stage
    apply List.map_congr_left
    intro x hx
    have : (Lit.string x.name).sameKey (.string s) = false := Maps.sameKey_ne (by intro e; injection e with e; exact hk' x hx e)
    simp only [this, Bool.not_false, Bool.and_true]
  have h1 := same l fun x hx => hl x (by simp [hx])
  have h2 := same m fun x hx => hl x (by simp [hx])
  refine ⟨?_, ?_⟩
  · simp only [stage, List.map_append, List.map_cons, hs, hk, if_true]
  · have e : stage keep (fun z => left z && !z.sameKey (.string s)) (l ++ f :: m) = stage keep (fun z => left z && !z.sameKey (.string s)) l ++ f.cut (f.stays keep) :: stage keep (fun z => left z && !z.sameKey (.string s)) m := by
      simp only [stage, List.map_append, List.map_cons, hs, WideAt.sameKey_self hkey, Bool.not_true, Bool.and_false, Bool.false_eq_true, if_false]
    rw [e, h1, h2]

theorem ranges_kept {w w' : World} {k : TypeId} {R : Value → Option (DataW (Option Addr) × List MemPlace)} {b r n : Nat} {D : DataW (Option Addr)} {left : Lit → Bool} {cnt : Nat} (h : w.ranges Tryd.prog k R b r n D left cnt)
    (hb : w'.heap[b]? = w.heap[b]?) (hr : w'.heap[r]? = w.heap[r]?) : w'.ranges Tryd.prog k R b r n D left cnt := by
  obtain ⟨es, clock, since, seen, c0, h1, h2, h3, h4, h5, h6⟩ := h
  exact ⟨es, clock, since, seen, c0, hb.trans h1, h2, h3, h4, hr.trans h5, h6⟩

set_option maxRecDepth 100000 in
set_option maxHeartbeats 1000000 in
theorem crash_any (d mb : Nat) (fs : List Fil) (h : Hd) (keep : Int) (w : World) (hd : DiskAt w d mb fs h) (ht : total fs ≤ 1000000000000) (hk1 : -9223372036854775808 ≤ keep) (hk2 : keep ≤ 9223372036854775807) :
    Calls Tryd.prog 22 #[.pointer (some ⟨d, 0, none⟩), .int .i64 keep] w fun e w' => e = .returned (.tuple #[]) ∧ Makes d mb fs w ((abs fs).map (crashG keep)) { h with off := false, left := -1 } w' := by
  obtain ⟨c0, _⟩ := hd.head.cells
  obtain ⟨D, hown, hsh⟩ := hd.map
  have HSH := Lib.hid hsh
  have HNM := Lib.hid hd.names
  obtain ⟨kp, hkp⟩ : ∃ kp, kp = keep.toNat := ⟨_, rfl⟩
  have hmax : max keep 0 = (kp : Int) := by omega
  have HKP := Lib.hid hkp
  clear hkp
  clear hsh
  go_enter Tryd.func22, Tryd.ntmps22
  go_wp2_with (first | (at_range; refine wpList_range_own _ rfl _ 55 rfl 9 61 keyStr Tryd.underlying55 ptrElem mb fs.length D rfl hown ?_; intro w0 hrg0 hg0 hs0))
  go_frame
  have hr0 : w.heap.size ∉ own d mb fs := fun hm => by have := hd.lt _ hm; omega
  go_loopw [] (fun wr => ∃ left cnt, wr.ranges Tryd.prog 9 ptrElem mb w.heap.size fs.length D left cnt ∧ DiskAt wr d mb (stage keep left fs) h ∧ Beside (own d mb fs) w wr) (fun wr => wr.rangeLeft mb w.heap.size)
  case atStart =>
    refine ⟨_, _, hrg0, ?_, (Beside.refl _ _).grown hg0 (fun k hk => by cases hk)⟩
    rw [stage_all]
    · exact hd.kept fun k hk => hg0.block k (hd.lt k hk) (by simp)
    · intro f hf
      rw [HSH.out.2.1]
      cases hl : look f.name fs with
      | some x => rfl
      | none => exact absurd rfl (look_none.1 hl f hf)
  case round =>
    obtain ⟨left, cnt, hrg, hdk, hbs⟩ := hrel
    have HOLD := Lib.hid hrg.left_eq
    clear hg0 hs0 hrg0
    go_wp2_with (first | (at_next; refine wpList_next_ranges _ rfl _ rfl 9 keyStr ptrElem Value.string Value.pointer (fun _ _ hh => strKey_inv hh) (fun v y hh => (by obtain ⟨a, ha, _⟩ := ptrElem_inv hh; exact ⟨a, ha⟩)) mb w.heap.size fs.length D left cnt rfl hrg ?_ ?_))
    · intro hc0 hl0
      have HST := Lib.hid (stage_none keep (fs := fs) hl0)
      have hh := hdk.head
      have HH := Lib.hid hh
      have f4 := hh.frozen 4
      have f6 := hh.frozen 6
      obtain ⟨_, _, _, _, c4, _, c6⟩ := hh.cells
      clear hrg hl0 hh
      go_wp2
      go_returns
      have hh := HH.out
      unfold HeadAt at hh
      have hbb : Beside [d] wr ((wr.setCell ⟨d, 6, none⟩ (.bool false)).setCell ⟨d, 4, none⟩ (.int .i64 (-1))) := ((Beside.refl _ _).setCell (by simp) _).setCell (by simp) _
      have hdo := Does.head (h' := { h with off := false, left := -1 }) hdk hbb (by
        unfold HeadAt
        rw [heapSame (heapSame hh)]
        simp)
      refine ⟨rfl, _, ⟨hdo.1, hbs.trans hdo.2.1 fun x hx => ?_, fun k hk => ?_⟩, HST.out⟩
      · rw [own_stage] at hx
        exact .inl hx
      · rw [own_stage] at hk
        exact .inl hk
    · intro x a kl ya yb w1 cnt1 hkey hlk hRv hat hrg1 hlt hg1 hs1 hen
      obtain rfl := strKey_of hkey
      obtain ⟨s, hs⟩ : ∃ s, s = x.data.toList := ⟨_, rfl⟩
      rw [← hs] at hkey hlk hat hrg1
      obtain ⟨a', ha', he⟩ := ptrElem_inv hRv
      simp only [Value.pointer.injEq] at ha'
      subst ha'
      simp only [Prod.mk.injEq] at he
      obtain ⟨rfl, rfl⟩ := he
      have h1 := (HSH.out.1 s).symm.trans (hat (.held none))
      have h2 := (HSH.out.2.1 s).symm.trans (Maps.has_true_of_atKey hat)
      obtain ⟨f, hf⟩ := Option.isSome_iff_exists.1 h2
      rw [hf] at h1
      simp only [at_, Option.map_some, DataW.held.injEq] at h1
      subst h1
      obtain ⟨l, m, hfs, hn1, hn2⟩ := look_split hf HNM.out
      have hst := stage_step (keep := keep) (left := left) (l := l) (m := m) (f := f) hn1 hn2 hlk (keyStr.key hkey)
      rw [← hfs] at hst
      have hd1 : DiskAt w1 d mb (stage keep left fs) h := hdk.kept fun k hk => hg1.block k (hdk.lt k hk) (by
        rw [own_stage] at hk
        intro e
        injection e with e
        exact hr0 (e ▸ hk))
      have hb1 : Beside (own d mb fs) w w1 := hbs.grown hg1 fun k hk => by injection hk with hk; exact .inr (by omega)
      have htot := total_stage keep left fs
      rw [hst.1] at hd1 htot
      have hfl := hd1.files f (by simp)
      have hsf := hd1.safe f (by simp)
      have hlen : f.p.length ≤ total (stage keep left l ++ f :: stage keep left m) := by
        rw [total_append]
        simp only [total]
        omega
      obtain ⟨g0, g1⟩ := hfl.cells
      have hd1' : DiskAt w1.drew d mb (stage keep left l ++ f :: stage keep left m) h := hd1.kept fun _ _ => rfl
      have hcut := cut_any d mb _ f _ h (f.stays keep) w1.drew hd1' (by omega) (stays_le hsf)
      have hne : mb ∉ d :: f.own ∧ w.heap.size ∉ d :: f.own := by
        obtain ⟨n1, n2, n3, n4⟩ := own_ne hd1.apart
        refine ⟨fun hm => ?_, fun hm => hr0 ?_⟩
        · simp only [List.mem_cons, Fil.own, Option.mem_toList, Option.map_eq_some_iff] at hm
          rcases hm with e | e | ⟨a, ha, e⟩
          · exact n3 e.symm
          · exact n2 e.symm
          · exact (n4 a ha).2.1 e
        · have : w.heap.size ∈ own d mb (stage keep left l ++ f :: stage keep left m) := by
            rcases List.mem_cons.1 hm with e | hm
            · simp [own, e]
            · exact mem_own_split.2 (.inl hm)
          rw [← hst.1, own_stage] at this
          exact this
      have HNE := Lib.hid hne
      obtain ⟨k2, hk2'⟩ : ∃ k2, k2 = min kp (f.p.length - f.safe) := ⟨_, rfl⟩
      have hN : ((f.stays keep : Nat) : Int) = (f.safe : Int) + (k2 : Int) := by unfold Fil.stays; rw [← HKP.out]; omega
      rw [hN] at hcut
      have hmin : min (kp : Int) ((f.p.length : Int) - (f.safe : Int)) = (k2 : Int) := by omega
      have hw1 : IntKind.i64.wrap ((f.p.length : Int) - (f.safe : Int)) = (f.p.length : Int) - (f.safe : Int) := IntWalk.i64_in _ (by omega)
      have hw2 : IntKind.i64.wrap ((f.safe : Int) + (k2 : Int)) = (f.safe : Int) + (k2 : Int) := IntWalk.i64_in _ (by omega)
      have HST := Lib.hid hst
      have HR := Lib.hid hrg1
      have HB := Lib.hid hb1
      have HS1 := Lib.hid hs1
      clear hst hrg1 hb1 hs1 hd1 hd1' hne hfl hsf hlen htot hfs hn1 hn2 hf h2 hs hkey hlk hRv hat hrg hdk hbs hg1 hN hk2'
      go_wp2
      go_still_tail 20, (by kernel_rfl)
      change wpList _ _ _ _ _ w1.drew
      go_wp2_with fail
      refine hcut.mono ?_
      rintro e w2 ⟨rfl, hdo, hbc⟩
      have hrg2 := ranges_kept HR.out (hbc.block mb HR.out.owns.lt HNE.out.1) (hbc.block w.heap.size HR.out.lt HNE.out.2)
      have hd2 : DiskAt w2 d mb (stage keep (fun z => left z && !z.sameKey (.string s)) fs) h := by
        rw [HST.out.2]
        exact hdo.1
      have hb2 : Beside (own d mb fs) w w2 := (HB.out.drew).trans hdo.2.1 fun x hx => by
        rw [← HST.out.1, own_stage] at hx
        exact .inl hx
      go_wp2
      go_roundw
      case rel => exact ⟨_, _, hrg2, hd2, hb2⟩
      case measure => rw [hrg2.left_eq, HOLD.out]; omega
end Go.Proofs.YtokfajlmephdeaaDoor.Dsk
