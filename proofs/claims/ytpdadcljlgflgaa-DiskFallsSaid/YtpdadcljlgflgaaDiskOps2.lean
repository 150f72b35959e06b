/- disk.Sync, Read, Safe: their contracts. -/
import Derived.Test.YtpdadcljlgflgaaDiskOps
namespace Go.Proofs.Ytpdadcljlgflgaa.Dsk
open Go Go.RowKit Go.Proofs.Ytpdadcljlgflgaa.Words
set_option linter.unusedVariables false

/-- What an operation on a file that must be there answers. -/
def thereE (h : Hd) (s : List UInt8) (fs : List File) : Int := if h.may then (if (lookA s fs).isSome then 0 else 2) else 7
/-- .. and what it leaves. -/
def thereF (h : Hd) (s : List UInt8) (g : File → File) (fs : List File) : List File := if h.may then upd s g fs else fs
theorem upd_none {s : List UInt8} {g : File → File} {fs : List Fil} (h : look s fs = none) : upd s g (abs fs) = abs fs := by
  simp only [upd, abs, List.map_map]
  apply List.map_congr_left
  intro x hx
  simp only [Function.comp_apply]
  rw [if_neg (by simpa [Fil.abs] using look_none.1 h x hx)]
def syncG (f : File) : File := { f with safe := f.p.length }

set_option maxRecDepth 100000 in
theorem sync_any (d mb : Nat) (fs : List Fil) (h : Hd) (s : List UInt8) (w : World) (hd : DiskAt w d mb fs h) (hf : h.fits) (hs2 : s.length ≤ 100000) (ht : total fs ≤ 1000000000000) :
    Calls Try.prog 7 #[.pointer (some ⟨d, 0, none⟩), .string ⟨s.toArray⟩] w fun e w' => e = .returned (.int .i64 (thereE h s (abs fs))) ∧ Makes d mb fs w (thereF h s syncG (abs fs)) h.act w' := by
  cases hm : h.may with
  | false =>
    have e1 : thereE h s (abs fs) = 7 := by simp [thereE, hm]
    have e2 : thereF h s syncG (abs fs) = abs fs := by simp [thereF, hm]
    rw [e1, e2]
    clear e1 e2
    go_enter Try.func7, Try.ntmps7
    go_wp2_with fail
    refine (open_any d mb fs h s w hd hf hs2).mono ?_
    rintro e w1 ⟨rfl, hdo⟩
    rw [hm, show openE false (look s fs) = 7 from rfl]
    go_wp2
    go_returns
    exact ⟨rfl, Makes.after hdo (makes_same hdo.1)⟩
  | true =>
    cases hl : look s fs with
    | none =>
      have e1 : thereE h s (abs fs) = 2 := by simp [thereE, hm, lookA_abs, hl]
      have e2 : thereF h s syncG (abs fs) = abs fs := by simp [thereF, hm, upd_none hl]
      rw [e1, e2]
      clear e1 e2
      have e3 : openE true (look s fs) = 2 := by rw [hl]; rfl
      have E3 := Lib.hid e3
      clear e3 hl
      go_enter Try.func7, Try.ntmps7
      go_wp2_with fail
      refine (open_any d mb fs h s w hd hf hs2).mono ?_
      rintro e w1 ⟨rfl, hdo⟩
      rw [hm, E3.out]
      go_wp2
      go_returns
      exact ⟨rfl, Makes.after hdo (makes_same hdo.1)⟩
    | some f =>
      have e1 : thereE h s (abs fs) = 0 := by simp [thereE, hm, lookA_abs, hl]
      have e2 : thereF h s syncG (abs fs) = upd s syncG (abs fs) := by simp [thereF, hm]
      rw [e1, e2]
      clear e1 e2
      have e3 : openE true (look s fs) = 0 := by rw [hl]; rfl
      have e4 : openP true (look s fs) = some ⟨f.g, 0, none⟩ := by rw [hl]; rfl
      obtain ⟨l, m, rfl, hn1, hn2⟩ := look_split hl hd.names
      have E3 := Lib.hid e3
      have E4 := Lib.hid e4
      have N1 := Lib.hid hn1
      have N2 := Lib.hid hn2
      clear e3 e4 hl hn1 hn2
      go_enter Try.func7, Try.ntmps7
      go_wp2_with fail
      refine (open_any d mb _ h s w hd hf hs2).mono ?_
      rintro e w1 ⟨rfl, hdo⟩
      rw [hm, E3.out, E4.out]
      have hfl := hdo.1.files f (by simp)
      obtain ⟨g0, g1⟩ := hfl.cells
      have q1 := hfl.frozen 1
      have HF := Lib.hid hfl
      clear hfl
      go_wp2
      go_returns
      have hd1 := hdo.1
      obtain ⟨n1, n2, n3, n4⟩ := own_ne hd1.apart
      have hbes : Beside (d :: f.own) w1 (w1.setCell ⟨f.g, 1, none⟩ (.int .i64 (f.p.length : Int))) := (Beside.refl _ _).setCell (by simp [Fil.own]) _
      have hle := hd1.safe f (by simp)
      refine ⟨rfl, Makes.after hdo ⟨_, ⟨hd1.turnFile (f' := { f with safe := f.p.length }) hbes ?_ ⟨?_, ?_⟩ rfl rfl (fun k hk => .inl hk) (own_self hd1.apart).1 (Nat.le_refl _), hbes.wider ?_, ?_⟩, upd_split N1.out N2.out rfl⟩⟩
      · have e : total (l ++ ({ f with safe := f.p.length } : Fil) :: m) = total (l ++ f :: m) := by simp [total_append, total]
        rw [e]
        exact (heapOther (Ne.symm n1)).trans hd1.head
      · exact (heapSame HF.out.1).trans (by simp)
      · refine HF.out.2.kept fun a ha => heapOther (n4 a ha).2.2
      · intro x hx
        rcases List.mem_cons.1 hx with rfl | hx
        · exact .inl (by simp [own])
        · exact .inl (mem_own_split.2 (.inl hx))
      · intro k hk
        rw [mem_own_split] at hk
        exact .inl (mem_own_split.2 hk)

/-- What Read tells: the bytes, the error. -/
def readP (h : Hd) (s : List UInt8) (fs : List File) : List UInt8 := if h.off then [] else match lookA s fs with | some f => f.p | none => []
def readE (h : Hd) (s : List UInt8) (fs : List File) : Int := if h.off then 7 else if (lookA s fs).isSome then 0 else 2
def Tells (l : List UInt8) (x : Int) (w : World) (e : Ending) (w' : World) : Prop :=
  ∃ A c, e = .returned (.tuple #[.slice A l.length c, .int .i64 x]) ∧ w'.ownsRow w.heap.size 5 1 (.slice A l.length c) l.length (cs l) ∧ Below w.heap.size w w'

set_option maxRecDepth 100000 in
theorem read_any (d mb : Nat) (fs : List Fil) (h : Hd) (s : List UInt8) (w : World) (hd : DiskAt w d mb fs h) (hs2 : s.length ≤ 100000) (ht : total fs ≤ 1000000000000) :
    Calls Try.prog 9 #[.pointer (some ⟨d, 0, none⟩), .string ⟨s.toArray⟩] w (Tells (readP h s (abs fs)) (readE h s (abs fs)) w) := by
  cases hoff : h.off with
  | true =>
    have e1 : readP h s (abs fs) = [] := by simp [readP, hoff]
    have e2 : readE h s (abs fs) = 7 := by simp [readE, hoff]
    rw [e1, e2]
    clear e1 e2
    go_enter Try.func9, Try.ntmps9
    go_wp2_with fail
    refine (on_any d mb fs h w hd).mono ?_
    rintro e w1 ⟨rfl, rfl⟩
    rw [hoff]
    go_wp2
    go_returns
    exact ⟨none, 0, rfl, Own.nil _ _ _, Below.refl _ _⟩
  | false =>
    obtain ⟨c0, _⟩ := hd.head.cells
    have hlk := hd.map.run_look hs2
    cases hl : look s fs with
    | none =>
      have e1 : readP h s (abs fs) = [] := by simp [readP, hoff, lookA_abs, hl]
      have e2 : readE h s (abs fs) = 2 := by simp [readE, hoff, lookA_abs, hl]
      rw [e1, e2]
      clear e1 e2
      rw [hl, show at_ none = none from rfl] at hlk
      clear hl
      go_enter Try.func9, Try.ntmps9
      go_wp2_with fail
      refine (on_any d mb fs h w hd).mono ?_
      rintro e w1 ⟨rfl, rfl⟩
      rw [hoff]
      go_wp2
      go_returns
      exact ⟨none, 0, rfl, Own.nil _ _ _, Below.refl _ _⟩
    | some f =>
      have e1 : readP h s (abs fs) = f.p := by simp [readP, hoff, lookA_abs, hl, Fil.abs]
      have e2 : readE h s (abs fs) = 0 := by simp [readE, hoff, lookA_abs, hl]
      rw [e1, e2]
      clear e1 e2
      rw [hl, show at_ (some f) = some ⟨f.g, 0, none⟩ from rfl] at hlk
      have hm := (look_mem hl).1
      have hfl := hd.files f hm
      have hle : f.p.length ≤ total fs := by
        obtain ⟨l, m, rfl⟩ := List.append_of_mem hm
        rw [total_append]
        simp only [total]
        omega
      obtain ⟨g0, g1⟩ := hfl.cells
      have HF := Lib.hid hfl
      clear hl hm hfl
      go_enter Try.func9, Try.ntmps9
      go_wp2_with fail
      refine (on_any d mb fs h w hd).mono ?_
      rintro e w1 ⟨rfl, rfl⟩
      rw [hoff]
      go_wp2_with fail
      refine (clone_bytes f.A f.p.length f.c f.p w HF.out.2.sees (by omega)).mono ?_
      rintro e w1 ⟨A1, c1, rfl, hown, hb⟩
      go_wp2
      go_returns
      exact ⟨A1, c1, rfl, hown, hb⟩

def safeN (s : List UInt8) (fs : List File) : Nat := match lookA s fs with | some f => f.safe | none => 0
set_option maxRecDepth 100000 in
theorem safe_any (d mb : Nat) (fs : List Fil) (h : Hd) (s : List UInt8) (w : World) (hd : DiskAt w d mb fs h) (hs2 : s.length ≤ 100000) :
    Calls Try.prog 10 #[.pointer (some ⟨d, 0, none⟩), .string ⟨s.toArray⟩] w fun e w' => e = .returned (.int .i64 (safeN s (abs fs) : Int)) ∧ w = w' := by
  obtain ⟨c0, _⟩ := hd.head.cells
  have hlk := hd.map.run_look hs2
  cases hl : look s fs with
  | none =>
    have e1 : safeN s (abs fs) = 0 := by simp [safeN, lookA_abs, hl]
    rw [e1]
    rw [hl, show at_ none = none from rfl] at hlk
    clear hl e1
    go_enter Try.func10, Try.ntmps10
    go_wp2
    go_returns
    exact ⟨rfl, rfl⟩
  | some f =>
    have e1 : safeN s (abs fs) = f.safe := by simp [safeN, lookA_abs, hl, Fil.abs]
    rw [e1]
    rw [hl, show at_ (some f) = some ⟨f.g, 0, none⟩ from rfl] at hlk
    obtain ⟨g0, g1⟩ := (hd.files f (look_mem hl).1).cells
    clear hl e1
    go_enter Try.func10, Try.ntmps10
    go_wp2
    go_returns
    exact ⟨rfl, rfl⟩
end Go.Proofs.Ytpdadcljlgflgaa.Dsk
