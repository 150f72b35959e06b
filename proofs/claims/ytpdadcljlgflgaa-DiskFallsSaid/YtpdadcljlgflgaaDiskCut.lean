/- disk.cut: its contract. -/
import Derived.Test.YtpdadcljlgflgaaDiskAct
import Derived.StillTailTactics
import Derived.BigRegion
namespace Go.Proofs.Ytpdadcljlgflgaa.Dsk
open Go Go.RowKit Go.Proofs.Ytpdadcljlgflgaa.Words
set_option linter.unusedVariables false

/-- A file of n bytes, all safe. -/
def Fil.cut (f : Fil) (n : Nat) : Fil := { f with c := n, p := f.p.take n, safe := n }

theorem own_ne {d mb : Nat} {l m : List Fil} {f : Fil} (h : (own d mb (l ++ f :: m)).Nodup) : f.g ≠ d ∧ f.g ≠ mb ∧ d ≠ mb ∧ ∀ a, f.A = some a → a.block ≠ d ∧ a.block ≠ mb ∧ a.block ≠ f.g := by
  obtain ⟨a1, a2, a3⟩ := own_self h
  have hd : d ∈ own d mb (l ++ m) := by simp [own]
  have hm : mb ∈ own d mb (l ++ m) := by simp [own]
  refine ⟨fun e => a3 f.g (by simp [Fil.own]) (e ▸ hd), fun e => a3 f.g (by simp [Fil.own]) (e ▸ hm), fun e => ?_, fun a ha => ⟨fun e => a3 a.block (by simp [Fil.own, ha]) (e ▸ hd), fun e => a3 a.block (by simp [Fil.own, ha]) (e ▸ hm), fun e => ?_⟩⟩
  · unfold own at a2
    rw [List.nodup_cons] at a2
    exact a2.1 (by simp [e])
  · simp [Fil.own, ha] at a1
    exact a1 e.symm

set_option maxRecDepth 100000 in
theorem cut_any (d mb : Nat) (l : List Fil) (f : Fil) (m : List Fil) (h : Hd) (n : Nat) (w : World) (hd : DiskAt w d mb (l ++ f :: m) h) (ht : total (l ++ f :: m) ≤ 1000000000000) (hn : n ≤ f.p.length) :
    Calls Try.prog 18 #[.pointer (some ⟨d, 0, none⟩), .pointer (some ⟨f.g, 0, none⟩), .int .i64 (n : Int)] w fun e w' => e = .returned (.tuple #[]) ∧ Does d mb (l ++ f :: m) w (l ++ f.cut n :: m) h w' ∧ Beside (d :: f.own) w w' := by
  have hfl := hd.files f (by simp)
  obtain ⟨n1, n2, n3, n4⟩ := own_ne hd.apart
  obtain ⟨_, _, c2, _⟩ := hd.head.cells
  obtain ⟨g0, g1⟩ := hfl.cells
  have f2 := hd.head.frozen 2
  have q0 := hfl.frozen 0
  have q1 := hfl.frozen 1
  have hcap := hfl.2.cap
  have htot : total (l ++ f.cut n :: m) + f.p.length = total (l ++ f :: m) + n := by
    rw [total_append, total_append]
    simp only [total, Fil.cut, List.length_take]
    omega
  have hle : f.p.length ≤ total (l ++ f :: m) := by
    rw [total_append]
    simp only [total]
    omega
  have hfl0 := hfl
  have HH := Lib.hid hd.head
  have HD := Lib.hid hd
  have HT := Lib.hid htot
  have NE := Lib.hid n1
  have NE2 := Lib.hid n4
  obtain ⟨len, hlen⟩ : ∃ len, len = f.p.length := ⟨_, rfl⟩
  rw [← hlen] at g0 hle hcap hn
  obtain ⟨cap, hc⟩ : ∃ cap, cap = f.c := ⟨_, rfl⟩
  rw [← hc] at g0 hcap
  obtain ⟨tot, htt⟩ : ∃ tot, tot = total (l ++ f :: m) := ⟨_, rfl⟩
  rw [← htt] at c2 hle ht
  have HL := Lib.hid hlen
  have HTT := Lib.hid htt
  have hw1 : IntKind.i64.wrap ((len : Int) - (n : Int)) = (len : Int) - (n : Int) := IntWalk.i64_in _ (by omega)
  have hw2 : IntKind.i64.wrap ((tot : Int) - ((len : Int) - (n : Int))) = (tot : Int) - ((len : Int) - (n : Int)) := IntWalk.i64_in _ (by omega)
  clear hd hfl hlen htt htot n4 n2 n3
  have hn2 : n ≤ cap := by omega
  go_enter Try.func18, Try.ntmps18
  go_wp2
  go_still_tail 14, (by kernel_rfl)
  change wpList _ _ _ _ _ w.drew
  go_wp2
  go_end0
  have hd := HD.out
  have hh := HH.out
  have hn4 := NE2.out
  have htot := HT.out
  have hlen := HL.out
  have htt := HTT.out
  unfold HeadAt at hh
  refine ⟨rfl, ⟨hd.turnFile (f := f) ((((((Beside.refl _ _).setCell (by simp) _).setCell (by simp [Fil.own]) _).setCell (by simp [Fil.own]) _).drew)) ?_ ⟨?_, ?_⟩ rfl rfl (fun k hk => .inl hk) (own_self hd.apart).1 (by simp [Fil.cut]; omega), ?_, ?_⟩, (((((Beside.refl _ _).setCell (by simp) _).setCell (by simp [Fil.own]) _).setCell (by simp [Fil.own]) _).drew)⟩
  · unfold HeadAt
    show (((w.setCell _ _).setCell _ _).setCell _ _).heap[d]? = _
    rw [heapOther (Ne.symm n1), heapOther (Ne.symm n1), heapSame hh]
    have e : (tot : Int) - ((len : Int) - (n : Int)) = ((total (l ++ f.cut n :: m) : Nat) : Int) := by omega
    rw [e]
    simp
  · show (((w.setCell _ _).setCell _ _).setCell _ _).heap[f.g]? = _
    rw [heapSame (heapSame ((heapOther n1).trans hfl0.1))]
    have e : (f.cut n).p.length = n := by simp [Fil.cut]; omega
    rw [e]
    rfl
  · have e : (f.cut n).p.length = n := by simp [Fil.cut]; omega
    rw [e]
    refine (hfl0.2.cut (k := n) (by omega)).kept fun a ha => ?_
    obtain ⟨b1, _, b3⟩ := hn4 a ha
    show (((w.setCell _ _).setCell _ _).setCell _ _).heap[a.block]? = _
    rw [heapOther b3, heapOther b3, heapOther b1]
  · exact (((((Beside.refl _ _).setCell (by simp [own]) _).setCell (mem_own_split.2 (.inl (by simp [Fil.own]))) _).setCell (mem_own_split.2 (.inl (by simp [Fil.own]))) _).drew)
  · intro k hk
    rw [mem_own_split] at hk
    exact .inl (mem_own_split.2 hk)
end Go.Proofs.Ytpdadcljlgflgaa.Dsk
