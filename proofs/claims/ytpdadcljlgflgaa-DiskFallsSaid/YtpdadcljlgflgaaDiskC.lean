/- Package disk, for whoever calls it: a disk as a list of files, and what it owns. -/
import Derived.Test.YtpdadcljlgflgaaDiskCrash
namespace Go.Proofs.Ytpdadcljlgflgaa.Dsk
open Go Go.RowKit Go.Proofs.Ytpdadcljlgflgaa.Words
set_option linter.unusedVariables false

/-- A disk with these files lies at block d; it owns the blocks S. -/
def Disk (w : World) (d : Nat) (S : List Nat) (files : List File) (h : Hd) : Prop := ∃ mb fs, DiskAt w d mb fs h ∧ abs fs = files ∧ S = own d mb fs
/-- Behind a call on it: what it is now; what it owns beyond what it owned is new; nothing else has turned. -/
def Next (S : List Nat) (w : World) (d : Nat) (files : List File) (h : Hd) (w' : World) : Prop :=
  ∃ S', Disk w' d S' files h ∧ Beside S w w' ∧ ∀ k ∈ S', k ∈ S ∨ w.heap.size ≤ k

theorem Disk.lt {w : World} {d : Nat} {S : List Nat} {files : List File} {h : Hd} (hd : Disk w d S files h) : ∀ k ∈ S, k < w.heap.size := by
  obtain ⟨mb, fs, ha, _, rfl⟩ := hd
  exact ha.lt
theorem Disk.beside {w w' : World} {d : Nat} {S T : List Nat} {files : List File} {h : Hd} (hd : Disk w d S files h) (hb : Beside T w w') (hT : ∀ x ∈ T, x ∉ S) : Disk w' d S files h := by
  obtain ⟨mb, fs, ha, hf, rfl⟩ := hd
  exact ⟨mb, fs, ha.beside hb hT, hf, rfl⟩
theorem Disk.below {w w' : World} {d : Nat} {S : List Nat} {files : List File} {h : Hd} (hd : Disk w d S files h) (hb : Below w.heap.size w w') : Disk w' d S files h := by
  obtain ⟨mb, fs, ha, hf, rfl⟩ := hd
  exact ⟨mb, fs, ha.below hb, hf, rfl⟩
theorem next_of_makes {d mb : Nat} {fs : List Fil} {w w' : World} {files : List File} {h : Hd} (hm : Makes d mb fs w files h w') : Next (own d mb fs) w d files h w' := by
  obtain ⟨fs', hdo, hf⟩ := hm
  exact ⟨_, ⟨mb, fs', hdo.1, hf, rfl⟩, hdo.2.1, hdo.2.2⟩
/-- Two steps of the whole: what was owned at first. -/
theorem Next.step {S : List Nat} {w w1 w2 : World} {d : Nat} {f1 f2 : List File} {h1 h2 : Hd} {S1 : List Nat} (hb : Beside S w w1) (hS : ∀ k ∈ S1, k ∈ S ∨ w.heap.size ≤ k) (hn : Next S1 w1 d f2 h2 w2) : Next S w d f2 h2 w2 := by
  obtain ⟨S2, hd, hb2, hs2⟩ := hn
  refine ⟨S2, hd, hb.trans hb2 hS, fun k hk => ?_⟩
  rcases hs2 k hk with h | h
  · exact hS k h
  · have := hb.size; exact .inr (by omega)

theorem newC (room : Int) (w : World) :
    Calls Try.prog 5 #[.int .i64 room] w fun e w' => ∃ d S, e = .returned (.pointer (some ⟨d, 0, none⟩)) ∧ Disk w' d S [] ⟨room, 0, -1, 0, false⟩ ∧ (∀ k ∈ S, w.heap.size ≤ k) ∧ Below w.heap.size w w' := by
  refine (new_any room w).mono ?_
  rintro e w' ⟨rfl, hd, hb⟩
  exact ⟨_, _, rfl, ⟨_, [], hd, rfl, rfl⟩, fun k hk => by simp [own] at hk; omega, hb⟩

theorem appendC (d : Nat) (S : List Nat) (files : List File) (h : Hd) (s : List UInt8) (A : Option Addr) (n c : Nat) (q : List UInt8) (w : World) (hd : Disk w d S files h) (hf : h.fits) (ha : h.acts < 1000000000000) (hs : okName s = true)
    (ht : sumA files ≤ 1000000000000) (hfs : files.length < 1000000000000) (hn : n ≤ 1000000000000) (hnc : n ≤ c) (hcc : c ≤ 9223372036854775807) (hq : Sees w A n q) (hout : Out S A n) :
    Calls Try.prog 6 #[.pointer (some ⟨d, 0, none⟩), .string ⟨s.toArray⟩, .slice A n c] w fun e w' => e = .returned (.int .i64 (appE h s q files)) ∧ Next S w d (appF h s q files) h.act w' := by
  obtain ⟨mb, fs, hda, rfl, rfl⟩ := hd
  refine (append_any d mb fs h s A n c q w hda hf ha hs (by rw [← sumA_abs]; exact ht) (by simpa [abs] using hfs) hn hnc hcc hq hout).mono ?_
  rintro e w' ⟨rfl, hm⟩
  exact ⟨rfl, next_of_makes hm⟩

theorem syncC (d : Nat) (S : List Nat) (files : List File) (h : Hd) (s : List UInt8) (w : World) (hd : Disk w d S files h) (hf : h.fits) (hs2 : s.length ≤ 100000) (ht : sumA files ≤ 1000000000000) :
    Calls Try.prog 7 #[.pointer (some ⟨d, 0, none⟩), .string ⟨s.toArray⟩] w fun e w' => e = .returned (.int .i64 (thereE h s files)) ∧ Next S w d (thereF h s syncG files) h.act w' := by
  obtain ⟨mb, fs, hda, rfl, rfl⟩ := hd
  refine (sync_any d mb fs h s w hda hf hs2 (by rw [← sumA_abs]; exact ht)).mono ?_
  rintro e w' ⟨rfl, hm⟩
  exact ⟨rfl, next_of_makes hm⟩

theorem readC (d : Nat) (S : List Nat) (files : List File) (h : Hd) (s : List UInt8) (w : World) (hd : Disk w d S files h) (hs2 : s.length ≤ 100000) (ht : sumA files ≤ 1000000000000) :
    Calls Try.prog 9 #[.pointer (some ⟨d, 0, none⟩), .string ⟨s.toArray⟩] w (Tells (readP h s files) (readE h s files) w) := by
  obtain ⟨mb, fs, hda, rfl, rfl⟩ := hd
  exact read_any d mb fs h s w hda hs2 (by rw [← sumA_abs]; exact ht)

theorem safeC (d : Nat) (S : List Nat) (files : List File) (h : Hd) (s : List UInt8) (w : World) (hd : Disk w d S files h) (hs2 : s.length ≤ 100000) :
    Calls Try.prog 10 #[.pointer (some ⟨d, 0, none⟩), .string ⟨s.toArray⟩] w fun e w' => e = .returned (.int .i64 (safeN s files : Int)) ∧ w = w' := by
  obtain ⟨mb, fs, hda, rfl, rfl⟩ := hd
  exact safe_any d mb fs h s w hda hs2

theorem crashC (d : Nat) (S : List Nat) (files : List File) (h : Hd) (keep : Int) (w : World) (hd : Disk w d S files h) (ht : sumA files ≤ 1000000000000) (hk1 : -9223372036854775808 ≤ keep) (hk2 : keep ≤ 9223372036854775807) :
    Calls Try.prog 8 #[.pointer (some ⟨d, 0, none⟩), .int .i64 keep] w fun e w' => e = .returned (.tuple #[]) ∧ Next S w d (files.map (crashG keep)) { h with off := false, left := -1 } w' := by
  obtain ⟨mb, fs, hda, rfl, rfl⟩ := hd
  refine (crash_any d mb fs h keep w hda (by rw [← sumA_abs]; exact ht) hk1 hk2).mono ?_
  rintro e w' ⟨rfl, hm⟩
  exact ⟨rfl, next_of_makes hm⟩
end Go.Proofs.Ytpdadcljlgflgaa.Dsk
