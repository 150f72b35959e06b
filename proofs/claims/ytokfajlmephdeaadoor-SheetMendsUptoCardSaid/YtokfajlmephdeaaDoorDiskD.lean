/- disk.Names, of a disk that has one file; slices.Sort of one text. Package disk, for whoever calls it: a disk as a list of files, and what it owns. Package disk, for whoever calls it: Arm, Widen, Cut, Remove, Move, Names. -/
import Derived.Test.YtokfajlmephdeaaDoorDiskMore
import Derived.Lib.Hide
import Derived.WalkSpells
import Derived.Test.YtokfajlmephdeaaDoorDiskCrash
namespace Go.Proofs.YtokfajlmephdeaaDoor.Dsk
open Go Go.RowKit Go.Proofs.YtokfajlmephdeaaDoor.Words
set_option linter.unusedVariables false

theorem infoStr : (Tryd.prog.info? 9).map (fun i => (i.zero, i.size, i.bytes)) = some (some (.string ByteArray.empty), 1, 16) := by kernel_rfl

set_option maxRecDepth 100000 in
theorem insert_one (A : Option Addr) (c : Nat) (w : World) :
    Calls Tryd.prog 76 #[.slice A 1 c, .int .i64 0, .int .i64 1] w fun e w' => e = .returned (.tuple #[]) ∧ w = w' := by
  go_enter Tryd.func76, Tryd.ntmps76
  go_wp2_with fail
  go_loopw [6] (fun v wr => v = .int .i64 1 ∧ wr = w) (fun _ _ => 0)
  case atStart => exact ⟨rfl, rfl⟩
  case round =>
    obtain ⟨rfl, rfl⟩ := hrel
    go_wp2
    go_returns
    exact ⟨rfl, rfl⟩

set_option maxRecDepth 100000 in
theorem pdq_one (A : Option Addr) (c : Nat) (k : Int) (w : World) :
    Calls Tryd.prog 61 #[.slice A 1 c, .int .i64 0, .int .i64 1, .int .i64 k] w fun e w' => e = .returned (.tuple #[]) ∧ w = w' := by
  go_enter Tryd.func61, Tryd.ntmps61
  go_wp2_with fail
  go_loopw [1, 2] (fun u v wr => u = .int .i64 0 ∧ v = .int .i64 1 ∧ wr = w) (fun _ _ _ => 0)
  case atStart => exact ⟨rfl, rfl, rfl⟩
  case round =>
    obtain ⟨rfl, rfl, rfl⟩ := hrel
    go_wp2_with fail
    refine (insert_one A c _).mono ?_
    rintro e w1 ⟨rfl, rfl⟩
    go_wp2
    go_returns
    exact ⟨rfl, rfl⟩

set_option maxRecDepth 100000 in
theorem sort_one (A : Option Addr) (c : Nat) (w : World) :
    Calls Tryd.prog 46 #[.slice A 1 c] w fun e w' => e = .returned (.tuple #[]) ∧ w = w' := by
  go_enter Tryd.func46, Tryd.ntmps46
  go_wp2_with fail
  refine (Tryd.bits_Len 1 w (by omega) (by omega)).mono ?_
  rintro e w1 ⟨rfl, rfl⟩
  go_wp2_with fail
  refine (pdq_one A c _ w1).mono ?_
  rintro e w2 ⟨rfl, rfl⟩
  go_wp2
  go_returns
  exact ⟨rfl, rfl⟩

set_option maxRecDepth 100000 in
theorem names_one (d mb : Nat) (f : Fil) (h : Hd) (w : World) (hd : DiskAt w d mb [f] h) (hoff : h.off = false) (hlen : f.name.length ≤ 100000) :
    Calls Tryd.prog 23 #[.pointer (some ⟨d, 0, none⟩), .string ByteArray.empty] w fun e w' => ∃ A c, e = .returned (.slice A 1 c) ∧ Below w.heap.size w w' := by
  obtain ⟨c0, _⟩ := hd.head.cells
  obtain ⟨i, hi, hz, hsz, hby⟩ := info_parts infoStr
  obtain ⟨D, hown, hsh⟩ := hd.map
  have hmlt := hd.map.lt
  have HSH := Lib.hid hsh
  clear hsh
  go_enter Tryd.func23, Tryd.ntmps23
  go_wp2_with fail
  refine (on_any d mb [f] h w hd).mono ?_
  rintro e w1 ⟨rfl, rfl⟩
  rw [hoff]
  go_wp2_with (first | (at_range; refine wpList_range_own _ rfl _ 55 rfl 9 61 keyStr Tryd.underlying55 ptrElem mb [f].length D rfl hown ?_; intro w0 hrg0 hg0 hs0))
  go_frame
  go_loopw [5] (fun v wr => ∃ left cnt A c vs, wr.ranges Tryd.prog 9 ptrElem mb w.heap.size [f].length D left cnt ∧ Below w.heap.size w wr ∧
      ((v = .slice none 0 0 ∧ left (.string f.name) = true) ∨ (v = .slice A 1 c ∧ left (.string f.name) = false ∧ wr.ownsRow (w.heap.size + 1) 9 1 (.slice A 1 c) 1 vs))) (fun _ wr => wr.rangeLeft mb w.heap.size)
  case atStart =>
    refine ⟨_, _, none, 0, [], hrg0, (Below.refl _ _).grown hg0 (by omega) (fun k hk => by cases hk), .inl ⟨rfl, ?_⟩⟩
    rw [HSH.out.2.1]
    simp [look]
  case round =>
    obtain ⟨left, cnt, A, c, vs, hrg, hbs, hcase⟩ := hrel
    have HOLD := Lib.hid hrg.left_eq
    have hrlt := hrg.lt
    clear hg0 hs0 hrg0
    go_wp2_with (first | (at_next; refine wpList_next_ranges _ rfl _ rfl 9 keyStr ptrElem Value.string Value.pointer (fun _ _ hh => strKey_inv hh) (fun v y hh => (by obtain ⟨a, ha, _⟩ := ptrElem_inv hh; exact ⟨a, ha⟩)) mb w.heap.size [f].length D left cnt rfl hrg ?_ ?_))
    · intro hc0 hl0
      rcases hcase with ⟨rfl, hl⟩ | ⟨rfl, hl, hv⟩
      · rw [hl0] at hl; cases hl
      · clear hrg hl0
        go_wp2_with fail
        refine (sort_one A c wr).mono ?_
        rintro e w5 ⟨rfl, rfl⟩
        go_wp2
        go_returns
        exact ⟨A, c, rfl, hbs⟩
    · intro x a kl ya yb w1 cnt1 hkey hlk hRv hat hrg1 hlt hg1 hs1 hen
      obtain rfl := strKey_of hkey
      obtain ⟨s, hs⟩ : ∃ s, s = x.data.toList := ⟨_, rfl⟩
      rw [← hs] at hkey hlk hat hrg1
      have h2 := (HSH.out.2.1 s).symm.trans (Maps.has_true_of_atKey hat)
      have hfs : f.name = s := by
        by_cases e : f.name = s
        · exact e
        · simp [look, e] at h2
      rcases hcase with ⟨rfl, hl⟩ | ⟨rfl, hl, hv⟩
      · have hb1 : Below w.heap.size w w1 := hbs.grown hg1 hbs.size fun k hk => by injection hk with hk; omega
        have hgone : (fun z => left z && !z.sameKey (.string s)) (.string f.name) = false := by
          simp [hfs, WideAt.sameKey_self (keyStr.key hkey)]
        have HG := Lib.hid hgone
        have HS := Lib.hid hs
        have hr1lt := hrg1.lt
        clear hgone hs hl hlk hat hRv hkey h2 hs1
        go_wp2_with fail
        refine (Tryd.strings_HasPrefix x ByteArray.empty w1).mono ?_
        rintro e w2 ⟨rfl, rfl⟩
        rw [show Lib.hasPrefix x.data.toList ByteArray.empty.data.toList = true by simp [Lib.hasPrefix]]
        go_wp2_with (first | (at_builtin; go_must (refine wpList_append_own _ rfl _ _ 50 rfl (w.heap.size + 1) 9 i (.string ByteArray.empty) 1 16 Tryd.underlying50 hi hz hsz hby rfl (by decide) (.slice none 0 0) 0 [] rfl (World.ownsRow_nil _ _ _ _) ⟨w2.heap.size, 0, none⟩ 1 1 [.string x] rfl rfl ?c1 ?c2 ?c3 ?c4 ?c5 ?_)))
        case c1 =>
          intro j u hj
          match j, hj with
          | 0, hj => simp at hj; subst hj; simp [Addr.add]
        case c2 => intro u hu; simp at hu; subst hu; rfl
        case c3 => unfold maxLen; omega
        case c4 => omega
        case c5 => simp; omega
        intro v' w3 hown3 hgrow _
        have hb3 : Below w2.heap.size (w2.alloc (.cells #[.string x] 9)) w3 := (Below.refl _ _).grown hgrow (by simp) (fun g hg => by cases hg)
        have hb23 : Below w2.heap.size w2 w3 := ((Below.refl _ _).alloc (Nat.le_refl _) _).trans hb3
        have hrg3 := ranges_kept hrg1 (hb23.block mb (by have := hb1.size; omega)) (hb23.block w.heap.size hr1lt)
        obtain ⟨A3, c3, rfl, _⟩ := Own.shape hown3
        go_wp2
        go_roundw
        case rel => exact ⟨_, _, A3, c3, _, hrg3, hb1.trans (hb23.mono hb1.size), .inr ⟨rfl, HG.out, hown3⟩⟩
        case measure => rw [hrg3.left_eq, HOLD.out]; omega
      · rw [hfs] at hl
        rw [hl] at hlk
        cases hlk
end Go.Proofs.YtokfajlmephdeaaDoor.Dsk
namespace Go.Proofs.YtokfajlmephdeaaDoor.Dsk
open Go Go.RowKit Go.Proofs.YtokfajlmephdeaaDoor.Words
set_option linter.unusedVariables false

/-- A disk with these files lies at block d; it owns the blocks S. -/
def Disk (w : World) (d : Nat) (S : List Nat) (files : List File) (h : Hd) : Prop := ∃ mb fs, DiskAt w d mb fs h ∧ abs fs = files ∧ S = own d mb fs
/-- Behind a call on it: what it is now; what it owns beyond what it owned is new; nothing else has turned. -/
def Next (S : List Nat) (w : World) (d : Nat) (files : List File) (h : Hd) (w' : World) : Prop :=
  ∃ S', Disk w' d S' files h ∧ Beside S w w' ∧ ∀ k ∈ S', k ∈ S ∨ w.heap.size ≤ k

theorem Disk.lt {w : World} {d : Nat} {S : List Nat} {files : List File} {h : Hd} (hd : Disk w d S files h) : ∀ k ∈ S, k < w.heap.size := by
  obtain ⟨mb, fs, ha, _, rfl⟩ := hd
  exact ha.lt
theorem Disk.beside {w w' : World} {d : Nat} {S T : List Nat} {files : List File} {h : Hd} (hd : Disk w d S files h) (hb : Beside T w w') (hT : ∀ x ∈ T, x ∉ S) : Disk w' d S files h := by
  obtain ⟨mb, fs, ha, hf, rfl⟩ := hd
  exact ⟨mb, fs, ha.beside hb hT, hf, rfl⟩
theorem Disk.below {w w' : World} {d : Nat} {S : List Nat} {files : List File} {h : Hd} (hd : Disk w d S files h) (hb : Below w.heap.size w w') : Disk w' d S files h := by
  obtain ⟨mb, fs, ha, hf, rfl⟩ := hd
  exact ⟨mb, fs, ha.below hb, hf, rfl⟩
theorem next_of_makes {d mb : Nat} {fs : List Fil} {w w' : World} {files : List File} {h : Hd} (hm : Makes d mb fs w files h w') : Next (own d mb fs) w d files h w' := by
  obtain ⟨fs', hdo, hf⟩ := hm
  exact ⟨_, ⟨mb, fs', hdo.1, hf, rfl⟩, hdo.2.1, hdo.2.2⟩
/-- Two steps of the whole: what was owned at first. -/
theorem Next.step {S : List Nat} {w w1 w2 : World} {d : Nat} {f2 : List File} {h2 : Hd} {S1 : List Nat} (hb : Beside S w w1) (hS : ∀ k ∈ S1, k ∈ S ∨ w.heap.size ≤ k) (hn : Next S1 w1 d f2 h2 w2) : Next S w d f2 h2 w2 := by
  obtain ⟨S2, hd, hb2, hs2⟩ := hn
  refine ⟨S2, hd, hb.trans hb2 hS, fun k hk => ?_⟩
  rcases hs2 k hk with h | h
  · exact hS k h
  · have := hb.size; exact .inr (by omega)

theorem newC (room : Int) (w : World) :
    Calls Tryd.prog 10 #[.int .i64 room] w fun e w' => ∃ d S, e = .returned (.pointer (some ⟨d, 0, none⟩)) ∧ Disk w' d S [] ⟨room, 0, -1, 0, false⟩ ∧ (∀ k ∈ S, w.heap.size ≤ k) ∧ Below w.heap.size w w' := by
  refine (new_any room w).mono ?_
  rintro e w' ⟨rfl, hd, hb⟩
  exact ⟨_, _, rfl, ⟨_, [], hd, rfl, rfl⟩, fun k hk => by simp [own] at hk; omega, hb⟩

theorem appendC (d : Nat) (S : List Nat) (files : List File) (h : Hd) (s : List UInt8) (A : Option Addr) (n c : Nat) (q : List UInt8) (w : World) (hd : Disk w d S files h) (hf : h.fits) (ha : h.acts < 1000000000000) (hs : okName s = true)
    (ht : sumA files ≤ 1000000000000) (hfs : files.length < 1000000000000) (hn : n ≤ 1000000000000) (hnc : n ≤ c) (hcc : c ≤ 9223372036854775807) (hq : Sees w A n q) (hout : Out S A n) :
    Calls Tryd.prog 18 #[.pointer (some ⟨d, 0, none⟩), .string ⟨s.toArray⟩, .slice A n c] w fun e w' => e = .returned (.int .i64 (appE h s q files)) ∧ Next S w d (appF h s q files) h.act w' := by
  obtain ⟨mb, fs, hda, rfl, rfl⟩ := hd
  refine (append_any d mb fs h s A n c q w hda hf ha hs (by rw [← sumA_abs]; exact ht) (by simpa [abs] using hfs) hn hnc hcc hq hout).mono ?_
  rintro e w' ⟨rfl, hm⟩
  exact ⟨rfl, next_of_makes hm⟩

theorem syncC (d : Nat) (S : List Nat) (files : List File) (h : Hd) (s : List UInt8) (w : World) (hd : Disk w d S files h) (hf : h.fits) (hs2 : s.length ≤ 100000) (ht : sumA files ≤ 1000000000000) :
    Calls Tryd.prog 50 #[.pointer (some ⟨d, 0, none⟩), .string ⟨s.toArray⟩] w fun e w' => e = .returned (.int .i64 (thereE h s files)) ∧ Next S w d (thereF h s syncG files) h.act w' := by
  obtain ⟨mb, fs, hda, rfl, rfl⟩ := hd
  refine (sync_any d mb fs h s w hda hf hs2 (by rw [← sumA_abs]; exact ht)).mono ?_
  rintro e w' ⟨rfl, hm⟩
  exact ⟨rfl, next_of_makes hm⟩

theorem readC (d : Nat) (S : List Nat) (files : List File) (h : Hd) (s : List UInt8) (w : World) (hd : Disk w d S files h) (hs2 : s.length ≤ 100000) (ht : sumA files ≤ 1000000000000) :
    Calls Tryd.prog 14 #[.pointer (some ⟨d, 0, none⟩), .string ⟨s.toArray⟩] w (Tells (readP h s files) (readE h s files) w) := by
  obtain ⟨mb, fs, hda, rfl, rfl⟩ := hd
  exact read_any d mb fs h s w hda hs2 (by rw [← sumA_abs]; exact ht)

theorem crashC (d : Nat) (S : List Nat) (files : List File) (h : Hd) (keep : Int) (w : World) (hd : Disk w d S files h) (ht : sumA files ≤ 1000000000000) (hk1 : -9223372036854775808 ≤ keep) (hk2 : keep ≤ 9223372036854775807) :
    Calls Tryd.prog 22 #[.pointer (some ⟨d, 0, none⟩), .int .i64 keep] w fun e w' => e = .returned (.tuple #[]) ∧ Next S w d (files.map (crashG keep)) { h with off := false, left := -1 } w' := by
  obtain ⟨mb, fs, hda, rfl, rfl⟩ := hd
  refine (crash_any d mb fs h keep w hda (by rw [← sumA_abs]; exact ht) hk1 hk2).mono ?_
  rintro e w' ⟨rfl, hm⟩
  exact ⟨rfl, next_of_makes hm⟩
end Go.Proofs.YtokfajlmephdeaaDoor.Dsk
namespace Go.Proofs.YtokfajlmephdeaaDoor.Dsk
open Go Go.RowKit Go.Proofs.YtokfajlmephdeaaDoor.Words
set_option linter.unusedVariables false

theorem Next.refl {S : List Nat} {w : World} {d : Nat} {files : List File} {h : Hd} (hd : Disk w d S files h) : Next S w d files h w := ⟨S, hd, Beside.refl _ _, fun k hk => .inl hk⟩
theorem Next.below {S : List Nat} {w0 w w' : World} {d : Nat} {files : List File} {h : Hd} (hb : Below w0.heap.size w0 w) (hn : Next S w d files h w') : Next S w0 d files h w' :=
  Next.step (Beside.of_below hb S) (fun k hk => .inl hk) hn
theorem Next.after {S : List Nat} {w w' w2 : World} {d : Nat} {files : List File} {h : Hd} (hn : Next S w d files h w') (hb : Below w'.heap.size w' w2) : Next S w d files h w2 := by
  obtain ⟨S', hd, h1, h2⟩ := hn
  exact ⟨S', hd.below hb, h1.below hb, h2⟩
theorem Next.then_ {S : List Nat} {w w1 w2 : World} {d : Nat} {f1 f2 : List File} {h1 h2 : Hd} (a : Next S w d f1 h1 w1) (b : ∀ S1, Disk w1 d S1 f1 h1 → Next S1 w1 d f2 h2 w2) : Next S w d f2 h2 w2 := by
  obtain ⟨S1, hd, hb, hs⟩ := a
  exact Next.step hb hs (b S1 hd)

theorem armC (d : Nat) (S : List Nat) (files : List File) (h : Hd) (acts torn : Int) (w : World) (hd : Disk w d S files h) :
    Calls Tryd.prog 21 #[.pointer (some ⟨d, 0, none⟩), .int .i64 acts, .int .i64 torn] w fun e w' => e = .returned (.tuple #[]) ∧ Next S w d files { h with left := acts, torn := torn } w' := by
  obtain ⟨mb, fs, hda, rfl, rfl⟩ := hd
  refine (arm_any d mb fs h acts torn w hda).mono ?_
  rintro e w' ⟨rfl, hm⟩
  exact ⟨rfl, next_of_makes hm⟩
theorem widenC (d : Nat) (S : List Nat) (files : List File) (h : Hd) (room : Int) (w : World) (hd : Disk w d S files h) :
    Calls Tryd.prog 24 #[.pointer (some ⟨d, 0, none⟩), .int .i64 room] w fun e w' => e = .returned (.tuple #[]) ∧ Next S w d files { h with room := room } w' := by
  obtain ⟨mb, fs, hda, rfl, rfl⟩ := hd
  refine (widen_any d mb fs h room w hda).mono ?_
  rintro e w' ⟨rfl, hm⟩
  exact ⟨rfl, next_of_makes hm⟩
theorem cutC (d : Nat) (S : List Nat) (files : List File) (h : Hd) (s : List UInt8) (n : Int) (w : World) (hd : Disk w d S files h) (hf : h.fits) (hs2 : s.length ≤ 100000) (ht : sumA files ≤ 1000000000000) :
    Calls Tryd.prog 39 #[.pointer (some ⟨d, 0, none⟩), .string ⟨s.toArray⟩, .int .i64 n] w fun e w' => e = .returned (.int .i64 (cutE h s n files)) ∧ Next S w d (thereF h s (cutG n) files) h.act w' := by
  obtain ⟨mb, fs, hda, rfl, rfl⟩ := hd
  refine (cutOp_any d mb fs h s n w hda hf hs2 (by rw [← sumA_abs]; exact ht)).mono ?_
  rintro e w' ⟨rfl, hm⟩
  exact ⟨rfl, next_of_makes hm⟩
theorem removeC (d : Nat) (S : List Nat) (files : List File) (h : Hd) (s : List UInt8) (w : World) (hd : Disk w d S files h) (hf : h.fits) (hs2 : s.length ≤ 100000) (ht : sumA files ≤ 1000000000000) :
    Calls Tryd.prog 40 #[.pointer (some ⟨d, 0, none⟩), .string ⟨s.toArray⟩] w fun e w' => e = .returned (.int .i64 (thereE h s files)) ∧ Next S w d (removeF h s files) h.act w' := by
  obtain ⟨mb, fs, hda, rfl, rfl⟩ := hd
  refine (remove_any d mb fs h s w hda hf hs2 (by rw [← sumA_abs]; exact ht)).mono ?_
  rintro e w' ⟨rfl, hm⟩
  exact ⟨rfl, next_of_makes hm⟩
theorem moveC (d : Nat) (S : List Nat) (files : List File) (h : Hd) (s t : List UInt8) (w : World) (hd : Disk w d S files h) (hf : h.fits) (hs2 : s.length ≤ 100000) (hok : okName t = true) (ht : sumA files ≤ 1000000000000) (hfs : files.length < 1000000000000) :
    Calls Tryd.prog 43 #[.pointer (some ⟨d, 0, none⟩), .string ⟨s.toArray⟩, .string ⟨t.toArray⟩] w fun e w' => e = .returned (.int .i64 (thereE h s files)) ∧ Next S w d (moveF h s t files) h.act w' := by
  obtain ⟨mb, fs, hda, rfl, rfl⟩ := hd
  refine (move_any d mb fs h s t w hda hf hs2 hok (by rw [← sumA_abs]; exact ht) (by simpa [abs] using hfs)).mono ?_
  rintro e w' ⟨rfl, hm⟩
  exact ⟨rfl, next_of_makes hm⟩
theorem namesC (d : Nat) (S : List Nat) (f : File) (h : Hd) (w : World) (hd : Disk w d S [f] h) (hoff : h.off = false) (hlen : f.name.length ≤ 100000) :
    Calls Tryd.prog 23 #[.pointer (some ⟨d, 0, none⟩), .string ByteArray.empty] w fun e w' => ∃ A c, e = .returned (.slice A 1 c) ∧ Below w.heap.size w w' := by
  obtain ⟨mb, fs, hda, hab, rfl⟩ := hd
  obtain ⟨x, rfl⟩ : ∃ x, fs = [x] := by
    cases fs with
    | nil => simp [abs] at hab
    | cons x r =>
      cases r with
      | nil => exact ⟨x, rfl⟩
      | cons y r => simp [abs] at hab
  refine names_one d mb x h w hda hoff ?_
  simp only [abs, List.map_cons, List.map_nil, List.cons.injEq, and_true] at hab
  subst hab
  exact hlen
end Go.Proofs.YtokfajlmephdeaaDoor.Dsk
