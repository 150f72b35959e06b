/- Texts of the law ReplicaNil, put together. -/
import Derived.LoopTactic
import Derived.Lib.Hide
import Derived.WalkSpells
import Derived.Test.YtinjbdgjcadodaaGreatDoorRNp04
import Derived.Test.YtinjbdgjcadodaaGreatDoorRNp10
set_option linter.unusedVariables false
set_option maxRecDepth 100000
namespace Go.Proofs.YtinjbdgjcadodaaGreatDoor.Dsk
open Go Go.RowKit Words
def sumA : List File → Nat
 | [] => 0
 | f :: r => f.p.length + sumA r
theorem sumA_abs : ∀ fs : List Fil, sumA (abs fs) = total fs
 | [] => rfl
 | f :: r => by
   have := sumA_abs r
   simp only [abs, List.map_cons, sumA, total, Fil.abs] at this ⊢
   omega
def lookA (s : List UInt8) (fs : List File) : Option File := fs.find? fun f => decide (f.name = s)
theorem lookA_abs (s : List UInt8) : ∀ fs : List Fil, lookA s (abs fs) = (look s fs).map Fil.abs
 | [] => rfl
 | f :: r => by
   have ih := lookA_abs s r
   simp only [lookA, look, abs, List.map_cons, List.find?_cons] at ih ⊢
   by_cases h : f.name = s
   ·simp [h, Fil.abs]
   ·have h1 : (decide (f.abs.name = s)) = false := decide_eq_false h
    have h2 : (decide (f.name = s)) = false := decide_eq_false h
    rw [h1, h2]
    exact ih
def upd (s : List UInt8) (g : File → File) (fs : List File) : List File := fs.map fun f => if f.name = s then g f else f
theorem upd_split {s : List UInt8} {g : File → File} {l m : List Fil} {f f' : Fil} (hs : f.name = s) (hl : ∀ x ∈ l ++ m, x.name ≠ s) (hf : f'.abs = g f.abs) : abs (l ++ f' :: m) = upd s g (abs (l ++ f :: m)) := by
 have h : ∀ k : List Fil, (∀ x ∈ k, x.name ≠ s) → upd s g (abs k) = abs k := by
  intro k hk
  simp only [upd, abs, List.map_map]
  apply List.map_congr_left
  intro x hx
  simp only [Function.comp_apply]
  rw [if_neg (by simpa [Fil.abs] using hk x hx)]
 have h1 := h l fun x hx => hl x (by simp [hx])
 have h2 := h m fun x hx => hl x (by simp [hx])
 simp only [upd, abs, List.map_append, List.map_cons] at h1 h2 ⊢
 rw [h1, h2, if_pos (by simpa [Fil.abs] using hs), hf]
def tornF (h : Hd) (s q : List UInt8) (fs : List File) : List File :=
 if 0 < h.torn ∧ ((sumA fs : Int) + min h.torn q.length ≤ h.room) then put s (q.take h.torn.toNat) fs else fs
theorem makes_same {d mb : Nat} {fs : List Fil} {h : Hd} {w : World} (hd : DiskAt w d mb fs h) : Makes d mb fs w (abs fs) h w := ⟨fs, Does.same hd, rfl⟩
theorem Makes.after {d mb : Nat} {fs fs1 : List Fil} {files : List File} {h1 h2 : Hd} {w w1 w2 : World} (a : Does d mb fs w fs1 h1 w1) (b : Makes d mb fs1 w1 files h2 w2) : Makes d mb fs w files h2 w2 := by
 obtain ⟨fs', hb, hf⟩ := b
 exact ⟨fs', a.next hb, hf⟩
theorem Makes.below {d mb : Nat} {fs : List Fil} {files : List File} {h1 : Hd} {w0 w w1 : World} (h : Below w0.heap.size w0 w) (b : Makes d mb fs w files h1 w1) : Makes d mb fs w0 files h1 w1 := by
 obtain ⟨fs', hb, hf⟩ := b
 exact ⟨fs', Does.below h hb, hf⟩
theorem makes_drewN {d mb : Nat} {fs : List Fil} {files : List File} {h1 : Hd} {w w1 : World} (k : Nat) (b : Makes d mb fs (w.drewN k) files h1 w1) : Makes d mb fs w files h1 w1 := Makes.below (w := w.drewN k) ⟨rfl, rfl, rfl, Nat.le_refl _, fun _ _ => rfl⟩ b
theorem DiskAt.drewN {w : World} {d mb : Nat} {fs : List Fil} {h : Hd} (hd : DiskAt w d mb fs h) (k : Nat) : DiskAt (w.drewN k) d mb fs h := hd.kept fun _ _ => rfl
theorem tear_any (d mb : Nat) (fs : List Fil) (h : Hd) (s : List UInt8) (S : Option Addr) (n c : Nat) (q : List UInt8) (w : World) (hd : DiskAt w d mb fs h) (hf : h.fits) (hs2 : s.length ≤ 100000)
  (ht : total fs ≤ 1000000000000) (hfs : fs.length < 1000000000000) (hn : n ≤ 1000000000000) (hnc : n ≤ c) (hcc : c ≤ 9223372036854775807) (hq : Sees w S n q) :
  Calls Tryz.prog 322 #[.pointer (some ⟨d, 0, none⟩), .string ⟨s.toArray⟩, .slice S n c] w fun e w' => e = .returned (.tuple #[]) ∧ Makes d mb fs w (tornF h s q (abs fs)) h w' := by
 obtain ⟨_, _, _, _, _, c5, _⟩ := hd.head.cells
 have hlq := hq.1
 by_cases h0 : h.torn ≤ 0
 ·have e0 : tornF h s q (abs fs) = abs fs := by unfold tornF; rw [if_neg (by omega)]
  rw [e0]
  go_enter Tryz.func322, Tryz.ntmps322
  go_wp2
  go_returns
  exact ⟨rfl, makes_same hd⟩
 ·obtain ⟨t, htt⟩ : ∃ t : Nat, h.torn = (t : Int) := ⟨h.torn.toNat, by omega⟩
  have h0' : 0 < t := by omega
  have h1' : ¬ t = 0 := by omega
  rw [htt] at c5
  obtain ⟨k, hk⟩ : ∃ k : Nat, k = min t n := ⟨_, rfl⟩
  have hkn : k ≤ n := by omega
  have hkc : k ≤ c := by omega
  have hmin : min (t : Int) (n : Int) = (k : Int) := by omega
  have htake : q.take h.torn.toNat = q.take k := by
   rw [hk, htt, Int.toNat_natCast]
   rcases Nat.le_total t n with h1 | h1
   ·rw [Nat.min_eq_left h1]
   ·rw [Nat.min_eq_right h1, List.take_of_length_le (by omega), List.take_of_length_le (by omega)]
  have hsum : sumA (abs fs) = total fs := sumA_abs fs
  have hq' := hq.take hkn
  have HT := Lib.hid htake
  have HK := Lib.hid hk
  have HTT := Lib.hid htt
  have HS := Lib.hid hsum
  clear htake hk htt hsum hq
  go_enter Tryz.func322, Tryz.ntmps322
  go_wp2_with fail
  refine (fits_any d mb fs h S k c w hd hf ht (by omega)).mono ?_
  rintro e w1 ⟨rfl, k1, rfl⟩
  by_cases hr : (total fs : Int) + k ≤ h.room
  ·have e1 : decide ((total fs : Int) + k ≤ h.room) = true := by simpa using hr
   have e0 : tornF h s q (abs fs) = put s (q.take k) (abs fs) := by
    unfold tornF
    rw [HS.out, HTT.out, hlq, hmin, if_pos ⟨by omega, hr⟩, ← HTT.out, HT.out]
   have E0 := Lib.hid e0
   rw [e1]
   clear e0 e1 hr hmin
   go_wp2_with fail
   refine (write_any d mb fs h s S k c (q.take k) (w.drewN k1) (hd.drewN k1) hs2 ht hfs (by omega) (hq'.drewN k1)).mono ?_
   rintro e w2 ⟨rfl, hm⟩
   go_wp2
   go_returns
   rw [E0.out]
   exact ⟨rfl, makes_drewN k1 hm⟩
  ·have e1 : decide ((total fs : Int) + k ≤ h.room) = false := by simpa using hr
   have e0 : tornF h s q (abs fs) = abs fs := by
    unfold tornF
    rw [HS.out, HTT.out, hlq, hmin, if_neg (fun x => hr x.2)]
   have E0 := Lib.hid e0
   rw [e1]
   clear e0 e1 hr hmin
   go_wp2
   go_returns
   rw [E0.out]
   exact ⟨rfl, makes_drewN k1 (makes_same (hd.drewN k1))⟩
def appE (h : Hd) (s q : List UInt8) (fs : List File) : Int := if h.may then (if (sumA fs : Int) + q.length ≤ h.room then 0 else 3) else 7
def appF (h : Hd) (s q : List UInt8) (fs : List File) : List File :=
 if h.off then fs else if h.left = 0 then tornF h.act s q fs else if (sumA fs : Int) + q.length ≤ h.room then put s q fs else fs
theorem Hd.fits_act {h : Hd} (hf : h.fits) (ha : h.acts < 1000000000000) : h.act.fits := by
 obtain ⟨h1, h2, h3, h4⟩ := hf
 unfold Hd.act
 split
 ·exact ⟨h1, h2, h3, h4⟩
 ·refine ⟨h1, by simp; omega, ?_, h4⟩
  simp only
  split <;> omega
theorem append_any (d mb : Nat) (fs : List Fil) (h : Hd) (s : List UInt8) (S : Option Addr) (n c : Nat) (q : List UInt8) (w : World) (hd : DiskAt w d mb fs h) (hf : h.fits) (ha : h.acts < 1000000000000) (hs : okName s = true)
  (ht : total fs ≤ 1000000000000) (hfs : fs.length < 1000000000000) (hn : n ≤ 1000000000000) (hnc : n ≤ c) (hcc : c ≤ 9223372036854775807) (hq : Sees w S n q) (hout : Out (own d mb fs) S n) :
  Calls Tryz.prog 283 #[.pointer (some ⟨d, 0, none⟩), .string ⟨s.toArray⟩, .slice S n c] w fun e w' => e = .returned (.int .i64 (appE h s q (abs fs))) ∧ Makes d mb fs w (appF h s q (abs fs)) h.act w' := by
 have hlq := hq.1
 have hs2 := okName_len hs
 have hsum := Lib.hid (sumA_abs fs)
 have HOK := Lib.hid hs
 have HLQ := Lib.hid hlq
 clear hlq hs
 cases hoff : h.off with
 | true =>
   have e1 : appE h s q (abs fs) = 7 := by simp [appE, Hd.may, hoff]
   have e2 : appF h s q (abs fs) = abs fs := by simp [appF, hoff]
   have e3 : h.act = h := by simp [Hd.act, hoff]
   rw [e1, e2, e3]
   clear e1 e2 e3
   go_enter Tryz.func283, Tryz.ntmps283
   go_wp2_with fail
   refine (named_any s w HOK.out).mono ?_
   rintro e w1 ⟨rfl, hb1⟩
   have hd1 := hd.below hb1
   go_wp2_with fail
   refine (on_any d mb fs h w1 hd1).mono ?_
   rintro e w2 ⟨rfl, rfl⟩
   rw [hoff]
   go_wp2
   go_returns
   exact ⟨rfl, (makes_same hd1).below hb1⟩
 | false =>
   by_cases hl : h.left = 0
   ·have hmay : h.may = false := by simp [Hd.may, hl]
    have e1 : appE h s q (abs fs) = 7 := by simp [appE, hmay]
    have e2 : appF h s q (abs fs) = tornF h.act s q (abs fs) := by simp [appF, hoff, hl]
    rw [e1, e2]
    clear e1 e2
    have HL := Lib.hid hl
    clear hl
    go_enter Tryz.func283, Tryz.ntmps283
    go_wp2_with fail
    refine (named_any s w HOK.out).mono ?_
    rintro e w1 ⟨rfl, hb1⟩
    have hd1 := hd.below hb1
    go_wp2_with fail
    refine (on_any d mb fs h w1 hd1).mono ?_
    rintro e w2 ⟨rfl, rfl⟩
    rw [hoff]
    go_wp2_with fail
    refine (act_any d mb fs h w1 hd1 hf).mono ?_
    rintro e w2 ⟨rfl, hdo⟩
    rw [hmay]
    have hq2 : Sees w2 S n q := (hq.below hb1).beside hdo.2.1 hout
    go_wp2_with fail
    refine (tear_any d mb fs h.act s S n c q w2 hdo.1 (Hd.fits_act hf ha) hs2 ht hfs hn hnc hcc hq2).mono ?_
    rintro e w3 ⟨rfl, hm⟩
    go_wp2
    go_returns
    exact ⟨rfl, (Makes.after hdo hm).below hb1⟩
   ·have hmay : h.may = true := by simp [Hd.may, hoff, hl]
    have hact : h.act.room = h.room := by simp [Hd.act, hoff]
    by_cases hr : (total fs : Int) + n ≤ h.room
    ·have hr' : (sumA (abs fs) : Int) + q.length ≤ h.room := by rw [hsum.out, HLQ.out]; exact hr
     have e1 : appE h s q (abs fs) = 0 := by simp [appE, hmay, hr']
     have e2 : appF h s q (abs fs) = put s q (abs fs) := by simp [appF, hoff, hl, hr']
     have e3 : decide ((total fs : Int) + n ≤ h.act.room) = true := by rw [hact]; simpa using hr
     rw [e1, e2]
     have E3 := Lib.hid e3
     clear e1 e2 e3 hr hr' hl hact
     go_enter Tryz.func283, Tryz.ntmps283
     go_wp2_with fail
     refine (named_any s w HOK.out).mono ?_
     rintro e w1 ⟨rfl, hb1⟩
     have hd1 := hd.below hb1
     go_wp2_with fail
     refine (on_any d mb fs h w1 hd1).mono ?_
     rintro e w2 ⟨rfl, rfl⟩
     rw [hoff]
     go_wp2_with fail
     refine (act_any d mb fs h w1 hd1 hf).mono ?_
     rintro e w2 ⟨rfl, hdo⟩
     rw [hmay]
     have hq2 : Sees w2 S n q := (hq.below hb1).beside hdo.2.1 hout
     go_wp2_with fail
     refine (fits_any d mb fs h.act S n c w2 hdo.1 (Hd.fits_act hf ha) ht hn).mono ?_
     rintro e w3 ⟨rfl, k1, rfl⟩
     rw [E3.out]
     go_wp2_with fail
     refine (write_any d mb fs h.act s S n c q (w2.drewN k1) (hdo.1.drewN k1) hs2 ht hfs hn (hq2.drewN k1)).mono ?_
     rintro e w4 ⟨rfl, hm⟩
     go_wp2
     go_returns
     exact ⟨rfl, (Makes.after hdo (makes_drewN k1 hm)).below hb1⟩
    ·have hr' : ¬ (sumA (abs fs) : Int) + q.length ≤ h.room := by rw [hsum.out, HLQ.out]; exact hr
     have e1 : appE h s q (abs fs) = 3 := by simp [appE, hmay]; omega
     have e2 : appF h s q (abs fs) = abs fs := by simp [appF, hoff, hl]; omega
     have e3 : decide ((total fs : Int) + n ≤ h.act.room) = false := by rw [hact]; simpa using hr
     rw [e1, e2]
     have E3 := Lib.hid e3
     clear e1 e2 e3 hr hr' hl hact
     go_enter Tryz.func283, Tryz.ntmps283
     go_wp2_with fail
     refine (named_any s w HOK.out).mono ?_
     rintro e w1 ⟨rfl, hb1⟩
     have hd1 := hd.below hb1
     go_wp2_with fail
     refine (on_any d mb fs h w1 hd1).mono ?_
     rintro e w2 ⟨rfl, rfl⟩
     rw [hoff]
     go_wp2_with fail
     refine (act_any d mb fs h w1 hd1 hf).mono ?_
     rintro e w2 ⟨rfl, hdo⟩
     rw [hmay]
     go_wp2_with fail
     refine (fits_any d mb fs h.act S n c w2 hdo.1 (Hd.fits_act hf ha) ht hn).mono ?_
     rintro e w3 ⟨rfl, k1, rfl⟩
     rw [E3.out]
     go_wp2
     go_returns
     exact ⟨rfl, (Makes.after hdo (makes_drewN k1 (makes_same (hdo.1.drewN k1)))).below hb1⟩
def thereE (h : Hd) (s : List UInt8) (fs : List File) : Int := if h.may then (if (lookA s fs).isSome then 0 else 2) else 7
def thereF (h : Hd) (s : List UInt8) (g : File → File) (fs : List File) : List File := if h.may then upd s g fs else fs
theorem upd_none {s : List UInt8} {g : File → File} {fs : List Fil} (h : look s fs = none) : upd s g (abs fs) = abs fs := by
 simp only [upd, abs, List.map_map]
 apply List.map_congr_left
 intro x hx
 simp only [Function.comp_apply]
 rw [if_neg (by simpa [Fil.abs] using look_none.1 h x hx)]
def syncG (f : File) : File := { f with safe := f.p.length }
theorem sync_any (d mb : Nat) (fs : List Fil) (h : Hd) (s : List UInt8) (w : World) (hd : DiskAt w d mb fs h) (hf : h.fits) (hs2 : s.length ≤ 100000) (ht : total fs ≤ 1000000000000) :
  Calls Tryz.prog 71 #[.pointer (some ⟨d, 0, none⟩), .string ⟨s.toArray⟩] w fun e w' => e = .returned (.int .i64 (thereE h s (abs fs))) ∧ Makes d mb fs w (thereF h s syncG (abs fs)) h.act w' := by
 cases hm : h.may with
 | false =>
   have e1 : thereE h s (abs fs) = 7 := by simp [thereE, hm]
   have e2 : thereF h s syncG (abs fs) = abs fs := by simp [thereF, hm]
   rw [e1, e2]
   clear e1 e2
   go_enter Tryz.func71, Tryz.ntmps71
   go_wp2_with fail
   refine (open_any d mb fs h s w hd hf hs2).mono ?_
   rintro e w1 ⟨rfl, hdo⟩
   rw [hm, show openE false (look s fs) = 7 from rfl]
   go_wp2
   go_returns
   exact ⟨rfl, Makes.after hdo (makes_same hdo.1)⟩
 | true =>
   cases hl : look s fs with
   | none =>
     have e1 : thereE h s (abs fs) = 2 := by simp [thereE, hm, lookA_abs, hl]
     have e2 : thereF h s syncG (abs fs) = abs fs := by simp [thereF, hm, upd_none hl]
     rw [e1, e2]
     clear e1 e2
     have e3 : openE true (look s fs) = 2 := by rw [hl]; rfl
     have E3 := Lib.hid e3
     clear e3 hl
     go_enter Tryz.func71, Tryz.ntmps71
     go_wp2_with fail
     refine (open_any d mb fs h s w hd hf hs2).mono ?_
     rintro e w1 ⟨rfl, hdo⟩
     rw [hm, E3.out]
     go_wp2
     go_returns
     exact ⟨rfl, Makes.after hdo (makes_same hdo.1)⟩
   | some f =>
     have e1 : thereE h s (abs fs) = 0 := by simp [thereE, hm, lookA_abs, hl]
     have e2 : thereF h s syncG (abs fs) = upd s syncG (abs fs) := by simp [thereF, hm]
     rw [e1, e2]
     clear e1 e2
     have e3 : openE true (look s fs) = 0 := by rw [hl]; rfl
     have e4 : openP true (look s fs) = some ⟨f.g, 0, none⟩ := by rw [hl]; rfl
     obtain ⟨l, m, rfl, hn1, hn2⟩ := look_split hl hd.names
     have E3 := Lib.hid e3
     have E4 := Lib.hid e4
     have N1 := Lib.hid hn1
     have N2 := Lib.hid hn2
     clear e3 e4 hl hn1 hn2
     go_enter Tryz.func71, Tryz.ntmps71
     go_wp2_with fail
     refine (open_any d mb _ h s w hd hf hs2).mono ?_
     rintro e w1 ⟨rfl, hdo⟩
     rw [hm, E3.out, E4.out]
     have hfl := hdo.1.files f (by simp)
     obtain ⟨g0, g1⟩ := hfl.cells
     have q1 := hfl.frozen 1
     have HF := Lib.hid hfl
     clear hfl
     go_wp2
     go_returns
     have hd1 := hdo.1
     obtain ⟨n1, n2, n3, n4⟩ := own_ne hd1.apart
     have hbes : Beside (d :: f.own) w1 (w1.setCell ⟨f.g, 1, none⟩ (.int .i64 (f.p.length : Int))) := (Beside.refl _ _).setCell (by simp [Fil.own]) _
     have hle := hd1.safe f (by simp)
     refine ⟨rfl, Makes.after hdo ⟨_, ⟨hd1.turnFile (f' := { f with safe := f.p.length }) hbes ?_ ⟨?_, ?_⟩ rfl rfl (fun k hk => .inl hk) (own_self hd1.apart).1 (Nat.le_refl _), hbes.wider ?_, ?_⟩, upd_split N1.out N2.out rfl⟩⟩
     ·have e : total (l ++ ({ f with safe := f.p.length } : Fil) :: m) = total (l ++ f :: m) := by simp [total_append, total]
      rw [e]
      exact (heapOther (Ne.symm n1)).trans hd1.head
     ·exact (heapSame HF.out.1).trans (by simp)
     ·refine HF.out.2.kept fun a ha => heapOther (n4 a ha).2.2
     ·intro x hx
      rcases List.mem_cons.1 hx with rfl | hx
      ·exact .inl (by simp [own])
      ·exact .inl (mem_own_split.2 (.inl hx))
     ·intro k hk
      rw [mem_own_split] at hk
      exact .inl (mem_own_split.2 hk)
def readP (h : Hd) (s : List UInt8) (fs : List File) : List UInt8 := if h.off then [] else match lookA s fs with | some f => f.p | none => []
def readE (h : Hd) (s : List UInt8) (fs : List File) : Int := if h.off then 7 else if (lookA s fs).isSome then 0 else 2
def Tells (l : List UInt8) (x : Int) (w : World) (e : Ending) (w' : World) : Prop :=
 ∃ A c, e = .returned (.tuple #[.slice A l.length c, .int .i64 x]) ∧ w'.ownsRow w.heap.size 5 1 (.slice A l.length c) l.length (cs l) ∧ Below w.heap.size w w'
theorem read_any (d mb : Nat) (fs : List Fil) (h : Hd) (s : List UInt8) (w : World) (hd : DiskAt w d mb fs h) (hs2 : s.length ≤ 100000) (ht : total fs ≤ 1000000000000) :
  Calls Tryz.prog 240 #[.pointer (some ⟨d, 0, none⟩), .string ⟨s.toArray⟩] w (Tells (readP h s (abs fs)) (readE h s (abs fs)) w) := by
 cases hoff : h.off with
 | true =>
   have e1 : readP h s (abs fs) = [] := by simp [readP, hoff]
   have e2 : readE h s (abs fs) = 7 := by simp [readE, hoff]
   rw [e1, e2]
   clear e1 e2
   go_enter Tryz.func240, Tryz.ntmps240
   go_wp2_with fail
   refine (on_any d mb fs h w hd).mono ?_
   rintro e w1 ⟨rfl, rfl⟩
   rw [hoff]
   go_wp2
   go_returns
   exact ⟨none, 0, rfl, Own.nil _ _ _, Below.refl _ _⟩
 | false =>
   obtain ⟨c0, _⟩ := hd.head.cells
   have hlk := hd.map.run_look hs2
   cases hl : look s fs with
   | none =>
     have e1 : readP h s (abs fs) = [] := by simp [readP, hoff, lookA_abs, hl]
     have e2 : readE h s (abs fs) = 2 := by simp [readE, hoff, lookA_abs, hl]
     rw [e1, e2]
     clear e1 e2
     rw [hl, show at_ none = none from rfl] at hlk
     clear hl
     go_enter Tryz.func240, Tryz.ntmps240
     go_wp2_with fail
     refine (on_any d mb fs h w hd).mono ?_
     rintro e w1 ⟨rfl, rfl⟩
     rw [hoff]
     go_wp2
     go_returns
     exact ⟨none, 0, rfl, Own.nil _ _ _, Below.refl _ _⟩
   | some f =>
     have e1 : readP h s (abs fs) = f.p := by simp [readP, hoff, lookA_abs, hl, Fil.abs]
     have e2 : readE h s (abs fs) = 0 := by simp [readE, hoff, lookA_abs, hl]
     rw [e1, e2]
     clear e1 e2
     rw [hl, show at_ (some f) = some ⟨f.g, 0, none⟩ from rfl] at hlk
     have hm := (look_mem hl).1
     have hfl := hd.files f hm
     have hle : f.p.length ≤ total fs := by
      obtain ⟨l, m, rfl⟩ := List.append_of_mem hm
      rw [total_append]
      simp only [total]
      omega
     obtain ⟨g0, g1⟩ := hfl.cells
     have HF := Lib.hid hfl
     clear hl hm hfl
     go_enter Tryz.func240, Tryz.ntmps240
     go_wp2_with fail
     refine (on_any d mb fs h w hd).mono ?_
     rintro e w1 ⟨rfl, rfl⟩
     rw [hoff]
     go_wp2_with fail
     refine (clone_bytes f.A f.p.length f.c f.p w HF.out.2.sees (by omega)).mono ?_
     rintro e w1 ⟨A1, c1, rfl, hown, hb⟩
     go_wp2
     go_returns
     exact ⟨A1, c1, rfl, hown, hb⟩
def safeN (s : List UInt8) (fs : List File) : Nat := match lookA s fs with | some f => f.safe | none => 0
theorem safe_any (d mb : Nat) (fs : List Fil) (h : Hd) (s : List UInt8) (w : World) (hd : DiskAt w d mb fs h) (hs2 : s.length ≤ 100000) :
  Calls Tryz.prog 126 #[.pointer (some ⟨d, 0, none⟩), .string ⟨s.toArray⟩] w fun e w' => e = .returned (.int .i64 (safeN s (abs fs) : Int)) ∧ w = w' := by
 obtain ⟨c0, _⟩ := hd.head.cells
 have hlk := hd.map.run_look hs2
 cases hl : look s fs with
 | none =>
   have e1 : safeN s (abs fs) = 0 := by simp [safeN, lookA_abs, hl]
   rw [e1]
   rw [hl, show at_ none = none from rfl] at hlk
   clear hl e1
   go_enter Tryz.func126, Tryz.ntmps126
   go_wp2
   go_returns
   exact ⟨rfl, rfl⟩
 | some f =>
   have e1 : safeN s (abs fs) = f.safe := by simp [safeN, lookA_abs, hl, Fil.abs]
   rw [e1]
   rw [hl, show at_ (some f) = some ⟨f.g, 0, none⟩ from rfl] at hlk
   obtain ⟨g0, g1⟩ := (hd.files f (look_mem hl).1).cells
   clear hl e1
   go_enter Tryz.func126, Tryz.ntmps126
   go_wp2
   go_returns
   exact ⟨rfl, rfl⟩
theorem strKey_inv {key : Value} {kl : Lit} (h : keyOf Tryz.prog 9 key = some kl) : ∃ x : ByteArray, key = .string x := by
 have hk := Tryz.underlying9
 cases key <;> simp [keyOf, hk, mapKey] at h
 exact ⟨_, rfl⟩
theorem strKey_of {x : ByteArray} {kl : Lit} (h : keyOf Tryz.prog 9 (.string x) = some kl) : kl = .string x.data.toList := by
 have hk := Tryz.underlying9
 simp [keyOf, hk, mapKey] at h
 exact h.2.symm
theorem ranges_kept {w w' : World} {k : TypeId} {R : Value → Option (DataW (Option Addr) × List MemPlace)} {b r n : Nat} {D : DataW (Option Addr)} {left : Lit → Bool} {cnt : Nat} (h : w.ranges Tryz.prog k R b r n D left cnt)
  (hb : w'.heap[b]? = w.heap[b]?) (hr : w'.heap[r]? = w.heap[r]?) : w'.ranges Tryz.prog k R b r n D left cnt := by
 obtain ⟨es, clock, since, seen, c0, h1, h2, h3, h4, h5, h6⟩ := h
 exact ⟨es, clock, since, seen, c0, hb.trans h1, h2, h3, h4, hr.trans h5, h6⟩
theorem ownsMap_tight {w : World} {b n : Nat} {D : DataW (Option Addr)} (h : w.ownsMap Tryz.prog 9 ptrElem b n D) : w.ownsMap Tryz.prog 9 ptrElem b (Maps.size D) D := by
 obtain ⟨es, clock, hb, F, hs, rfl⟩ := h
 refine ⟨es, clock, hb, F, ?_, rfl⟩
 simp [Maps.size, length_sorted]
theorem look_other {s : List UInt8} {l m : List Fil} {f : Fil} (h : f.name ≠ s) : look s (l ++ f :: m) = look s (l ++ m) := by
 rw [look_append, look_append]
 simp [look, h]
theorem look_here {s : List UInt8} {l m : List Fil} {f : Fil} (h : f.name = s) (hl : ∀ x ∈ l ++ m, x.name ≠ s) : look s (l ++ f :: m) = some f ∧ look s (l ++ m) = none := by
 have h1 : look s l = none := look_none.2 fun x hx => hl x (by simp [hx])
 refine ⟨?_, look_none.2 hl⟩
 rw [look_append, h1]
 simp [look, h]
theorem MapAt.run_del {w : World} {mb : Nat} {l m : List Fil} {f : Fil} (h : MapAt w mb (l ++ f :: m)) {s : List UInt8} (hn : f.name = s) (hl : ∀ x ∈ l ++ m, x.name ≠ s) (hs : s.length ≤ 100000) (ty : TypeId) :
  ∃ w', (Builtin.delete_ #[122, 9] ty #[.map (some mb), .string ⟨s.toArray⟩]).run Tryz.prog w = .ok (.tuple #[]) w' ∧ MapAt w' mb (l ++ m) ∧ w.mapTurned w' mb := by
 obtain ⟨D, ho, h1, h2, h3⟩ := h
 obtain ⟨hhere, hgone⟩ := look_here hn hl
 obtain ⟨w', hr, ho', ht⟩ := ho.drop keyStr Tryz.underlying122 (key_mk hs) ty
 have hsz := Maps.size_del (k := .string s) (ho.tidy keyStr)
 rw [h2 s, hhere, h3] at hsz
 have hsz2 : Maps.size (D.del (.string s)) = (l ++ m).length := by simp at hsz ⊢; omega
 refine ⟨w', hr, ⟨_, by rw [← hsz2]; exact ownsMap_tight ho', fun k => ?_, fun k => ?_, hsz2⟩, ht⟩
 ·by_cases e : k = s
  ·subst e
   rw [Maps.atKey_del_same, hgone]
   rfl
  ·rw [Maps.atKey_del_other (by intro h; injection h with h; exact e h), h1, look_other (by rw [hn]; exact Ne.symm e)]
 ·by_cases e : k = s
  ·subst e
   rw [Maps.has_del_same, hgone]
   rfl
  ·rw [Maps.has_del_other (by intro h; injection h with h; exact e h), h2, look_other (by rw [hn]; exact Ne.symm e)]
theorem MapAt.run_replace {w : World} {mb : Nat} {l m : List Fil} {f : Fil} (h : MapAt w mb (l ++ f :: m)) {s : List UInt8} (hn : f.name = s) (hl : ∀ x ∈ l ++ m, x.name ≠ s) (hs : s.length ≤ 100000) (hlen : (l ++ f :: m).length < 1000000000000) (f' : Fil) (hn' : f'.name = s) :
  ∃ w', (Instr.mapUpdate 122 (.map (some mb)) (.string ⟨s.toArray⟩) (.pointer (some ⟨f'.g, 0, none⟩))).run Tryz.prog w = .ok () w' ∧ MapAt w' mb (l ++ f' :: m) ∧ w.mapTurned w' mb := by
 obtain ⟨D, ho, h1, h2, h3⟩ := h
 obtain ⟨hhere, hgone⟩ := look_here hn hl
 obtain ⟨hhere', _⟩ := look_here (f := f') hn' hl
 obtain ⟨w', hr, ho', ht⟩ := ho.store keyStr Tryz.underlying122 (by unfold maxLen; omega) (key_mk hs) (ptrElem_mk (some ⟨f'.g, 0, none⟩))
 have hsz2 : Maps.size (D.put (.string s) (.held (some ⟨f'.g, 0, none⟩))) = (l ++ f' :: m).length := by
  rw [Maps.size_put (ho.tidy keyStr), h2, hhere, h3]
  simp
 refine ⟨w', hr, ⟨_, by rw [← hsz2]; exact ownsMap_tight ho', fun k => ?_, fun k => ?_, hsz2⟩, ht⟩
 ·by_cases e : k = s
  ·subst e
   rw [Maps.atKey_put_same ho.isMap (keyStr.key (key_mk hs)), hhere']
   simp [at_]
  ·rw [Maps.atKey_put_other (by intro h; injection h with h; exact e h), h1, look_other (by rw [hn]; exact Ne.symm e), look_other (by rw [hn']; exact Ne.symm e)]
 ·by_cases e : k = s
  ·subst e
   rw [Maps.has_put_same ho.isMap (keyStr.key (key_mk hs)), hhere']
   rfl
  ·rw [Maps.has_put_other (by intro h; injection h with h; exact e h), h2, look_other (by rw [hn]; exact Ne.symm e), look_other (by rw [hn']; exact Ne.symm e)]
theorem wpList_del {w : World} {ops : Array Oper} {rest : List Oper} {o : Oper} {a : Act} {Q : Exit → Act → World → Prop} (hg : o.guard = none) (m x : Operand)
  (hop : o.op = Op.call { callee := Callee.builtin Builtin.delete, args := #[m, x], argTypes := #[122, 9] }) (mb : Nat) (l : List Fil) (f : Fil) (m' : List Fil) (s : List UInt8)
  (hm : a.eval m = .map (some mb)) (hx : a.eval x = .string ⟨s.toArray⟩) (h : MapAt w mb (l ++ f :: m')) (hn : f.name = s) (hl : ∀ x ∈ l ++ m', x.name ≠ s) (hs : s.length ≤ 100000)
  (hK : ∀ w', MapAt w' mb (l ++ m') → w.mapTurned w' mb → wpList Tryz.prog ops Q rest (a.put o.dst (.tuple #[])) w') : wpList Tryz.prog ops Q (o :: rest) a w := by
 refine wpList_plain hg fun K' hK' => ?_
 obtain ⟨w', hrun, r1, r2⟩ := h.run_del hn hl hs o.type
 unfold Oper.wp
 simp [execOp, hop, resolve, invoke, builtin, hm, hx, hrun, Result.andThen]
 exact hK' _ _ (hK w' r1 r2)
theorem DiskAt.pick {w w' : World} {d mb : Nat} {fs fs' : List Fil} {h h' : Hd} (hd : DiskAt w d mb fs h) (hb : Beside [d, mb] w w') (hh : HeadAt w' d mb (total fs') h') (hm : MapAt w' mb fs')
  (hfs : ∀ x ∈ fs', ∃ y ∈ fs, x = { y with name := x.name }) (ha : (own d mb fs').Nodup) (hn : (fs'.map (·.name)).Nodup) : DiskAt w' d mb fs' h' := by
 have hap := hd.apart
 unfold own at hap
 rw [List.nodup_cons, List.nodup_cons] at hap
 refine ⟨hh, hm, fun x hx => ?_, ha, hn, fun x hx => ?_⟩
 ·obtain ⟨y, hy, e⟩ := hfs x hx
  have hk : FilAt w' y := (hd.files y hy).kept fun k hk => hb.block k (hd.lt k (own_sub hy k hk)) fun hc => by
   have hkm : k ∈ fs.flatMap Fil.own := List.mem_flatMap.2 ⟨y, hy, hk⟩
   simp only [List.mem_cons, List.not_mem_nil, or_false] at hc
   rcases hc with rfl | rfl
   ·exact hap.1 (List.mem_cons_of_mem _ hkm)
   ·exact hap.2.1 hkm
  rw [e]
  exact hk
 ·obtain ⟨y, hy, e⟩ := hfs x hx
  rw [e]
  exact hd.safe y hy
theorem own_pick {d mb : Nat} {fs fs' : List Fil} (hfs : ∀ x ∈ fs', ∃ y ∈ fs, x = { y with name := x.name }) : ∀ k ∈ own d mb fs', k ∈ own d mb fs := by
 intro k hk
 unfold own at hk ⊢
 rcases List.mem_cons.1 hk with rfl | hk
 ·simp
 ·rcases List.mem_cons.1 hk with rfl | hk
  ·simp
  ·obtain ⟨x, hx, hkx⟩ := List.mem_flatMap.1 hk
   obtain ⟨y, hy, e⟩ := hfs x hx
   rw [e] at hkx
   exact List.mem_cons_of_mem _ (List.mem_cons_of_mem _ (List.mem_flatMap.2 ⟨y, hy, hkx⟩))
def dropF (s : List UInt8) (fs : List File) : List File := fs.filter fun f => decide (f.name ≠ s)
theorem dropF_split {s : List UInt8} {l m : List Fil} {f : Fil} (hn : f.name = s) (hl : ∀ x ∈ l ++ m, x.name ≠ s) : dropF s (abs (l ++ f :: m)) = abs (l ++ m) := by
 have h : ∀ k : List Fil, (∀ x ∈ k, x.name ≠ s) → dropF s (abs k) = abs k := by
  intro k hk
  unfold dropF abs
  rw [List.filter_eq_self]
  intro x hx
  obtain ⟨y, hy, rfl⟩ := List.mem_map.1 hx
  exact decide_eq_true (hk y hy)
 have h1 := h l fun x hx => hl x (by simp [hx])
 have h2 := h m fun x hx => hl x (by simp [hx])
 simp only [dropF, abs, List.map_append, List.map_cons, List.filter_append] at h1 h2 ⊢
 rw [h1, List.filter_cons, if_neg (by simp [Fil.abs, hn]), h2]
theorem dropF_none {s : List UInt8} {fs : List Fil} (h : look s fs = none) : dropF s (abs fs) = abs fs := by
 unfold dropF abs
 rw [List.filter_eq_self]
 intro x hx
 obtain ⟨y, hy, rfl⟩ := List.mem_map.1 hx
 exact decide_eq_true (look_none.1 h y hy)
theorem names_drop {l m : List Fil} {f : Fil} (h : ((l ++ f :: m).map (·.name)).Nodup) : ((l ++ m).map (·.name)).Nodup := by
 rw [List.map_append, List.map_cons, List.perm_middle.nodup_iff, List.nodup_cons, ← List.map_append] at h
 exact h.2
theorem total_drop (l : List Fil) (f : Fil) (m : List Fil) : total (l ++ f :: m) = f.p.length + total (l ++ m) := by
 rw [total_append, total_append]
 simp only [total]
 omega
def removeF (h : Hd) (s : List UInt8) (fs : List File) : List File := if h.may then dropF s fs else fs
theorem remove_any (d mb : Nat) (fs : List Fil) (h : Hd) (s : List UInt8) (w : World) (hd : DiskAt w d mb fs h) (hf : h.fits) (hs2 : s.length ≤ 100000) (ht : total fs ≤ 1000000000000) :
  Calls Tryz.prog 116 #[.pointer (some ⟨d, 0, none⟩), .string ⟨s.toArray⟩] w fun e w' => e = .returned (.int .i64 (thereE h s (abs fs))) ∧ Makes d mb fs w (removeF h s (abs fs)) h.act w' := by
 cases hm : h.may with
 | false =>
   have e1 : thereE h s (abs fs) = 7 := by simp [thereE, hm]
   have e2 : removeF h s (abs fs) = abs fs := by simp [removeF, hm]
   rw [e1, e2]
   clear e1 e2
   go_enter Tryz.func116, Tryz.ntmps116
   go_wp2_with fail
   refine (open_any d mb fs h s w hd hf hs2).mono ?_
   rintro e w1 ⟨rfl, hdo⟩
   rw [hm, show openE false (look s fs) = 7 from rfl]
   go_wp2
   go_returns
   exact ⟨rfl, Makes.after hdo (makes_same hdo.1)⟩
 | true =>
   cases hl : look s fs with
   | none =>
     have e1 : thereE h s (abs fs) = 2 := by simp [thereE, hm, lookA_abs, hl]
     have e2 : removeF h s (abs fs) = abs fs := by simp [removeF, hm, dropF_none hl]
     rw [e1, e2]
     clear e1 e2
     have e3 : openE true (look s fs) = 2 := by rw [hl]; rfl
     have E3 := Lib.hid e3
     clear e3 hl
     go_enter Tryz.func116, Tryz.ntmps116
     go_wp2_with fail
     refine (open_any d mb fs h s w hd hf hs2).mono ?_
     rintro e w1 ⟨rfl, hdo⟩
     rw [hm, E3.out]
     go_wp2
     go_returns
     exact ⟨rfl, Makes.after hdo (makes_same hdo.1)⟩
   | some f =>
     have e1 : thereE h s (abs fs) = 0 := by simp [thereE, hm, lookA_abs, hl]
     have e3 : openE true (look s fs) = 0 := by rw [hl]; rfl
     have e4 : openP true (look s fs) = some ⟨f.g, 0, none⟩ := by rw [hl]; rfl
     obtain ⟨l, m, rfl, hn1, hn2⟩ := look_split hl hd.names
     have e2 : removeF h s (abs (l ++ f :: m)) = abs (l ++ m) := by simp only [removeF, hm, if_true]; exact dropF_split hn1 hn2
     rw [e1, e2]
     clear e1 e2
     have E3 := Lib.hid e3
     have E4 := Lib.hid e4
     have N1 := Lib.hid hn1
     have N2 := Lib.hid hn2
     have htd := total_drop l f m
     have HT := Lib.hid htd
     obtain ⟨tot, htt⟩ : ∃ tot, tot = total (l ++ f :: m) := ⟨_, rfl⟩
     obtain ⟨len, hlen⟩ : ∃ len, len = f.p.length := ⟨_, rfl⟩
     have hle : len ≤ tot := by omega
     have hw1 : IntKind.i64.wrap ((tot : Int) - (len : Int)) = (tot : Int) - (len : Int) := IntWalk.i64_in _ (by omega)
     have HTT := Lib.hid htt
     have HL := Lib.hid hlen
     clear e3 e4 hl hn1 hn2 htd htt hlen
     go_enter Tryz.func116, Tryz.ntmps116
     go_wp2_with fail
     refine (open_any d mb _ h s w hd hf hs2).mono ?_
     rintro e w1 ⟨rfl, hdo⟩
     rw [hm, E3.out, E4.out]
     have hfl := hdo.1.files f (by simp)
     obtain ⟨g0, g1⟩ := hfl.cells
     rw [← HL.out] at g0
     obtain ⟨c0, _, c2, _⟩ := hdo.1.head.cells
     rw [← HTT.out] at c2
     have f2 := hdo.1.head.frozen 2
     have hap := hdo.1.apart
     have hdm : d ≠ mb := (own_ne hap).2.2.1
     have HD := Lib.hid hdo
     clear hfl hdo
     go_wp2
     go_still_tail 12, (by kernel_rfl)
     change wpList _ _ _ _ _ w1.drew
     have hmap1 : MapAt (w1.drew.setCell ⟨d, 2, none⟩ (.int .i64 ((tot : Int) - (len : Int)))) mb (l ++ f :: m) := HD.out.1.map.kept (heapOther (Ne.symm hdm))
     go_wp2_with (first | (at_delete; refine wpList_del rfl _ _ rfl mb l f m s rfl rfl hmap1 N1.out N2.out hs2 ?_; intro w2 hmap2 hturn))
     go_wp2
     go_returns
     have hdo := HD.out
     have hh := hdo.1.head
     unfold HeadAt at hh
     have hg2 := hturn.grown
     have hbb : Beside [d, mb] w1 w2 := ((((Beside.refl [d, mb] w1).drew).setCell (by simp) _).grown hg2 (fun k hk => by cases hk; exact .inl (by simp)))
     have hpick : ∀ x ∈ l ++ m, ∃ y ∈ l ++ f :: m, x = { y with name := x.name } := fun x hx => ⟨x, by simp at hx ⊢; rcases hx with h1 | h1 <;> simp [h1], rfl⟩
     have hd2 : DiskAt w2 d mb (l ++ m) h.act := by
      refine hdo.1.pick hbb ?_ hmap2 hpick (own_self hap).2.1 (names_drop hdo.1.names)
      unfold HeadAt
      rw [hg2.block d (by have := hdo.1.head.lt; simpa using this) (by simpa using hdm)]
      show (w1.setCell _ _).heap[d]? = _
      rw [heapSame hh]
      have e : (tot : Int) - (len : Int) = ((total (l ++ m) : Nat) : Int) := by have h1 := HT.out; have h2 := HTT.out; have h3 := HL.out; omega
      rw [e]
      simp
     refine ⟨rfl, Makes.after hdo ⟨_, ⟨hd2, hbb.wider ?_, fun k hk => .inl (own_pick hpick k hk)⟩, rfl⟩⟩
     intro x hx
     simp at hx
     rcases hx with rfl | rfl <;> exact .inl (by simp [own])
def moved (s t : List UInt8) (fs : List File) : List File :=
 match lookA s fs with
 | none => fs
 | some f => if (lookA t (dropF s fs)).isSome then upd t (fun _ => { f with name := t }) (dropF s fs) else dropF s fs ++ [{ f with name := t }]
def moveF (h : Hd) (s t : List UInt8) (fs : List File) : List File := if h.may then moved s t fs else fs
theorem moved_to_new {s t : List UInt8} {l m : List Fil} {f : Fil} (hn : f.name = s) (hl : ∀ x ∈ l ++ m, x.name ≠ s) (ht : look t (l ++ m) = none) : moved s t (abs (l ++ f :: m)) = abs (l ++ m ++ [{ f with name := t }]) := by
 unfold moved
 rw [lookA_abs, (look_here hn hl).1]
 simp only [Option.map_some]
 rw [dropF_split hn hl, lookA_abs, ht]
 simp [abs, Fil.abs]
theorem moved_to_old {s t : List UInt8} {l m l2 m2 : List Fil} {f g : Fil} (hn : f.name = s) (hl : ∀ x ∈ l ++ m, x.name ≠ s) (he : l ++ m = l2 ++ g :: m2) (hg : g.name = t) (hl2 : ∀ x ∈ l2 ++ m2, x.name ≠ t) :
  moved s t (abs (l ++ f :: m)) = abs (l2 ++ { f with name := t } :: m2) := by
 unfold moved
 rw [lookA_abs, (look_here hn hl).1]
 simp only [Option.map_some]
 rw [dropF_split hn hl, he, lookA_abs, (look_here hg hl2).1]
 simp only [Option.map_some, Option.isSome_some, if_true]
 exact (upd_split (f' := { f with name := t }) hg hl2 rfl).symm
theorem move_any (d mb : Nat) (fs : List Fil) (h : Hd) (s t : List UInt8) (w : World) (hd : DiskAt w d mb fs h) (hf : h.fits) (hs2 : s.length ≤ 100000) (hok : okName t = true) (htot : total fs ≤ 1000000000000) (hlen : fs.length < 1000000000000) :
  Calls Tryz.prog 237 #[.pointer (some ⟨d, 0, none⟩), .string ⟨s.toArray⟩, .string ⟨t.toArray⟩] w fun e w' => e = .returned (.int .i64 (thereE h s (abs fs))) ∧ Makes d mb fs w (moveF h s t (abs fs)) h.act w' := by
 have ht2 := okName_len hok
 have HOK := Lib.hid hok
 clear hok
 cases hm : h.may with
 | false =>
   have e1 : thereE h s (abs fs) = 7 := by simp [thereE, hm]
   have e2 : moveF h s t (abs fs) = abs fs := by simp [moveF, hm]
   rw [e1, e2]
   clear e1 e2
   go_enter Tryz.func237, Tryz.ntmps237
   go_wp2_with fail
   refine (named_any t w HOK.out).mono ?_
   rintro e w0 ⟨rfl, hb0⟩
   have hd0 := hd.below hb0
   go_wp2_with fail
   refine (open_any d mb fs h s w0 hd0 hf hs2).mono ?_
   rintro e w1 ⟨rfl, hdo⟩
   rw [hm, show openE false (look s fs) = 7 from rfl]
   go_wp2
   go_returns
   exact ⟨rfl, (Makes.after hdo (makes_same hdo.1)).below hb0⟩
 | true =>
   cases hl : look s fs with
   | none =>
     have e1 : thereE h s (abs fs) = 2 := by simp [thereE, hm, lookA_abs, hl]
     have e2 : moveF h s t (abs fs) = abs fs := by simp [moveF, moved, hm, lookA_abs, hl]
     rw [e1, e2]
     clear e1 e2
     have e3 : openE true (look s fs) = 2 := by rw [hl]; rfl
     have E3 := Lib.hid e3
     clear e3 hl
     go_enter Tryz.func237, Tryz.ntmps237
     go_wp2_with fail
     refine (named_any t w HOK.out).mono ?_
     rintro e w0 ⟨rfl, hb0⟩
     have hd0 := hd.below hb0
     go_wp2_with fail
     refine (open_any d mb fs h s w0 hd0 hf hs2).mono ?_
     rintro e w1 ⟨rfl, hdo⟩
     rw [hm, E3.out]
     go_wp2
     go_returns
     exact ⟨rfl, (Makes.after hdo (makes_same hdo.1)).below hb0⟩
   | some f =>
     have e1 : thereE h s (abs fs) = 0 := by simp [thereE, hm, lookA_abs, hl]
     have e3 : openE true (look s fs) = 0 := by rw [hl]; rfl
     have e4 : openP true (look s fs) = some ⟨f.g, 0, none⟩ := by rw [hl]; rfl
     obtain ⟨l, m, rfl, hn1, hn2⟩ := look_split hl hd.names
     have e2 : moveF h s t (abs (l ++ f :: m)) = moved s t (abs (l ++ f :: m)) := by simp only [moveF, hm, if_true]
     rw [e1, e2]
     clear e1 e2
     have E3 := Lib.hid e3
     have E4 := Lib.hid e4
     have N1 := Lib.hid hn1
     have N2 := Lib.hid hn2
     have htd := total_drop l f m
     have HT := Lib.hid htd
     have hlen2 : (l ++ m).length < 1000000000000 := by simp at hlen ⊢; omega
     clear e3 e4 hl htd
     cases hlt : look t (l ++ m) with
     | none =>
       have hmv := moved_to_new hn1 hn2 hlt
       rw [hmv]
       have HLT := Lib.hid hlt
       clear hn1 hn2 hmv
       go_enter Tryz.func237, Tryz.ntmps237
       go_wp2_with fail
       refine (named_any t w HOK.out).mono ?_
       rintro e w0 ⟨rfl, hb0⟩
       have hd0 := hd.below hb0
       go_wp2_with fail
       refine (open_any d mb _ h s w0 hd0 hf hs2).mono ?_
       rintro e w1 ⟨rfl, hdo⟩
       rw [hm, E3.out, E4.out]
       obtain ⟨c0, _⟩ := hdo.1.head.cells
       have hap := hdo.1.apart
       have hdm : d ≠ mb := (own_ne hap).2.2.1
       have hmap1 := hdo.1.map
       have hdlt := hdo.1.head.lt
       have HD := Lib.hid hdo
       clear hdo hlt
       go_wp2_with (first | (at_delete; refine wpList_del rfl _ _ rfl mb l f m s rfl rfl hmap1 N1.out N2.out hs2 ?_))
       intro w2 hmap2 hturn
       have hg2 := hturn.grown
       have hh2 : HeadAt w2 d mb (total (l ++ f :: m)) h.act := (hg2.block d hdlt (by simpa using hdm)).trans HD.out.1.head
       obtain ⟨c02, _⟩ := hh2.cells
       have hlk := hmap2.run_look ht2
       rw [HLT.out, show at_ none = none from rfl] at hlk
       obtain ⟨w3, hst, hmap3, hturn3⟩ := hmap2.run_store (f := { f with name := t }) HLT.out ht2 hlen2
       have HG := Lib.hid hg2
       have HT3 := Lib.hid hturn3
       have HH2 := Lib.hid hh2
       clear hg2 hturn3 hh2 hturn
       simp only [] at hst
       go_wp2
       go_returns
       have hdo := HD.out
       have hg3 := HT3.out.grown
       have hbb : Beside [d, mb] w1 w3 := ((Beside.refl [d, mb] w1).grown HG.out (fun k hk => by cases hk; exact .inl (by simp))).grown hg3 (fun k hk => by cases hk; exact .inl (by simp))
       have hpick : ∀ x ∈ l ++ m ++ [{ f with name := t }], ∃ y ∈ l ++ f :: m, x = { y with name := x.name } := fun x hx => by
        simp at hx
        rcases hx with h1 | h1 | h1
        ·exact ⟨x, by simp [h1], rfl⟩
        ·exact ⟨x, by simp [h1], rfl⟩
        ·exact ⟨f, by simp, by rw [h1]⟩
       obtain ⟨a1, a2, a3⟩ := own_self hap
       have hd3 : DiskAt w3 d mb (l ++ m ++ [{ f with name := t }]) h.act := by
        refine hdo.1.pick hbb ?_ hmap3 hpick ?_ ?_
        ·have e : total (l ++ m ++ [{ f with name := t }]) = total (l ++ f :: m) := by rw [HT.out, total_append (l ++ m)]; simp only [total]; omega
         rw [e]
         exact (hg3.block d HH2.out.lt (by simpa using hdm)).trans HH2.out
        ·have := own_split d mb (l ++ m) { f with name := t } []
         rw [List.append_nil] at this
         rw [this.nodup_iff, List.nodup_append]
         exact ⟨a1, a2, fun k hk j hj e => a3 k hk (e ▸ hj)⟩
        ·rw [List.map_append, List.nodup_append]
         refine ⟨names_drop hdo.1.names, by simp, fun a ha b hb e => ?_⟩
         obtain ⟨x, hx, rfl⟩ := List.mem_map.1 ha
         simp at hb
         exact look_none.1 HLT.out x hx (e.trans hb)
       refine ⟨rfl, (Makes.after hdo ⟨_, ⟨hd3, hbb.wider ?_, fun k hk => .inl (own_pick hpick k hk)⟩, rfl⟩).below hb0⟩
       intro x hx
       simp at hx
       rcases hx with rfl | rfl <;> exact .inl (by simp [own])
     | some g =>
       have hnd2 := names_drop hd.names
       obtain ⟨l2, m2, he, hg1, hg2'⟩ := look_split hlt hnd2
       have hmv := moved_to_old hn1 hn2 he hg1 hg2'
       rw [hmv]
       have htd2 := total_drop l2 g m2
       rw [← he] at htd2
       have HLT := Lib.hid hlt
       have HE := Lib.hid he
       have G1 := Lib.hid hg1
       have G2 := Lib.hid hg2'
       obtain ⟨tot, htt⟩ : ∃ tot, tot = total (l ++ f :: m) := ⟨_, rfl⟩
       obtain ⟨len, hlen'⟩ : ∃ len, len = g.p.length := ⟨_, rfl⟩
       have hle : len ≤ tot := by have := HT.out; omega
       have hw1 : IntKind.i64.wrap ((tot : Int) - (len : Int)) = (tot : Int) - (len : Int) := IntWalk.i64_in _ (by omega)
       have HTT := Lib.hid htt
       have HL := Lib.hid hlen'
       have HT2 := Lib.hid htd2
       clear hn1 hn2 hmv hg1 hg2' he htd2 htt hlen' hlt
       go_enter Tryz.func237, Tryz.ntmps237
       go_wp2_with fail
       refine (named_any t w HOK.out).mono ?_
       rintro e w0 ⟨rfl, hb0⟩
       have hd0 := hd.below hb0
       go_wp2_with fail
       refine (open_any d mb _ h s w0 hd0 hf hs2).mono ?_
       rintro e w1 ⟨rfl, hdo⟩
       rw [hm, E3.out, E4.out]
       obtain ⟨c0, _⟩ := hdo.1.head.cells
       have hap := hdo.1.apart
       have hdm : d ≠ mb := (own_ne hap).2.2.1
       have hmap1 := hdo.1.map
       have hdlt := hdo.1.head.lt
       have hgin : g ∈ l ++ m := by rw [HE.out]; simp
       have hgin' : g ∈ l ++ f :: m := by simp at hgin ⊢; rcases hgin with h1 | h1 <;> simp [h1]
       have hfg := hdo.1.files g hgin'
       have hglt := hfg.lt g.g (by simp [Fil.own])
       have hgmb : g.g ≠ mb := by
        intro e
        have h1 := hap
        unfold own at h1
        rw [List.nodup_cons, List.nodup_cons] at h1
        exact h1.2.1 (e ▸ List.mem_flatMap.2 ⟨g, hgin', by simp [Fil.own]⟩)
       have HGM := Lib.hid hgmb
       have HFG := Lib.hid hfg
       have HD := Lib.hid hdo
       clear hdo hfg hgin hgin' hgmb
       go_wp2_with (first | (at_delete; refine wpList_del rfl _ _ rfl mb l f m s rfl rfl hmap1 N1.out N2.out hs2 ?_))
       intro w2 hmap2 hturn
       have hg2 := hturn.grown
       have hh2 : HeadAt w2 d mb (total (l ++ f :: m)) h.act := (hg2.block d hdlt (by simpa using hdm)).trans HD.out.1.head
       have hc2 : w2.cell? ⟨g.g, 0, none⟩ = some (.slice g.A g.p.length g.c) := by
        rw [cell_of_row w2 g.g _ _ _ _ ((hg2.block g.g hglt (by simpa using HGM.out)).trans HFG.out.1)]
        rfl
       rw [← HL.out] at hc2
       obtain ⟨c02, _, c22, _⟩ := hh2.cells
       rw [← HTT.out] at c22
       have f22 := hh2.frozen 2
       have hlk := hmap2.run_look ht2
       rw [HLT.out, show at_ (some g) = some ⟨g.g, 0, none⟩ from rfl] at hlk
       have hmap2' := hmap2
       rw [HE.out] at hmap2'
       have hdlt2 := hh2.lt
       have hmap3 : MapAt (w2.setCell ⟨d, 2, none⟩ (.int .i64 ((tot : Int) - (len : Int)))).drew mb (l2 ++ g :: m2) := hmap2'.kept (heapOther (Ne.symm hdm))
       obtain ⟨w4, hst, hmap4, hturn4⟩ := hmap3.run_replace G1.out G2.out ht2 (by rw [HE.out] at hlen2; exact hlen2) { f with name := t } rfl
       have HG := Lib.hid hg2
       have HT4 := Lib.hid hturn4
       have HH2 := Lib.hid hh2
       clear hg2 hturn4 hh2 hturn hmap2 hmap2' hmap3
       simp only [] at hst
       go_wp2
       go_still_tail 12, (by kernel_rfl)
       change wpList _ _ _ _ _ w2.drew
       go_wp2
       go_returns
       have hdo := HD.out
       have hg4 := HT4.out.grown
       have hh := HH2.out
       unfold HeadAt at hh
       have hbb : Beside [d, mb] w1 w4 := ((((Beside.refl [d, mb] w1).grown HG.out (fun k hk => by cases hk; exact .inl (by simp))).setCell (by simp) _).drew).grown hg4 (fun k hk => by cases hk; exact .inl (by simp))
       have hsub : ∀ x ∈ l2 ++ g :: m2, x ∈ l ++ f :: m := fun x hx => by
        rw [← HE.out] at hx
        simp at hx ⊢
        rcases hx with h1 | h1 <;> simp [h1]
       have hpick : ∀ x ∈ l2 ++ { f with name := t } :: m2, ∃ y ∈ l ++ f :: m, x = { y with name := x.name } := fun x hx => by
        simp at hx
        rcases hx with h1 | h1 | h1
        ·exact ⟨x, hsub x (by simp [h1]), rfl⟩
        ·exact ⟨f, by simp, by rw [h1]⟩
        ·exact ⟨x, hsub x (by simp [h1]), rfl⟩
       obtain ⟨a1, a2, a3⟩ := own_self hap
       have a2' := a2
       rw [HE.out] at a2'
       obtain ⟨b1, b2, b3⟩ := own_self a2'
       have hd4 : DiskAt w4 d mb (l2 ++ { f with name := t } :: m2) h.act := by
        refine hdo.1.pick hbb ?_ hmap4 hpick ?_ ?_
        ·unfold HeadAt
         rw [hg4.block d (by simpa using hdlt2) (by simpa using hdm)]
         show (w2.setCell _ _).heap[d]? = _
         rw [heapSame hh]
         have e : (tot : Int) - (len : Int) = ((total (l2 ++ { f with name := t } :: m2) : Nat) : Int) := by
          have h1 := HT.out
          have h2 := HT2.out
          have h3 := HTT.out
          have h4 := HL.out
          have h5 := total_drop l2 { f with name := t } m2
          simp only [] at h5
          omega
         rw [e]
         simp
        ·rw [(own_split d mb l2 { f with name := t } m2).nodup_iff, List.nodup_append]
         exact ⟨a1, b2, fun k hk j hj e => a3 k hk (by rw [HE.out, e]; exact mem_own_split.2 (.inr hj))⟩
        ·have hnm := names_drop hdo.1.names
         rw [HE.out] at hnm
         simpa [G1.out] using hnm
       refine ⟨rfl, (Makes.after hdo ⟨_, ⟨hd4, hbb.wider ?_, fun k hk => .inl (own_pick hpick k hk)⟩, rfl⟩).below hb0⟩
       intro x hx
       simp at hx
       rcases hx with rfl | rfl <;> exact .inl (by simp [own])
theorem infoStr : (Tryz.prog.info? 9).map (fun i => (i.zero, i.size, i.bytes)) = some (some (.string ByteArray.empty), 1, 16) := by kernel_rfl
def Disk (w : World) (d : Nat) (S : List Nat) (files : List File) (h : Hd) : Prop := ∃ mb fs, DiskAt w d mb fs h ∧ abs fs = files ∧ S = own d mb fs
def Next (S : List Nat) (w : World) (d : Nat) (files : List File) (h : Hd) (w' : World) : Prop :=
 ∃ S', Disk w' d S' files h ∧ Beside S w w' ∧ ∀ k ∈ S', k ∈ S ∨ w.heap.size ≤ k
theorem Disk.lt {w : World} {d : Nat} {S : List Nat} {files : List File} {h : Hd} (hd : Disk w d S files h) : ∀ k ∈ S, k < w.heap.size := by
 obtain ⟨mb, fs, ha, _, rfl⟩ := hd
 exact ha.lt
theorem Disk.beside {w w' : World} {d : Nat} {S T : List Nat} {files : List File} {h : Hd} (hd : Disk w d S files h) (hb : Beside T w w') (hT : ∀ x ∈ T, x ∉ S) : Disk w' d S files h := by
 obtain ⟨mb, fs, ha, hf, rfl⟩ := hd
 exact ⟨mb, fs, ha.beside hb hT, hf, rfl⟩
theorem Disk.below {w w' : World} {d : Nat} {S : List Nat} {files : List File} {h : Hd} (hd : Disk w d S files h) (hb : Below w.heap.size w w') : Disk w' d S files h := by
 obtain ⟨mb, fs, ha, hf, rfl⟩ := hd
 exact ⟨mb, fs, ha.below hb, hf, rfl⟩
theorem next_of_makes {d mb : Nat} {fs : List Fil} {w w' : World} {files : List File} {h : Hd} (hm : Makes d mb fs w files h w') : Next (own d mb fs) w d files h w' := by
 obtain ⟨fs', hdo, hf⟩ := hm
 exact ⟨_, ⟨mb, fs', hdo.1, hf, rfl⟩, hdo.2.1, hdo.2.2⟩
theorem Next.step {S : List Nat} {w w1 w2 : World} {d : Nat} {f2 : List File} {h2 : Hd} {S1 : List Nat} (hb : Beside S w w1) (hS : ∀ k ∈ S1, k ∈ S ∨ w.heap.size ≤ k) (hn : Next S1 w1 d f2 h2 w2) : Next S w d f2 h2 w2 := by
 obtain ⟨S2, hd, hb2, hs2⟩ := hn
 refine ⟨S2, hd, hb.trans hb2 hS, fun k hk => ?_⟩
 rcases hs2 k hk with h | h
 ·exact hS k h
 ·have := hb.size; exact .inr (by omega)
theorem newC (room : Int) (w : World) :
  Calls Tryz.prog 23 #[.int .i64 room] w fun e w' => ∃ d S, e = .returned (.pointer (some ⟨d, 0, none⟩)) ∧ Disk w' d S [] ⟨room, 0, -1, 0, false⟩ ∧ (∀ k ∈ S, w.heap.size ≤ k) ∧ Below w.heap.size w w' := by
 refine (new_any room w).mono ?_
 rintro e w' ⟨rfl, hd, hb⟩
 exact ⟨_, _, rfl, ⟨_, [], hd, rfl, rfl⟩, fun k hk => by simp [own] at hk; omega, hb⟩
theorem appendC (d : Nat) (S : List Nat) (files : List File) (h : Hd) (s : List UInt8) (A : Option Addr) (n c : Nat) (q : List UInt8) (w : World) (hd : Disk w d S files h) (hf : h.fits) (ha : h.acts < 1000000000000) (hs : okName s = true)
  (ht : sumA files ≤ 1000000000000) (hfs : files.length < 1000000000000) (hn : n ≤ 1000000000000) (hnc : n ≤ c) (hcc : c ≤ 9223372036854775807) (hq : Sees w A n q) (hout : Out S A n) :
  Calls Tryz.prog 283 #[.pointer (some ⟨d, 0, none⟩), .string ⟨s.toArray⟩, .slice A n c] w fun e w' => e = .returned (.int .i64 (appE h s q files)) ∧ Next S w d (appF h s q files) h.act w' := by
 obtain ⟨mb, fs, hda, rfl, rfl⟩ := hd
 refine (append_any d mb fs h s A n c q w hda hf ha hs (by rw [← sumA_abs]; exact ht) (by simpa [abs] using hfs) hn hnc hcc hq hout).mono ?_
 rintro e w' ⟨rfl, hm⟩
 exact ⟨rfl, next_of_makes hm⟩
theorem syncC (d : Nat) (S : List Nat) (files : List File) (h : Hd) (s : List UInt8) (w : World) (hd : Disk w d S files h) (hf : h.fits) (hs2 : s.length ≤ 100000) (ht : sumA files ≤ 1000000000000) :
  Calls Tryz.prog 71 #[.pointer (some ⟨d, 0, none⟩), .string ⟨s.toArray⟩] w fun e w' => e = .returned (.int .i64 (thereE h s files)) ∧ Next S w d (thereF h s syncG files) h.act w' := by
 obtain ⟨mb, fs, hda, rfl, rfl⟩ := hd
 refine (sync_any d mb fs h s w hda hf hs2 (by rw [← sumA_abs]; exact ht)).mono ?_
 rintro e w' ⟨rfl, hm⟩
 exact ⟨rfl, next_of_makes hm⟩
theorem readC (d : Nat) (S : List Nat) (files : List File) (h : Hd) (s : List UInt8) (w : World) (hd : Disk w d S files h) (hs2 : s.length ≤ 100000) (ht : sumA files ≤ 1000000000000) :
  Calls Tryz.prog 240 #[.pointer (some ⟨d, 0, none⟩), .string ⟨s.toArray⟩] w (Tells (readP h s files) (readE h s files) w) := by
 obtain ⟨mb, fs, hda, rfl, rfl⟩ := hd
 exact read_any d mb fs h s w hda hs2 (by rw [← sumA_abs]; exact ht)
theorem safeC (d : Nat) (S : List Nat) (files : List File) (h : Hd) (s : List UInt8) (w : World) (hd : Disk w d S files h) (hs2 : s.length ≤ 100000) :
  Calls Tryz.prog 126 #[.pointer (some ⟨d, 0, none⟩), .string ⟨s.toArray⟩] w fun e w' => e = .returned (.int .i64 (safeN s files : Int)) ∧ w = w' := by
 obtain ⟨mb, fs, hda, rfl, rfl⟩ := hd
 exact safe_any d mb fs h s w hda hs2
theorem Next.refl {S : List Nat} {w : World} {d : Nat} {files : List File} {h : Hd} (hd : Disk w d S files h) : Next S w d files h w := ⟨S, hd, Beside.refl _ _, fun k hk => .inl hk⟩
theorem Next.below {S : List Nat} {w0 w w' : World} {d : Nat} {files : List File} {h : Hd} (hb : Below w0.heap.size w0 w) (hn : Next S w d files h w') : Next S w0 d files h w' :=
 Next.step (Beside.of_below hb S) (fun k hk => .inl hk) hn
theorem removeC (d : Nat) (S : List Nat) (files : List File) (h : Hd) (s : List UInt8) (w : World) (hd : Disk w d S files h) (hf : h.fits) (hs2 : s.length ≤ 100000) (ht : sumA files ≤ 1000000000000) :
  Calls Tryz.prog 116 #[.pointer (some ⟨d, 0, none⟩), .string ⟨s.toArray⟩] w fun e w' => e = .returned (.int .i64 (thereE h s files)) ∧ Next S w d (removeF h s files) h.act w' := by
 obtain ⟨mb, fs, hda, rfl, rfl⟩ := hd
 refine (remove_any d mb fs h s w hda hf hs2 (by rw [← sumA_abs]; exact ht)).mono ?_
 rintro e w' ⟨rfl, hm⟩
 exact ⟨rfl, next_of_makes hm⟩
theorem moveC (d : Nat) (S : List Nat) (files : List File) (h : Hd) (s t : List UInt8) (w : World) (hd : Disk w d S files h) (hf : h.fits) (hs2 : s.length ≤ 100000) (hok : okName t = true) (ht : sumA files ≤ 1000000000000) (hfs : files.length < 1000000000000) :
  Calls Tryz.prog 237 #[.pointer (some ⟨d, 0, none⟩), .string ⟨s.toArray⟩, .string ⟨t.toArray⟩] w fun e w' => e = .returned (.int .i64 (thereE h s files)) ∧ Next S w d (moveF h s t files) h.act w' := by
 obtain ⟨mb, fs, hda, rfl, rfl⟩ := hd
 refine (move_any d mb fs h s t w hda hf hs2 hok (by rw [← sumA_abs]; exact ht) (by simpa [abs] using hfs)).mono ?_
 rintro e w' ⟨rfl, hm⟩
 exact ⟨rfl, next_of_makes hm⟩
end Go.Proofs.YtinjbdgjcadodaaGreatDoor.Dsk
