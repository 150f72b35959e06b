/- disk.Append, Sync, Read, Safe: their contracts. disk.Sync, Read, Safe: their contracts. -/
import Derived.Test.YtokfajlmephdeaaDoorDiskWrite
import Derived.Test.YtokfajlmephdeaaDoorClone
namespace Go.Proofs.YtokfajlmephdeaaDoor.Dsk
open Go Go.RowKit Go.Proofs.YtokfajlmephdeaaDoor.Words
set_option linter.unusedVariables false

/-- How many bytes all files have. -/
def sumA : List File → Nat
  | [] => 0
  | f :: r => f.p.length + sumA r
theorem sumA_abs : ∀ fs : List Fil, sumA (abs fs) = total fs
  | [] => rfl
  | f :: r => by
    have := sumA_abs r
    simp only [abs, List.map_cons, sumA, total, Fil.abs] at this ⊢
    omega
def lookA (s : List UInt8) (fs : List File) : Option File := fs.find? fun f => decide (f.name = s)
theorem lookA_abs (s : List UInt8) : ∀ fs : List Fil, lookA s (abs fs) = (look s fs).map Fil.abs
  | [] => rfl
  | f :: r => by
    have ih := lookA_abs s r
    simp only [lookA, look, abs, List.map_cons, List.find?_cons] at ih ⊢
    by_cases h : f.name = s
    · simp [h, Fil.abs]
    · have h1 : (decide (f.abs.name = s)) = false := decide_eq_false h
      have h2 : (decide (f.name = s)) = false := decide_eq_false h
      rw [h1, h2]
      exact ih
/-- The file of a name turned. -/
def upd (s : List UInt8) (g : File → File) (fs : List File) : List File := fs.map fun f => if f.name = s then g f else f
theorem upd_split {s : List UInt8} {g : File → File} {l m : List Fil} {f f' : Fil} (hs : f.name = s) (hl : ∀ x ∈ l ++ m, x.name ≠ s) (hf : f'.abs = g f.abs) : abs (l ++ f' :: m) = upd s g (abs (l ++ f :: m)) := by
  have h : ∀ k : List Fil, (∀ x ∈ k, x.name ≠ s) → upd s g (abs k) = abs k := by
    intro k hk
    simp only [upd, abs, List.map_map]
    apply List.map_congr_left
    intro x hx
    simp only [Function.comp_apply]
    rw [if_neg (by simpa [Fil.abs] using hk x hx)]
  have h1 := h l fun x hx => hl x (by simp [hx])
  have h2 := h m fun x hx => hl x (by simp [hx])
  simp only [upd, abs, List.map_append, List.map_cons] at h1 h2 ⊢
  rw [h1, h2, if_pos (by simpa [Fil.abs] using hs), hf]

/-- What a torn Append leaves. -/
def tornF (h : Hd) (s q : List UInt8) (fs : List File) : List File :=
  if 0 < h.torn ∧ ((sumA fs : Int) + min h.torn q.length ≤ h.room) then put s (q.take h.torn.toNat) fs else fs

theorem makes_same {d mb : Nat} {fs : List Fil} {h : Hd} {w : World} (hd : DiskAt w d mb fs h) : Makes d mb fs w (abs fs) h w := ⟨fs, Does.same hd, rfl⟩
theorem Makes.after {d mb : Nat} {fs fs1 : List Fil} {files : List File} {h1 h2 : Hd} {w w1 w2 : World} (a : Does d mb fs w fs1 h1 w1) (b : Makes d mb fs1 w1 files h2 w2) : Makes d mb fs w files h2 w2 := by
  obtain ⟨fs', hb, hf⟩ := b
  exact ⟨fs', a.next hb, hf⟩
theorem Makes.below {d mb : Nat} {fs : List Fil} {files : List File} {h1 : Hd} {w0 w w1 : World} (h : Below w0.heap.size w0 w) (b : Makes d mb fs w files h1 w1) : Makes d mb fs w0 files h1 w1 := by
  obtain ⟨fs', hb, hf⟩ := b
  exact ⟨fs', Does.below h hb, hf⟩
theorem makes_drewN {d mb : Nat} {fs : List Fil} {files : List File} {h1 : Hd} {w w1 : World} (k : Nat) (b : Makes d mb fs (w.drewN k) files h1 w1) : Makes d mb fs w files h1 w1 := Makes.below (w := w.drewN k) ⟨rfl, rfl, rfl, Nat.le_refl _, fun _ _ => rfl⟩ b
theorem DiskAt.drewN {w : World} {d mb : Nat} {fs : List Fil} {h : Hd} (hd : DiskAt w d mb fs h) (k : Nat) : DiskAt (w.drewN k) d mb fs h := hd.kept fun _ _ => rfl

set_option maxRecDepth 100000 in
theorem tear_any (d mb : Nat) (fs : List Fil) (h : Hd) (s : List UInt8) (S : Option Addr) (n c : Nat) (q : List UInt8) (w : World) (hd : DiskAt w d mb fs h) (hf : h.fits) (hs2 : s.length ≤ 100000)
    (ht : total fs ≤ 1000000000000) (hfs : fs.length < 1000000000000) (hn : n ≤ 1000000000000) (hnc : n ≤ c) (hcc : c ≤ 9223372036854775807) (hq : Sees w S n q) :
    Calls Tryd.prog 36 #[.pointer (some ⟨d, 0, none⟩), .string ⟨s.toArray⟩, .slice S n c] w fun e w' => e = .returned (.tuple #[]) ∧ Makes d mb fs w (tornF h s q (abs fs)) h w' := by
  obtain ⟨_, _, _, _, _, c5, _⟩ := hd.head.cells
  have hlq := hq.1
  by_cases h0 : h.torn ≤ 0
  · have e0 : tornF h s q (abs fs) = abs fs := by unfold tornF; rw [if_neg (by omega)]
    rw [e0]
    go_enter Tryd.func36, Tryd.ntmps36
    go_wp2
    go_returns
    exact ⟨rfl, makes_same hd⟩
  · obtain ⟨t, htt⟩ : ∃ t : Nat, h.torn = (t : Int) := ⟨h.torn.toNat, by omega⟩
    have h0' : 0 < t := by omega
    have h1' : ¬ t = 0 := by omega
    rw [htt] at c5
    obtain ⟨k, hk⟩ : ∃ k : Nat, k = min t n := ⟨_, rfl⟩
    have hkn : k ≤ n := by omega
    have hkc : k ≤ c := by omega
    have hmin : min (t : Int) (n : Int) = (k : Int) := by omega
    have htake : q.take h.torn.toNat = q.take k := by
      rw [hk, htt, Int.toNat_natCast]
      rcases Nat.le_total t n with h1 | h1
      · rw [Nat.min_eq_left h1]
      · rw [Nat.min_eq_right h1, List.take_of_length_le (by omega), List.take_of_length_le (by omega)]
    have hsum : sumA (abs fs) = total fs := sumA_abs fs
    have hq' := hq.take hkn
    have HT := Lib.hid htake
    have HK := Lib.hid hk
    have HTT := Lib.hid htt
    have HS := Lib.hid hsum
    clear htake hk htt hsum hq
    go_enter Tryd.func36, Tryd.ntmps36
    go_wp2_with fail
    refine (fits_any d mb fs h S k c w hd hf ht (by omega)).mono ?_
    rintro e w1 ⟨rfl, k1, rfl⟩
    by_cases hr : (total fs : Int) + k ≤ h.room
    · have e1 : decide ((total fs : Int) + k ≤ h.room) = true := by simpa using hr
      have e0 : tornF h s q (abs fs) = put s (q.take k) (abs fs) := by
        unfold tornF
        rw [HS.out, HTT.out, hlq, hmin, if_pos ⟨by omega, hr⟩, ← HTT.out, HT.out]
      have E0 := Lib.hid e0
      rw [e1]
      clear e0 e1 hr hmin
      go_wp2_with fail
      refine (write_any d mb fs h s S k c (q.take k) (w.drewN k1) (hd.drewN k1) hs2 ht hfs (by omega) (hq'.drewN k1)).mono ?_
      rintro e w2 ⟨rfl, hm⟩
      go_wp2
      go_returns
      rw [E0.out]
      exact ⟨rfl, makes_drewN k1 hm⟩
    · have e1 : decide ((total fs : Int) + k ≤ h.room) = false := by simpa using hr
      have e0 : tornF h s q (abs fs) = abs fs := by
        unfold tornF
        rw [HS.out, HTT.out, hlq, hmin, if_neg (fun x => hr x.2)]
      have E0 := Lib.hid e0
      rw [e1]
      clear e0 e1 hr hmin
      go_wp2
      go_returns
      rw [E0.out]
      exact ⟨rfl, makes_drewN k1 (makes_same (hd.drewN k1))⟩

/-- What Append answers, and what it leaves. -/
def appE (h : Hd) (s q : List UInt8) (fs : List File) : Int := if h.may then (if (sumA fs : Int) + q.length ≤ h.room then 0 else 3) else 7
def appF (h : Hd) (s q : List UInt8) (fs : List File) : List File :=
  if h.off then fs else if h.left = 0 then tornF h.act s q fs else if (sumA fs : Int) + q.length ≤ h.room then put s q fs else fs

theorem Hd.fits_act {h : Hd} (hf : h.fits) (ha : h.acts < 1000000000000) : h.act.fits := by
  obtain ⟨h1, h2, h3, h4⟩ := hf
  unfold Hd.act
  split
  · exact ⟨h1, h2, h3, h4⟩
  · refine ⟨h1, by simp; omega, ?_, h4⟩
    simp only
    split <;> omega

set_option maxRecDepth 100000 in
theorem append_any (d mb : Nat) (fs : List Fil) (h : Hd) (s : List UInt8) (S : Option Addr) (n c : Nat) (q : List UInt8) (w : World) (hd : DiskAt w d mb fs h) (hf : h.fits) (ha : h.acts < 1000000000000) (hs : okName s = true)
    (ht : total fs ≤ 1000000000000) (hfs : fs.length < 1000000000000) (hn : n ≤ 1000000000000) (hnc : n ≤ c) (hcc : c ≤ 9223372036854775807) (hq : Sees w S n q) (hout : Out (own d mb fs) S n) :
    Calls Tryd.prog 18 #[.pointer (some ⟨d, 0, none⟩), .string ⟨s.toArray⟩, .slice S n c] w fun e w' => e = .returned (.int .i64 (appE h s q (abs fs))) ∧ Makes d mb fs w (appF h s q (abs fs)) h.act w' := by
  have hlq := hq.1
  have hs2 := okName_len hs
  have hsum := Lib.hid (sumA_abs fs)
  have HOK := Lib.hid hs
  have HLQ := Lib.hid hlq
  clear hlq hs
  cases hoff : h.off with
  | true =>
    have e1 : appE h s q (abs fs) = 7 := by simp [appE, Hd.may, hoff]
    have e2 : appF h s q (abs fs) = abs fs := by simp [appF, hoff]
    have e3 : h.act = h := by simp [Hd.act, hoff]
    rw [e1, e2, e3]
    clear e1 e2 e3
    go_enter Tryd.func18, Tryd.ntmps18
    go_wp2_with fail
    refine (named_any s w HOK.out).mono ?_
    rintro e w1 ⟨rfl, hb1⟩
    have hd1 := hd.below hb1
    go_wp2_with fail
    refine (on_any d mb fs h w1 hd1).mono ?_
    rintro e w2 ⟨rfl, rfl⟩
    rw [hoff]
    go_wp2
    go_returns
    exact ⟨rfl, (makes_same hd1).below hb1⟩
  | false =>
    by_cases hl : h.left = 0
    · have hmay : h.may = false := by simp [Hd.may, hl]
      have e1 : appE h s q (abs fs) = 7 := by simp [appE, hmay]
      have e2 : appF h s q (abs fs) = tornF h.act s q (abs fs) := by simp [appF, hoff, hl]
      rw [e1, e2]
      clear e1 e2
      have HL := Lib.hid hl
      clear hl
      go_enter Tryd.func18, Tryd.ntmps18
      go_wp2_with fail
      refine (named_any s w HOK.out).mono ?_
      rintro e w1 ⟨rfl, hb1⟩
      have hd1 := hd.below hb1
      go_wp2_with fail
      refine (on_any d mb fs h w1 hd1).mono ?_
      rintro e w2 ⟨rfl, rfl⟩
      rw [hoff]
      go_wp2_with fail
      refine (act_any d mb fs h w1 hd1 hf).mono ?_
      rintro e w2 ⟨rfl, hdo⟩
      rw [hmay]
      have hq2 : Sees w2 S n q := (hq.below hb1).beside hdo.2.1 hout
      go_wp2_with fail
      refine (tear_any d mb fs h.act s S n c q w2 hdo.1 (Hd.fits_act hf ha) hs2 ht hfs hn hnc hcc hq2).mono ?_
      rintro e w3 ⟨rfl, hm⟩
      go_wp2
      go_returns
      exact ⟨rfl, (Makes.after hdo hm).below hb1⟩
    · have hmay : h.may = true := by simp [Hd.may, hoff, hl]
      have hact : h.act.room = h.room := by simp [Hd.act, hoff]
      by_cases hr : (total fs : Int) + n ≤ h.room
      · have hr' : (sumA (abs fs) : Int) + q.length ≤ h.room := by rw [hsum.out, HLQ.out]; exact hr
        have e1 : appE h s q (abs fs) = 0 := by simp [appE, hmay, hr']
        have e2 : appF h s q (abs fs) = put s q (abs fs) := by simp [appF, hoff, hl, hr']
        have e3 : decide ((total fs : Int) + n ≤ h.act.room) = true := by rw [hact]; simpa using hr
        rw [e1, e2]
        have E3 := Lib.hid e3
        clear e1 e2 e3 hr hr' hl hact
        go_enter Tryd.func18, Tryd.ntmps18
        go_wp2_with fail
        refine (named_any s w HOK.out).mono ?_
        rintro e w1 ⟨rfl, hb1⟩
        have hd1 := hd.below hb1
        go_wp2_with fail
        refine (on_any d mb fs h w1 hd1).mono ?_
        rintro e w2 ⟨rfl, rfl⟩
        rw [hoff]
        go_wp2_with fail
        refine (act_any d mb fs h w1 hd1 hf).mono ?_
        rintro e w2 ⟨rfl, hdo⟩
        rw [hmay]
        have hq2 : Sees w2 S n q := (hq.below hb1).beside hdo.2.1 hout
        go_wp2_with fail
        refine (fits_any d mb fs h.act S n c w2 hdo.1 (Hd.fits_act hf ha) ht hn).mono ?_
        rintro e w3 ⟨rfl, k1, rfl⟩
        rw [E3.out]
        go_wp2_with fail
        refine (write_any d mb fs h.act s S n c q (w2.drewN k1) (hdo.1.drewN k1) hs2 ht hfs hn (hq2.drewN k1)).mono ?_
        rintro e w4 ⟨rfl, hm⟩
        go_wp2
        go_returns
        exact ⟨rfl, (Makes.after hdo (makes_drewN k1 hm)).below hb1⟩
      · have hr' : ¬ (sumA (abs fs) : Int) + q.length ≤ h.room := by rw [hsum.out, HLQ.out]; exact hr
        have e1 : appE h s q (abs fs) = 3 := by simp [appE, hmay]; omega
        have e2 : appF h s q (abs fs) = abs fs := by simp [appF, hoff, hl]; omega
        have e3 : decide ((total fs : Int) + n ≤ h.act.room) = false := by rw [hact]; simpa using hr
        rw [e1, e2]
        have E3 := Lib.hid e3
        clear e1 e2 e3 hr hr' hl hact
        go_enter Tryd.func18, Tryd.ntmps18
        go_wp2_with fail
        refine (named_any s w HOK.out).mono ?_
        rintro e w1 ⟨rfl, hb1⟩
        have hd1 := hd.below hb1
        go_wp2_with fail
        refine (on_any d mb fs h w1 hd1).mono ?_
        rintro e w2 ⟨rfl, rfl⟩
        rw [hoff]
        go_wp2_with fail
        refine (act_any d mb fs h w1 hd1 hf).mono ?_
        rintro e w2 ⟨rfl, hdo⟩
        rw [hmay]
        go_wp2_with fail
        refine (fits_any d mb fs h.act S n c w2 hdo.1 (Hd.fits_act hf ha) ht hn).mono ?_
        rintro e w3 ⟨rfl, k1, rfl⟩
        rw [E3.out]
        go_wp2
        go_returns
        exact ⟨rfl, (Makes.after hdo (makes_drewN k1 (makes_same (hdo.1.drewN k1)))).below hb1⟩
end Go.Proofs.YtokfajlmephdeaaDoor.Dsk
namespace Go.Proofs.YtokfajlmephdeaaDoor.Dsk
open Go Go.RowKit Go.Proofs.YtokfajlmephdeaaDoor.Words
set_option linter.unusedVariables false

/-- What an operation on a file that must be there answers. -/
def thereE (h : Hd) (s : List UInt8) (fs : List File) : Int := if h.may then (if (lookA s fs).isSome then 0 else 2) else 7
/-- .. and what it leaves. -/
def thereF (h : Hd) (s : List UInt8) (g : File → File) (fs : List File) : List File := if h.may then upd s g fs else fs
theorem upd_none {s : List UInt8} {g : File → File} {fs : List Fil} (h : look s fs = none) : upd s g (abs fs) = abs fs := by
  simp only [upd, abs, List.map_map]
  apply List.map_congr_left
  intro x hx
  simp only [Function.comp_apply]
  rw [if_neg (by simpa [Fil.abs] using look_none.1 h x hx)]
def syncG (f : File) : File := { f with safe := f.p.length }

set_option maxRecDepth 100000 in
theorem sync_any (d mb : Nat) (fs : List Fil) (h : Hd) (s : List UInt8) (w : World) (hd : DiskAt w d mb fs h) (hf : h.fits) (hs2 : s.length ≤ 100000) (ht : total fs ≤ 1000000000000) :
    Calls Tryd.prog 50 #[.pointer (some ⟨d, 0, none⟩), .string ⟨s.toArray⟩] w fun e w' => e = .returned (.int .i64 (thereE h s (abs fs))) ∧ Makes d mb fs w (thereF h s syncG (abs fs)) h.act w' := by
  cases hm : h.may with
  | false =>
    have e1 : thereE h s (abs fs) = 7 := by simp [thereE, hm]
    have e2 : thereF h s syncG (abs fs) = abs fs := by simp [thereF, hm]
    rw [e1, e2]
    clear e1 e2
    go_enter Tryd.func50, Tryd.ntmps50
    go_wp2_with fail
    refine (open_any d mb fs h s w hd hf hs2).mono ?_
    rintro e w1 ⟨rfl, hdo⟩
    rw [hm, show openE false (look s fs) = 7 from rfl]
    go_wp2
    go_returns
    exact ⟨rfl, Makes.after hdo (makes_same hdo.1)⟩
  | true =>
    cases hl : look s fs with
    | none =>
      have e1 : thereE h s (abs fs) = 2 := by simp [thereE, hm, lookA_abs, hl]
      have e2 : thereF h s syncG (abs fs) = abs fs := by simp [thereF, hm, upd_none hl]
      rw [e1, e2]
      clear e1 e2
      have e3 : openE true (look s fs) = 2 := by rw [hl]; rfl
      have E3 := Lib.hid e3
      clear e3 hl
      go_enter Tryd.func50, Tryd.ntmps50
      go_wp2_with fail
      refine (open_any d mb fs h s w hd hf hs2).mono ?_
      rintro e w1 ⟨rfl, hdo⟩
      rw [hm, E3.out]
      go_wp2
      go_returns
      exact ⟨rfl, Makes.after hdo (makes_same hdo.1)⟩
    | some f =>
      have e1 : thereE h s (abs fs) = 0 := by simp [thereE, hm, lookA_abs, hl]
      have e2 : thereF h s syncG (abs fs) = upd s syncG (abs fs) := by simp [thereF, hm]
      rw [e1, e2]
      clear e1 e2
      have e3 : openE true (look s fs) = 0 := by rw [hl]; rfl
      have e4 : openP true (look s fs) = some ⟨f.g, 0, none⟩ := by rw [hl]; rfl
      obtain ⟨l, m, rfl, hn1, hn2⟩ := look_split hl hd.names
      have E3 := Lib.hid e3
      have E4 := Lib.hid e4
      have N1 := Lib.hid hn1
      have N2 := Lib.hid hn2
      clear e3 e4 hl hn1 hn2
      go_enter Tryd.func50, Tryd.ntmps50
      go_wp2_with fail
      refine (open_any d mb _ h s w hd hf hs2).mono ?_
      rintro e w1 ⟨rfl, hdo⟩
      rw [hm, E3.out, E4.out]
      have hfl := hdo.1.files f (by simp)
      obtain ⟨g0, g1⟩ := hfl.cells
      have q1 := hfl.frozen 1
      have HF := Lib.hid hfl
      clear hfl
      go_wp2
      go_returns
      have hd1 := hdo.1
      obtain ⟨n1, n2, n3, n4⟩ := own_ne hd1.apart
      have hbes : Beside (d :: f.own) w1 (w1.setCell ⟨f.g, 1, none⟩ (.int .i64 (f.p.length : Int))) := (Beside.refl _ _).setCell (by simp [Fil.own]) _
      have hle := hd1.safe f (by simp)
      refine ⟨rfl, Makes.after hdo ⟨_, ⟨hd1.turnFile (f' := { f with safe := f.p.length }) hbes ?_ ⟨?_, ?_⟩ rfl rfl (fun k hk => .inl hk) (own_self hd1.apart).1 (Nat.le_refl _), hbes.wider ?_, ?_⟩, upd_split N1.out N2.out rfl⟩⟩
      · have e : total (l ++ ({ f with safe := f.p.length } : Fil) :: m) = total (l ++ f :: m) := by simp [total_append, total]
        rw [e]
        exact (heapOther (Ne.symm n1)).trans hd1.head
      · exact (heapSame HF.out.1).trans (by simp)
      · refine HF.out.2.kept fun a ha => heapOther (n4 a ha).2.2
      · intro x hx
        rcases List.mem_cons.1 hx with rfl | hx
        · exact .inl (by simp [own])
        · exact .inl (mem_own_split.2 (.inl hx))
      · intro k hk
        rw [mem_own_split] at hk
        exact .inl (mem_own_split.2 hk)

/-- What Read tells: the bytes, the error. -/
def readP (h : Hd) (s : List UInt8) (fs : List File) : List UInt8 := if h.off then [] else match lookA s fs with | some f => f.p | none => []
def readE (h : Hd) (s : List UInt8) (fs : List File) : Int := if h.off then 7 else if (lookA s fs).isSome then 0 else 2
def Tells (l : List UInt8) (x : Int) (w : World) (e : Ending) (w' : World) : Prop :=
  ∃ A c, e = .returned (.tuple #[.slice A l.length c, .int .i64 x]) ∧ w'.ownsRow w.heap.size 5 1 (.slice A l.length c) l.length (cs l) ∧ Below w.heap.size w w'

set_option maxRecDepth 100000 in
theorem read_any (d mb : Nat) (fs : List Fil) (h : Hd) (s : List UInt8) (w : World) (hd : DiskAt w d mb fs h) (hs2 : s.length ≤ 100000) (ht : total fs ≤ 1000000000000) :
    Calls Tryd.prog 14 #[.pointer (some ⟨d, 0, none⟩), .string ⟨s.toArray⟩] w (Tells (readP h s (abs fs)) (readE h s (abs fs)) w) := by
  cases hoff : h.off with
  | true =>
    have e1 : readP h s (abs fs) = [] := by simp [readP, hoff]
    have e2 : readE h s (abs fs) = 7 := by simp [readE, hoff]
    rw [e1, e2]
    clear e1 e2
    go_enter Tryd.func14, Tryd.ntmps14
    go_wp2_with fail
    refine (on_any d mb fs h w hd).mono ?_
    rintro e w1 ⟨rfl, rfl⟩
    rw [hoff]
    go_wp2
    go_returns
    exact ⟨none, 0, rfl, Own.nil _ _ _, Below.refl _ _⟩
  | false =>
    obtain ⟨c0, _⟩ := hd.head.cells
    have hlk := hd.map.run_look hs2
    cases hl : look s fs with
    | none =>
      have e1 : readP h s (abs fs) = [] := by simp [readP, hoff, lookA_abs, hl]
      have e2 : readE h s (abs fs) = 2 := by simp [readE, hoff, lookA_abs, hl]
      rw [e1, e2]
      clear e1 e2
      rw [hl, show at_ none = none from rfl] at hlk
      clear hl
      go_enter Tryd.func14, Tryd.ntmps14
      go_wp2_with fail
      refine (on_any d mb fs h w hd).mono ?_
      rintro e w1 ⟨rfl, rfl⟩
      rw [hoff]
      go_wp2
      go_returns
      exact ⟨none, 0, rfl, Own.nil _ _ _, Below.refl _ _⟩
    | some f =>
      have e1 : readP h s (abs fs) = f.p := by simp [readP, hoff, lookA_abs, hl, Fil.abs]
      have e2 : readE h s (abs fs) = 0 := by simp [readE, hoff, lookA_abs, hl]
      rw [e1, e2]
      clear e1 e2
      rw [hl, show at_ (some f) = some ⟨f.g, 0, none⟩ from rfl] at hlk
      have hm := (look_mem hl).1
      have hfl := hd.files f hm
      have hle : f.p.length ≤ total fs := by
        obtain ⟨l, m, rfl⟩ := List.append_of_mem hm
        rw [total_append]
        simp only [total]
        omega
      obtain ⟨g0, g1⟩ := hfl.cells
      have HF := Lib.hid hfl
      clear hl hm hfl
      go_enter Tryd.func14, Tryd.ntmps14
      go_wp2_with fail
      refine (on_any d mb fs h w hd).mono ?_
      rintro e w1 ⟨rfl, rfl⟩
      rw [hoff]
      go_wp2_with fail
      refine (clone_bytes f.A f.p.length f.c f.p w HF.out.2.sees (by omega)).mono ?_
      rintro e w1 ⟨A1, c1, rfl, hown, hb⟩
      go_wp2
      go_returns
      exact ⟨A1, c1, rfl, hown, hb⟩

def safeN (s : List UInt8) (fs : List File) : Nat := match lookA s fs with | some f => f.safe | none => 0
end Go.Proofs.YtokfajlmephdeaaDoor.Dsk
