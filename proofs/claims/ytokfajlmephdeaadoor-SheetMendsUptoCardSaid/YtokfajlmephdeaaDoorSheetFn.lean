/- sheet.whole, tooLong, create, Begin, Add: their contracts. -/
import Derived.Test.YtokfajlmephdeaaDoorSheetHead
import Derived.Test.YtokfajlmephdeaaDoorDiskD
import Derived.Test.YtokfajlmephdeaaDoorRecMath
namespace Go.Proofs.YtokfajlmephdeaaDoor.Sht
open Go Go.RowKit Go.Proofs.YtokfajlmephdeaaDoor.Words Go.Proofs.YtokfajlmephdeaaDoor.Enc Go.Proofs.YtokfajlmephdeaaDoor.Made Go.Proofs.YtokfajlmephdeaaDoor.Dsk
set_option linter.unusedVariables false

/-- The records of texts, one behind the other. -/
def wraps (L : List (List UInt8)) : List UInt8 := (L.map wrap).flatten
def wholeL (k : UInt8) (a b : Nat) (L : List (List UInt8)) : List UInt8 := headL k a b ++ wraps L
theorem wraps_snoc (L : List (List UInt8)) (l : List UInt8) : wraps (L ++ [l]) = wraps L ++ wrap l := by simp [wraps]
theorem wraps_take (L : List (List UInt8)) (j : Nat) (h : j < L.length) : wraps (L.take (j + 1)) = wraps (L.take j) ++ wrap (L.getD j []) := by
  rw [← wraps_snoc, List.take_add_one, List.getElem?_eq_getElem h, List.getD_eq_getElem?_getD, List.getElem?_eq_getElem h]
  rfl
theorem wraps_append (L M : List (List UInt8)) : wraps (L ++ M) = wraps L ++ wraps M := by simp [wraps]
theorem wraps_le (L : List (List UInt8)) (j : Nat) : (wraps (L.take j)).length ≤ (wraps L).length := by
  conv => rhs; rw [← List.take_append_drop j L, wraps_append, List.length_append]
  omega
theorem wrap_mem_le {L : List (List UInt8)} {j : Nat} (h : j < L.length) : (L.getD j []).length ≤ (wraps L).length := by
  have h1 := wraps_take L j h
  have h2 := wraps_le L (j + 1)
  rw [h1, List.length_append, wrap_length] at h2
  omega

set_option maxRecDepth 100000 in
theorem whole_any (k : UInt8) (a b : Nat) (A : Option Addr) (n c : Nat) (L : List (List UInt8)) (w : World) (T : Chk.Tabs w) (ha : a < 18446744073709551616) (hb : b < 18446744073709551616) (hs : SeesAll w A n L) (hw : (wraps L).length ≤ 500000000) :
    Calls Tryd.prog 42 #[titleV k a b, .slice A n c] w (New w.heap.size (wholeL k a b L).length (wholeL k a b L) w) := by
  obtain ⟨i, hi, hz, hsz, hby⟩ := info_parts info8
  have hl := hs.len
  have hhl := headL_len (k := k) ha hb
  have htl := (titleL_len (k := k) ha hb).2
  have hn : n ≤ 500000000 := by
    have : ∀ M : List (List UInt8), M.length ≤ (wraps M).length := by
      intro M
      induction M with
      | nil => simp
      | cons x r ih =>
        simp only [wraps, List.map_cons, List.flatten_cons, List.length_append, List.length_cons] at ih ⊢
        have := wrap_length x
        omega
    have := this L
    omega
  have hb1 : Below w.heap.size w (w.alloc (.cells #[.int .u8 (k.toNat : Int), .int .u64 (a : Int), .int .u64 (b : Int)] 24)) := (Below.refl _ _).alloc (Nat.le_refl _) _
  have T1 := T.below hb1
  have hhead := head_any k a b _ T1 ha hb
  have HHL := Lib.hid hhl
  clear hhl
  unfold titleV at hhead ⊢
  go_enter Tryd.func42, Tryd.ntmps42
  go_wp2_with fail
  refine hhead.mono ?_
  rintro e w1 ⟨A1, c1, rfl, hown, hb2⟩
  have b2 := hb1.trans (hb2.mono hb1.size)
  have hown := Own.lower hown hb1.size
  clear hhead hb2
  go_wp2_with fail
  go_loopw [5, 12] (fun v x wr => ∃ (A' : Option Addr) (m c' j : Nat), v = .slice A' m c' ∧ x = .int .i64 (j : Int) ∧ j ≤ n ∧ m = (headL k a b ++ wraps (L.take j)).length ∧ wr.ownsRow w.heap.size 5 1 (.slice A' m c') m (cs (headL k a b ++ wraps (L.take j))) ∧ Below w.heap.size w wr) (fun _ x _ => n - (intOf x).toNat)
  case atStart => exact ⟨A1, _, c1, 0, rfl, rfl, by omega, by simp [wraps], by simpa [wraps] using hown, b2⟩
  case round =>
    obtain ⟨A', m, c', j, rfl, rfl, hj, hm, hownj, hbj⟩ := hrel
    have HM := Lib.hid hm
    have hwj := hbj.size
    have hmle : m ≤ 500000100 := by
      have := wraps_le L j
      have := HHL.out
      rw [hm, List.length_append]
      omega
    clear hm
    by_cases hlt : j < n
    · have hjl : j < L.length := by omega
      obtain ⟨g, o, Ae, ce, rfl, hcell, hce, hse⟩ := (hs.below hbj).get hlt
      have hel := wrap_mem_le hjl
      have hstep := wraps_take L j hjl
      generalize L.getD j [] = x at hcell hce hse hel hstep
      obtain ⟨xl, hxl⟩ : ∃ xl, xl = x.length := ⟨_, rfl⟩
      rw [← hxl] at hcell hce hse hel
      have HX := Lib.hid hxl
      have HS := Lib.hid hstep
      clear hxl hstep
      have he := enc_ten (n := xl) (by omega)
      go_wp2_with fail
      refine (Chk.wrap_new Ae xl ce x wr (T.below hbj) hse hce (by omega)).mono ?_
      rintro e w2 ⟨A2, c2, rfl, hown2, hb2⟩
      have hs2 := Sees.of_own hown2
      have hownj2 := Own.below hownj hb2 (Nat.le_refl _)
      have bj2 := hbj.trans (hb2.mono hwj)
      have hw2 := bj2.size
      clear hown2
      go_wp2_with (first | (at_builtin; refine wpList_app rfl _ _ 37 rfl w.heap.size 5 i (.int .u8 0) Tryd.underlying37 hi hz hsz hby rfl A' m c' _ rfl hownj2 A2 _ c2 _ rfl hs2 ?d1 ?d2 ?_))
      case d1 => omega
      case d2 => exact hw2
      intro A3 c3 w3 hown3 hb3
      rw [← HS.out] at hown3
      go_wp2
      go_roundw
      case rel =>
        refine ⟨A3, _, c3, j + 1, rfl, rfl, by omega, ?_, hown3, bj2.trans hb3⟩
        have h1 := HM.out
        have h2 := HS.out
        have h3 := HX.out
        rw [h2, h1]
        simp only [List.length_append, wrap_length, ← h3]
        omega
      case measure => simp [intOf]; omega
    · have hjn : j = n := by omega
      subst hjn
      have ht : L.take j = L := List.take_of_length_le (by omega)
      rw [ht] at hownj HM
      have HW := Lib.hid hownj
      clear hownj
      go_wp2
      go_ret
      have h1 := HM.out
      subst h1
      exact ⟨A', c', rfl, HW.out, hbj⟩

/-- tooLong. -/
theorem tooLong_any (A : Option Addr) (n c : Nat) (w : World) :
    Calls Tryd.prog 28 #[.slice A n c] w fun e w' => e = .returned (.bool (decide (2097152 < (n : Int)))) ∧ w = w' := by
  go_enter Tryd.func28, Tryd.ntmps28
  go_wp2
  go_ret
  exact ⟨rfl, rfl⟩

/-- What create comes to: the error, the files, the struct. -/
def createR (h : Hd) (s q : List UInt8) (files : List File) : Int × List File × Hd :=
  if appE h s q files = 0 then (thereE h.act s (appF h s q files), thereF h.act s syncG (appF h s q files), h.act.act) else (appE h s q files, appF h s q files, h.act)

set_option maxRecDepth 100000 in
theorem create_any (d : Nat) (S : List Nat) (files : List File) (h : Hd) (s : List UInt8) (A : Option Addr) (n c : Nat) (q : List UInt8) (w : World) (hd : Disk w d S files h) (hf : h.fits) (ha : h.acts < 999999999999) (hs : okName s = true)
    (ht : sumA files ≤ 1000000000000) (ht2 : sumA (appF h s q files) ≤ 1000000000000) (hfs : files.length < 1000000000000) (hn : n ≤ 1000000000000) (hnc : n ≤ c) (hcc : c ≤ 9223372036854775807) (hq : Sees w A n q) (hout : Out S A n) :
    Calls Tryd.prog 26 #[.pointer (some ⟨d, 0, none⟩), .string ⟨s.toArray⟩, .slice A n c] w fun e w' => e = .returned (.int .i64 (createR h s q files).1) ∧ Dsk.Next S w d (createR h s q files).2.1 (createR h s q files).2.2 w' := by
  have hs2 := okName_len hs
  by_cases h0 : appE h s q files = 0
  · have hr : createR h s q files = (thereE h.act s (appF h s q files), thereF h.act s syncG (appF h s q files), h.act.act) := by unfold createR; rw [if_pos h0]
    rw [hr]
    have H0 := Lib.hid h0
    clear hr h0
    go_enter Tryd.func26, Tryd.ntmps26
    go_wp2_with fail
    refine (appendC d S files h s A n c q w hd hf (by omega) hs ht hfs hn hnc hcc hq hout).mono ?_
    rintro e w1 ⟨rfl, S1, hd1, hb1, hs1⟩
    rw [H0.out]
    go_wp2_with fail
    refine (syncC d S1 _ h.act s w1 hd1 (Hd.fits_act hf (by omega)) hs2 ht2).mono ?_
    rintro e w2 ⟨rfl, hn2⟩
    go_wp2
    go_ret
    exact ⟨rfl, Dsk.Next.step hb1 hs1 hn2⟩
  · have hr : createR h s q files = (appE h s q files, appF h s q files, h.act) := by unfold createR; rw [if_neg h0]
    rw [hr]
    obtain ⟨E, hE⟩ : ∃ E, E = appE h s q files := ⟨_, rfl⟩
    rw [← hE] at h0 ⊢
    have hE0 : (E != 0) = true := by simpa using h0
    have HE := Lib.hid hE
    clear hr h0 hE
    go_enter Tryd.func26, Tryd.ntmps26
    go_wp2_with fail
    refine (appendC d S files h s A n c q w hd hf (by omega) hs ht hfs hn hnc hcc hq hout).mono ?_
    rintro e w1 ⟨rfl, hn1⟩
    rw [← HE.out]
    go_wp2
    go_ret
    exact ⟨rfl, hn1⟩

/-- What Begin comes to. -/
def beginR (h : Hd) (s q : List UInt8) (files : List File) : Int × List File × Hd := if readE h s files = 0 then (10, files, h) else createR h s q files

set_option maxRecDepth 100000 in
theorem begin_any (d : Nat) (S : List Nat) (files : List File) (h : Hd) (s : List UInt8) (k : UInt8) (a b : Nat) (w : World) (T : Chk.Tabs w) (ha : a < 18446744073709551616) (hb : b < 18446744073709551616) (hd : Disk w d S files h) (hf : h.fits) (hac : h.acts < 999999999999) (hs : okName s = true)
    (ht : sumA files ≤ 1000000000000) (ht2 : sumA (appF h s (headL k a b) files) ≤ 1000000000000) (hfs : files.length < 1000000000000) :
    Calls Tryd.prog 12 #[.pointer (some ⟨d, 0, none⟩), .string ⟨s.toArray⟩, titleV k a b] w fun e w' => e = .returned (.int .i64 (beginR h s (headL k a b) files).1) ∧ Dsk.Next S w d (beginR h s (headL k a b) files).2.1 (beginR h s (headL k a b) files).2.2 w' := by
  have hs2 := okName_len hs
  have hhl := headL_len (k := k) ha hb
  have htl := (titleL_len (k := k) ha hb).2
  have hlen : (headL k a b).length ≤ 30 := by omega
  clear hhl htl
  have hb0 : Below w.heap.size w (w.alloc (.cells #[.int .u8 (k.toNat : Int), .int .u64 (a : Int), .int .u64 (b : Int)] 24)) := (Below.refl _ _).alloc (Nat.le_refl _) _
  have g0 : (w.alloc (.cells #[.int .u8 (k.toNat : Int), .int .u64 (a : Int), .int .u64 (b : Int)] 24)).heap[w.heap.size]? = some (.cells #[.int .u8 (k.toNat : Int), .int .u64 (a : Int), .int .u64 (b : Int)] 24 (0, 0)) := heap_alloc_new w _
  have hlt : w.heap.size < (w.alloc (.cells #[.int .u8 (k.toNat : Int), .int .u64 (a : Int), .int .u64 (b : Int)] 24)).heap.size := by simp
  have hread := readC d S files h s _ (hd.below hb0) hs2 ht
  have hhead := fun W T => head_any k a b W T ha hb
  unfold titleV at hhead ⊢
  by_cases h0 : readE h s files = 0
  · have hr : beginR h s (headL k a b) files = (10, files, h) := by unfold beginR; rw [if_pos h0]
    rw [hr]
    rw [h0] at hread
    clear hr h0 g0 hlt
    go_enter Tryd.func12, Tryd.ntmps12
    go_wp2_with fail
    refine hread.mono ?_
    rintro e w1 ⟨A1, c1, rfl, hown, hb1⟩
    go_wp2
    go_ret
    exact ⟨rfl, (Dsk.Next.refl ((hd.below hb0).below hb1)).below (hb0.trans (hb1.mono hb0.size))⟩
  · have hr : beginR h s (headL k a b) files = createR h s (headL k a b) files := by unfold beginR; rw [if_neg h0]
    rw [hr]
    obtain ⟨E, hE⟩ : ∃ E, E = readE h s files := ⟨_, rfl⟩
    rw [← hE] at hread h0
    have hE0 : (E == 0) = false := by simpa using h0
    clear hr h0 hE
    go_enter Tryd.func12, Tryd.ntmps12
    go_wp2_with fail
    refine hread.mono ?_
    rintro e w1 ⟨A1, c1, rfl, hown, hb1⟩
    have b1 := hb0.trans (hb1.mono hb0.size)
    have g1 := (hb1.block w.heap.size hlt).trans g0
    have d0 : w1.cell? ⟨w.heap.size, 0, none⟩ = some (.int .u8 (k.toNat : Int)) := by rw [cell_of_row w1 w.heap.size _ _ _ _ g1]; rfl
    have d1 : w1.cell? ⟨w.heap.size, 1, none⟩ = some (.int .u64 (a : Int)) := by rw [cell_of_row w1 w.heap.size _ _ _ _ g1]; rfl
    have d2 : w1.cell? ⟨w.heap.size, 2, none⟩ = some (.int .u64 (b : Int)) := by rw [cell_of_row w1 w.heap.size _ _ _ _ g1]; rfl
    have hd1 := (hd.below hb0).below hb1
    clear g0 hlt hread g1 hown
    go_wp2_with fail
    refine (hhead w1 (T.below b1)).mono ?_
    rintro e w2 ⟨A2, c2, rfl, hown2, hb2⟩
    have hcap := Own.cap hown2
    have hsee := Sees.of_own hown2
    have b2 := b1.trans (hb2.mono b1.size)
    go_wp2_with fail
    refine (create_any d S files h s A2 (headL k a b).length c2 (headL k a b) w2 (hd1.below hb2) hf hac hs ht ht2 hfs (by omega) hcap.1 hcap.2 hsee (Out.of_own hown2 fun x hx => hd1.lt x hx)).mono ?_
    rintro e w3 ⟨rfl, hn3⟩
    go_wp2
    go_ret
    exact ⟨rfl, hn3.below b2⟩

set_option maxRecDepth 100000 in
theorem add_long (d : Nat) (s : List UInt8) (A : Option Addr) (n c : Nat) (w : World) (hn : 2097152 < n) :
    Calls Tryd.prog 13 #[.pointer (some ⟨d, 0, none⟩), .string ⟨s.toArray⟩, .slice A n c] w fun e w' => e = .returned (.int .i64 6) ∧ w = w' := by
  have h1 : decide (2097152 < (n : Int)) = true := by simp; omega
  go_enter Tryd.func13, Tryd.ntmps13
  go_wp2_with fail
  refine (tooLong_any A n c w).mono ?_
  rintro e w1 ⟨rfl, rfl⟩
  rw [h1]
  go_wp2
  go_ret
  exact ⟨rfl, rfl⟩

set_option maxRecDepth 100000 in
theorem add_any (d : Nat) (S : List Nat) (files : List File) (h : Hd) (s : List UInt8) (A : Option Addr) (n c : Nat) (l : List UInt8) (w : World) (T : Chk.Tabs w) (hd : Disk w d S files h) (hf : h.fits) (hac : h.acts < 1000000000000) (hs : okName s = true)
    (ht : sumA files ≤ 1000000000000) (hfs : files.length < 1000000000000) (hn : n ≤ 2097152) (hnc : n ≤ c) (hsee : Sees w A n l) :
    Calls Tryd.prog 13 #[.pointer (some ⟨d, 0, none⟩), .string ⟨s.toArray⟩, .slice A n c] w fun e w' => e = .returned (.int .i64 (appE h s (wrap l) files)) ∧ Dsk.Next S w d (appF h s (wrap l) files) h.act w' := by
  have h1 : decide (2097152 < (n : Int)) = false := by simp; omega
  have he := enc_ten (n := n) (by omega)
  go_enter Tryd.func13, Tryd.ntmps13
  go_wp2_with fail
  refine (tooLong_any A n c w).mono ?_
  rintro e w1 ⟨rfl, rfl⟩
  rw [h1]
  go_wp2_with fail
  refine (Chk.wrap_new A n c l w T hsee hnc (by omega)).mono ?_
  rintro e w1 ⟨A1, c1, rfl, hown1, hb1⟩
  have hcap := Own.cap hown1
  have hs1 := Sees.of_own hown1
  go_wp2_with fail
  refine (appendC d S files h s A1 _ c1 _ w1 (hd.below hb1) hf hac hs ht hfs (by omega) hcap.1 hcap.2 hs1 (Out.of_own hown1 fun x hx => hd.lt x hx)).mono ?_
  rintro e w2 ⟨rfl, hn2⟩
  go_wp2
  go_ret
  exact ⟨rfl, hn2.below hb1⟩
end Go.Proofs.YtokfajlmephdeaaDoor.Sht
