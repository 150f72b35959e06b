/- segment.Open: its contract, where the disk goes. -/
import Derived.Test.YtfdnlgigllflfaaGreatDoorBSegAdd
import Derived.Test.YtfdnlgigllflfaaGreatDoorBSegMake
import Derived.Test.YtfdnlgigllflfaaGreatDoorBSegName
import Derived.Test.YtfdnlgigllflfaaGreatDoorBSheetLaw
namespace Go.Proofs.YtfdnlgigllflfaaGreatDoor.Seg
open Go Go.RowKit Go.Proofs.YtfdnlgigllflfaaGreatDoor.Words Go.Proofs.YtfdnlgigllflfaaGreatDoor.Enc Go.Proofs.YtfdnlgigllflfaaGreatDoor.Evt Go.Proofs.YtfdnlgigllflfaaGreatDoor.Made Go.Proofs.YtfdnlgigllflfaaGreatDoor.Dsk Go.Proofs.YtfdnlgigllflfaaGreatDoor.Sht
set_option linter.unusedVariables false
set_option linter.unusedSimpArgs false

/-- A segment's name is split. -/
theorem split_name (n u : Nat) (hn : n < 256) (hu : u < 18446744073709551616) (w : World) (T : STabs w) :
    Calls Tryz.prog 30 #[.string ⟨(nameL (n : Int) u).toArray⟩] w fun e w' => e = .returned (.tuple #[.int .i64 (n : Int), .int .u64 (u : Int), .bool true]) ∧ Below w.heap.size w w' := by
  have := name_len (u := u) hn
  refine (split_any (nameL (n : Int) u) (by omega) w T).mono ?_
  rintro e w' ⟨h, hb⟩
  rcases h with ⟨x, v, _, _, _, rfl, _, hs⟩ | ⟨_, hno⟩
  · obtain ⟨rfl, rfl⟩ := hs n u hn hu rfl
    exact ⟨rfl, hb⟩
  · exact absurd rfl (hno n u hn hu)

set_option maxRecDepth 100000 in
set_option maxHeartbeats 2000000 in
theorem openS_allB (B : List Nat) (d : Nat) (S : List Nat) (files : List File) (h : Hd) (x u : Nat) (f : File) (q : List UInt8) (w : World) (hBw : ∀ k ∈ B, k < w.heap.size) (TT : TabsOn S w) (hd : Disk w d S files h) (hx : x < 64) (hu : u < 9223372036854775808) (ht : sumA files ≤ 500000000)
    (hfit : h.fits) (hmay : h.may = true) (hl : lookA (nameL (x : Int) u) files = some f) (hf : f.p = headL 115 x u ++ q)
    (hrn : (allL q most).1.length ≤ 10000000) (hrz : (wraps (allL q most).1).length ≤ 500000000) (hrl : ∀ l ∈ (allL q most).1, l.length ≤ 2097152) (hall : (prefE (x : Int) u (allL q most).1).length = (allL q most).1.length) :
    Calls Tryz.prog 11 #[.pointer (some ⟨d, 0, none⟩), .string ⟨(nameL (x : Int) u).toArray⟩] w (AddGivesB B S d (mendF (nameL (x : Int) u) 115 x u q files) (mendH q h) x u (prefE (x : Int) u (allL q most).1).length ((headL 115 x u).length + (wraps ((allL q most).1.take (prefE (x : Int) u (allL q most).1).length)).length) (prefE (x : Int) u (allL q most).1) w) := by
  have hnl := name_len (n := x) (u := u) (by omega)
  have hHl : (headL 115 x u).length ≤ 500000000 := by have := lookA_mem hl; rw [hf, List.length_append] at this; omega
  have hsp := fun W hT => split_name x u (by omega) (by omega) W hT
  have htit := fun W => titleO_any x u (by omega) W
  have hmend := fun W hT hd' => mendS_ok d S files h (nameL (x : Int) u) f x u q W hT (by omega) (by omega) hd' (by omega) ht hfit hmay hl hf
  have hemp := fun W hT => empty_any x u (by omega) (by omega) W hT
  have hwith := fun (A : Option Addr) (n c : Nat) W hT hs hn => with_any (x : Int) u (headL 115 x u).length A n c (allL q most).1 W hT hs hn
  have hSl : ∀ k ∈ S, k < w.heap.size := hd.lt
  obtain ⟨F2, hF2⟩ : ∃ F2, F2 = mendF (nameL (x : Int) u) 115 x u q files := ⟨_, rfl⟩
  obtain ⟨H2, hH2⟩ : ∃ H2, H2 = mendH q h := ⟨_, rfl⟩
  rw [← hF2, ← hH2]
  rw [← hF2, ← hH2] at hmend
  clear hF2 hH2 hl hf hmay hfit ht
  generalize (allL q most).1 = L at hmend hwith hrn hrz hrl hall ⊢
  generalize nameL (x : Int) u = NM at hsp hmend ⊢
  generalize (headL 115 x u).length = H at hemp hwith hHl ⊢
  have hwz : (wraps (L.take (prefE (x : Int) u L).length)).length ≤ 500000000 := by
    have h1 : wraps L = wraps (L.take (prefE (x : Int) u L).length) ++ wraps (L.drop (prefE (x : Int) u L).length) := by rw [← wraps_append, List.take_append_drop]
    rw [h1, List.length_append] at hrz; omega
  unfold WithGives at hwith
  unfold AddGivesB
  generalize hZ : H + (wraps (L.take (prefE (x : Int) u L).length)).length = Z at hwith ⊢
  generalize hP : prefE (x : Int) u L = P at hwith hall ⊢
  have hb := (Below.refl w.heap.size w).alloc (Nat.le_refl _) (.cells #[.int .i64 0, .int .u64 0, .slice none 0 0, .int .i64 0] 29)
  have hg := heap_alloc_new w (.cells #[.int .i64 0, .int .u64 0, .slice none 0 0, .int .i64 0] 29)
  go_enter Tryz.func11, Tryz.ntmps11
  go_wp2_with fail
  refine (hsp _ (TT.below hb _ (Beside.refl _ _)).2).mono ?_
  rintro e w1 ⟨rfl, hb1⟩
  have b1 := hb.trans (hb1.mono hb.size)
  go_wp2_with fail
  refine (htit w1).mono ?_
  rintro e w2 ⟨rfl, hb2⟩
  have b2 := b1.trans (hb2.mono b1.size)
  have g2 := (hb2.block w.heap.size (Nat.lt_of_lt_of_le (by simp) hb1.size)).trans ((hb1.block w.heap.size (by simp)).trans hg)
  have hz2 : w.heap.size < w2.heap.size := (Array.getElem?_eq_some_iff.1 g2).1
  go_wp2_with fail
  refine (hmend w2 (TT.below b2) (hd.below b2)).mono ?_
  rintro e w3 ⟨Al, nl, cl, vs, rfl, hown3, heach3, S3, hd3, hb3, hs3⟩
  have hsee3 := SeesAll.of_own hown3 heach3.each
  have hnl3 := hsee3.len
  have hnS : w.heap.size ∉ S := fun hm => by have := hSl _ hm; omega
  have g3 := (hb3.block w.heap.size hz2 hnS).trans g2
  have B3 : Beside S w w3 := (Beside.of_below b2 S).trans hb3 fun k hk => .inl hk
  have hS3 : ∀ k ∈ S3, k ∈ S ∨ w2.heap.size ≤ k := hs3
  have T3 := (TT w3 B3).1
  have hz3 := hb3.size
  have hnS3 : w.heap.size ∉ S3 := fun hm => by
    rcases hS3 _ hm with h | h
    · exact hnS h
    · omega
  have hS3l : ∀ k ∈ S3, k < w3.heap.size := hd3.lt
  clear hmend hsp htit hb3 hs3 hb2 hb1 hb hg g2 b1 hown3 heach3 hd
  go_wp2_with fail
  refine (hemp w3 T3).mono ?_
  rintro e w4 ⟨rfl, hb4⟩
  have g4 := (hb4.block w.heap.size (by omega)).trans g3
  go_wp2_with fail
  refine (hwith Al nl cl w4 (T3.below hb4) (hsee3.below hb4) (by omega) (by omega) (by omega) hrl).mono ?_
  rintro e w5 ⟨A5, rfl, hb5, hse5⟩
  have g5 := (hb5.block w.heap.size (Nat.lt_of_lt_of_le (by omega) hb4.size)).trans g4
  have hb35 := hb4.trans (hb5.mono hb4.size)
  have hSE := hse5 (S3 ++ B ++ [w.heap.size]) (fun k hk => by
    rcases List.mem_append.1 hk with h | h
    · rcases List.mem_append.1 h with h | h
      · exact Nat.lt_of_lt_of_le (hS3l k h) hb4.size
      · have := hBw k h; have := b2.size; have := hb4.size; omega
    · simp at h; have := hb4.size; omega)
  have hd5 := hd3.below hb35
  have B5 := B3.below hb35
  have hz5 : w.heap.size < w5.heap.size := (Array.getElem?_eq_some_iff.1 g5).1
  have hb6 := (Below.refl w5.heap.size w5).alloc (Nat.le_refl _) (.cells #[.int .i64 (x : Int), .int .u64 (u : Int), .slice A5 P.length P.length, .int .i64 (Z : Int)] 29)
  have g6 := (hb6.block w.heap.size hz5).trans g5
  obtain ⟨s0, s1, s2, s3⟩ := b4cells (heap_alloc_new w5 (.cells #[.int .i64 (x : Int), .int .u64 (u : Int), .slice A5 P.length P.length, .int .i64 (Z : Int)] 29))
  obtain ⟨r0, r1, r2, r3⟩ := b4cells g6
  have f0 := frozen_row0 (i := 0) g6
  have f1 := frozen_row0 (i := 1) g6
  have f2 := frozen_row0 (i := 2) g6
  have f3 := frozen_row0 (i := 3) g6
  have HSE := Lib.hid (hSE.below hb6)
  have HD := Lib.hid (hd5.below hb6)
  have HB := Lib.hid (B5.below hb6)
  have HS := Lib.hid (fun k (hk : k ∈ S3) => (hS3 k hk).imp id fun h => (by have := b2.size; omega : w.heap.size ≤ k))
  have HN := Lib.hid hnS3
  have hlt : ¬ P.length < nl := by omega
  clear hall hnl3 hemp hwith T3 B3 hSE hd3 hd5 B5 hb4 hb5 hb35 hb6 g3 g4 g5 g6 hse5 hsee3 hS3 hS3l hnS3
  unfold segV
  go_upto_region 8 with fail
  generalize w5.alloc (.cells #[.int .i64 (x : Int), .int .u64 (u : Int), .slice A5 P.length P.length, .int .i64 (Z : Int)] 29) = W6 at HSE HD HB s0 s1 s2 s3 r0 r1 r2 r3 f0 f1 f2 f3 ⊢
  go_wp2
  refine bodyPost_ret (v := .tuple #[segV (x : Int) u A5 P.length P.length Z, .int .i64 0]) (by simp [results, Tryz.results11, go_sem, segV, s0, s1, s2, s3, r0, r1, r2, r3]) rfl ?_
  have hns := HN.out
  refine ⟨A5, S3, rfl, disk_box (disk_box (disk_box (disk_box HD.out _ hns) _ hns) _ hns) _ hns, (((HB.out.setNew (by simp) _).setNew (by simp) _).setNew (by simp) _).setNew (by simp) _, HS.out, ?_⟩
  have h0 : SeesEv (S3 ++ B ++ [w.heap.size]) W6 A5 P.length P := HSE.out
  exact (h0.next (((((Beside.refl _ _).setCell (by simp) _).setCell (by simp) _).setCell (by simp) _).setCell (by simp) _) fun k hk => .inl hk).next (Beside.refl _ _) fun k hk => .inl (List.mem_append.2 (.inl hk))
theorem openS_all (d : Nat) (S : List Nat) (files : List File) (h : Hd) (x u : Nat) (f : File) (q : List UInt8) (w : World) (TT : TabsOn S w) (hd : Disk w d S files h) (hx : x < 64) (hu : u < 9223372036854775808) (ht : sumA files ≤ 500000000)
    (hfit : h.fits) (hmay : h.may = true) (hl : lookA (nameL (x : Int) u) files = some f) (hf : f.p = headL 115 x u ++ q)
    (hrn : (allL q most).1.length ≤ 10000000) (hrz : (wraps (allL q most).1).length ≤ 500000000) (hrl : ∀ l ∈ (allL q most).1, l.length ≤ 2097152) (hall : (prefE (x : Int) u (allL q most).1).length = (allL q most).1.length) :
    Calls Tryz.prog 11 #[.pointer (some ⟨d, 0, none⟩), .string ⟨(nameL (x : Int) u).toArray⟩] w (AddGives S d (mendF (nameL (x : Int) u) 115 x u q files) (mendH q h) x u (prefE (x : Int) u (allL q most).1).length ((headL 115 x u).length + (wraps ((allL q most).1.take (prefE (x : Int) u (allL q most).1).length)).length) (prefE (x : Int) u (allL q most).1) w) := by
  refine (openS_allB [] d S files h x u f q w (fun k hk => by cases hk) TT hd hx hu ht hfit hmay hl hf hrn hrz hrl hall).mono ?_
  rintro e w' ⟨A, S', h1, h2, h3, h4, h5⟩
  rw [List.append_nil] at h5
  exact ⟨A, S', h1, h2, h3, h4, h5⟩
set_option maxRecDepth 100000 in
set_option maxHeartbeats 2000000 in
theorem openS_cut (d : Nat) (S : List Nat) (files : List File) (h : Hd) (x u : Nat) (f : File) (q : List UInt8) (w : World) (TT : TabsOn S w) (hd : Disk w d S files h) (hx : x < 64) (hu : u < 9223372036854775808) (ht : sumA files ≤ 500000000)
    (hfit : h.fits) (hmay : h.may = true) (hl : lookA (nameL (x : Int) u) files = some f) (hf : f.p = headL 115 x u ++ q)
    (hrn : (allL q most).1.length ≤ 10000000) (hrz : (wraps (allL q most).1).length ≤ 500000000) (hrl : ∀ l ∈ (allL q most).1, l.length ≤ 2097152) (hall : (prefE (x : Int) u (allL q most).1).length < (allL q most).1.length)
    (hcut : cutE (mendH q h) (nameL (x : Int) u) (((headL 115 x u).length + (wraps ((allL q most).1.take (prefE (x : Int) u (allL q most).1).length)).length : Nat) : Int) (mendF (nameL (x : Int) u) 115 x u q files) = 0) (hfit2 : (mendH q h).fits) (ht2 : sumA (mendF (nameL (x : Int) u) 115 x u q files) ≤ 1000000000000) :
    Calls Tryz.prog 11 #[.pointer (some ⟨d, 0, none⟩), .string ⟨(nameL (x : Int) u).toArray⟩] w (AddGives S d (thereF (mendH q h) (nameL (x : Int) u) (cutG (((headL 115 x u).length + (wraps ((allL q most).1.take (prefE (x : Int) u (allL q most).1).length)).length : Nat) : Int)) (mendF (nameL (x : Int) u) 115 x u q files)) (mendH q h).act x u (prefE (x : Int) u (allL q most).1).length ((headL 115 x u).length + (wraps ((allL q most).1.take (prefE (x : Int) u (allL q most).1).length)).length) (prefE (x : Int) u (allL q most).1) w) := by
  have hnl := name_len (n := x) (u := u) (by omega)
  have hHl : (headL 115 x u).length ≤ 500000000 := by have := lookA_mem hl; rw [hf, List.length_append] at this; omega
  have hsp := fun W hT => split_name x u (by omega) (by omega) W hT
  have htit := fun W => titleO_any x u (by omega) W
  have hmend := fun W hT hd' => mendS_ok d S files h (nameL (x : Int) u) f x u q W hT (by omega) (by omega) hd' (by omega) ht hfit hmay hl hf
  have hemp := fun W hT => empty_any x u (by omega) (by omega) W hT
  have hwith := fun (A : Option Addr) (n c : Nat) W hT hs hn => with_any (x : Int) u (headL 115 x u).length A n c (allL q most).1 W hT hs hn
  have hSl : ∀ k ∈ S, k < w.heap.size := hd.lt
  obtain ⟨F2, hF2⟩ : ∃ F2, F2 = mendF (nameL (x : Int) u) 115 x u q files := ⟨_, rfl⟩
  obtain ⟨H2, hH2⟩ : ∃ H2, H2 = mendH q h := ⟨_, rfl⟩
  rw [← hF2, ← hH2]
  rw [← hF2, ← hH2] at hmend hcut
  rw [← hH2] at hfit2
  rw [← hF2] at ht2
  clear hF2 hH2 hl hf hmay hfit ht
  generalize (allL q most).1 = L at hmend hwith hrn hrz hrl hall hcut ⊢
  generalize nameL (x : Int) u = NM at hsp hmend hcut hnl ⊢
  generalize (headL 115 x u).length = H at hemp hwith hHl hcut ⊢
  have hwz : (wraps (L.take (prefE (x : Int) u L).length)).length ≤ 500000000 := by
    have h1 : wraps L = wraps (L.take (prefE (x : Int) u L).length) ++ wraps (L.drop (prefE (x : Int) u L).length) := by rw [← wraps_append, List.take_append_drop]
    rw [h1, List.length_append] at hrz; omega
  unfold WithGives at hwith
  unfold AddGives
  generalize hZ : H + (wraps (L.take (prefE (x : Int) u L).length)).length = Z at hwith hcut ⊢
  generalize hP : prefE (x : Int) u L = P at hwith hall hcut ⊢
  have hb := (Below.refl w.heap.size w).alloc (Nat.le_refl _) (.cells #[.int .i64 0, .int .u64 0, .slice none 0 0, .int .i64 0] 29)
  have hg := heap_alloc_new w (.cells #[.int .i64 0, .int .u64 0, .slice none 0 0, .int .i64 0] 29)
  go_enter Tryz.func11, Tryz.ntmps11
  go_wp2_with fail
  refine (hsp _ (TT.below hb _ (Beside.refl _ _)).2).mono ?_
  rintro e w1 ⟨rfl, hb1⟩
  have b1 := hb.trans (hb1.mono hb.size)
  go_wp2_with fail
  refine (htit w1).mono ?_
  rintro e w2 ⟨rfl, hb2⟩
  have b2 := b1.trans (hb2.mono b1.size)
  have g2 := (hb2.block w.heap.size (Nat.lt_of_lt_of_le (by simp) hb1.size)).trans ((hb1.block w.heap.size (by simp)).trans hg)
  have hz2 : w.heap.size < w2.heap.size := (Array.getElem?_eq_some_iff.1 g2).1
  go_wp2_with fail
  refine (hmend w2 (TT.below b2) (hd.below b2)).mono ?_
  rintro e w3 ⟨Al, nl, cl, vs, rfl, hown3, heach3, S3, hd3, hb3, hs3⟩
  have hsee3 := SeesAll.of_own hown3 heach3.each
  have hnl3 := hsee3.len
  have hnS : w.heap.size ∉ S := fun hm => by have := hSl _ hm; omega
  have g3 := (hb3.block w.heap.size hz2 hnS).trans g2
  have B3 : Beside S w w3 := (Beside.of_below b2 S).trans hb3 fun k hk => .inl hk
  have hS3 : ∀ k ∈ S3, k ∈ S ∨ w2.heap.size ≤ k := hs3
  have T3 := (TT w3 B3).1
  have hz3 := hb3.size
  have hnS3 : w.heap.size ∉ S3 := fun hm => by
    rcases hS3 _ hm with h | h
    · exact hnS h
    · omega
  have hS3l : ∀ k ∈ S3, k < w3.heap.size := hd3.lt
  clear hmend hsp htit hb3 hs3 hb2 hb1 hb hg g2 b1 hown3 heach3 hd
  go_wp2_with fail
  refine (hemp w3 T3).mono ?_
  rintro e w4 ⟨rfl, hb4⟩
  have g4 := (hb4.block w.heap.size (by omega)).trans g3
  go_wp2_with fail
  refine (hwith Al nl cl w4 (T3.below hb4) (hsee3.below hb4) (by omega) (by omega) (by omega) hrl).mono ?_
  rintro e w5 ⟨A5, rfl, hb5, hse5⟩
  have g5 := (hb5.block w.heap.size (Nat.lt_of_lt_of_le (by omega) hb4.size)).trans g4
  have hb35 := hb4.trans (hb5.mono hb4.size)
  have hSE := hse5 (S3 ++ [w.heap.size]) (fun k hk => by
    rcases List.mem_append.1 hk with h | h
    · exact Nat.lt_of_lt_of_le (hS3l k h) hb4.size
    · simp at h; have := hb4.size; omega)
  have hd5 := hd3.below hb35
  have B5 := B3.below hb35
  have hz5 : w.heap.size < w5.heap.size := (Array.getElem?_eq_some_iff.1 g5).1
  have hb6 := (Below.refl w5.heap.size w5).alloc (Nat.le_refl _) (.cells #[.int .i64 (x : Int), .int .u64 (u : Int), .slice A5 P.length P.length, .int .i64 (Z : Int)] 29)
  have g6 := (hb6.block w.heap.size hz5).trans g5
  have HG11 := heap_alloc_new w5 (.cells #[.int .i64 (x : Int), .int .u64 (u : Int), .slice A5 P.length P.length, .int .i64 (Z : Int)] 29)
  have HG4 := g6
  have hz6 : w5.heap.size < (w5.alloc (.cells #[.int .i64 (x : Int), .int .u64 (u : Int), .slice A5 P.length P.length, .int .i64 (Z : Int)] 29)).heap.size := by simp
  obtain ⟨s0, s1, s2, s3⟩ := b4cells (heap_alloc_new w5 (.cells #[.int .i64 (x : Int), .int .u64 (u : Int), .slice A5 P.length P.length, .int .i64 (Z : Int)] 29))
  obtain ⟨r0, r1, r2, r3⟩ := b4cells g6
  have f0 := frozen_row0 (i := 0) g6
  have f1 := frozen_row0 (i := 1) g6
  have f2 := frozen_row0 (i := 2) g6
  have f3 := frozen_row0 (i := 3) g6
  have HSE := Lib.hid (hSE.below hb6)
  have HD := Lib.hid (hd5.below hb6)
  have HB := Lib.hid (B5.below hb6)
  have HS := Lib.hid (fun k (hk : k ∈ S3) => (hS3 k hk).imp id fun h => (by have := b2.size; omega : w.heap.size ≤ k))
  have HN := Lib.hid hnS3
  have hlt : P.length < nl := by omega
  have hcutc := fun W hd' => cutC d S3 F2 H2 NM (Z : Int) W hd' hfit2 (by omega) ht2
  rw [hcut] at hcutc
  have HS35 : Hid (∀ k ∈ S3, k < w5.heap.size) := Lib.hid fun k hk => Nat.lt_of_lt_of_le (hS3l k hk) hb35.size
  have hz5' : w.heap.size < w5.heap.size := hz5
  clear hall hnl3 hemp hwith T3 B3 hSE hd3 hd5 B5 hb4 hb5 hb35 hb6 g3 g4 g5 g6 hse5 hsee3 hS3 hS3l hnS3
  unfold segV
  go_upto_region 8 with fail
  generalize w5.alloc (.cells #[.int .i64 (x : Int), .int .u64 (u : Int), .slice A5 P.length P.length, .int .i64 (Z : Int)] 29) = W6 at HSE HD HB HG11 HG4 hz6 s0 s1 s2 s3 r0 r1 r2 r3 f0 f1 f2 f3 ⊢
  go_wp2_with fail
  have hcutW : ∀ W, Below W6.heap.size W6 W → Calls Tryz.prog 18 #[.pointer (some ⟨d, 0, none⟩), .string ⟨NM.toArray⟩, .int .i64 (Z : Int)] W fun e w8 => e = .returned (.int .i64 0) ∧ Hid (∃ S8, Disk w8 d S8 (thereF H2 NM (cutG (Z : Int)) F2) H2.act ∧ Beside S w w8 ∧ (∀ k ∈ S8, k ∈ S ∨ w.heap.size ≤ k) ∧ w.heap.size ∉ S8 ∧ SeesEv (S8 ++ [w.heap.size]) w8 A5 P.length P) ∧
      (w8.cell? ⟨w5.heap.size, 0, none⟩ = some (.int .i64 (x : Int)) ∧ w8.cell? ⟨w5.heap.size, 1, none⟩ = some (.int .u64 (u : Int)) ∧ w8.cell? ⟨w5.heap.size, 2, none⟩ = some (.slice A5 P.length P.length) ∧ w8.cell? ⟨w5.heap.size, 3, none⟩ = some (.int .i64 (Z : Int))) ∧
      (w8.cell? ⟨w.heap.size, 0, none⟩ = some (.int .i64 0) ∧ w8.cell? ⟨w.heap.size, 1, none⟩ = some (.int .u64 0) ∧ w8.cell? ⟨w.heap.size, 2, none⟩ = some (.slice none 0 0) ∧ w8.cell? ⟨w.heap.size, 3, none⟩ = some (.int .i64 0)) ∧
      w8.frozen? ⟨w.heap.size, 0, none⟩ = false ∧ w8.frozen? ⟨w.heap.size, 1, none⟩ = false ∧ w8.frozen? ⟨w.heap.size, 2, none⟩ = false ∧ w8.frozen? ⟨w.heap.size, 3, none⟩ = false ∧ w.heap.size < w8.heap.size ∧ w5.heap.size < w8.heap.size := by
    intro W hW
    have hz4 := (Array.getElem?_eq_some_iff.1 HG4).1
    refine (hcutc W (HD.out.below hW)).mono ?_
    rintro e w8 ⟨rfl, S8, hd8, hb8, hs8⟩
    have hns := HN.out
    have hw := hW.size
    have hn11 : w5.heap.size ∉ S3 := fun hm => by have := HS35.out _ hm; omega
    have g8 := (hb8.block w.heap.size (by omega) hns).trans ((hW.block w.heap.size hz4).trans HG4)
    have g11 := (hb8.block w5.heap.size (by omega) hn11).trans ((hW.block w5.heap.size hz6).trans HG11)
    have hz8 := hb8.size
    have hns8 : w.heap.size ∉ S8 := fun hm => by
      rcases hs8 _ hm with h | h
      · exact hns h
      · omega
    have hBB : Beside S w w8 := (HB.out.below hW).trans hb8 fun k hk => HS.out k hk
    have hSS : ∀ k ∈ S8, k ∈ S ∨ w.heap.size ≤ k := fun k hk => by
      rcases hs8 k hk with h | h
      · exact HS.out k h
      · exact .inr (by omega)
    have h0 : SeesEv (S8 ++ [w.heap.size]) w8 A5 P.length P := (HSE.out.below hW).next (hb8.wider fun k hk => .inl (by simp [hk])) fun k hk => by
      rcases List.mem_append.1 hk with hk | hk
      · exact (hs8 k hk).imp (fun h => by simp [h]) id
      · exact .inl (by simp only [List.mem_append]; exact .inr hk)
    exact ⟨rfl, Lib.hid ⟨S8, hd8, hBB, hSS, hns8, h0⟩, b4cells g11, b4cells g8, frozen_row0 g8, frozen_row0 g8, frozen_row0 g8, frozen_row0 g8, by omega, by omega⟩
  clear f0 f1 f2 f3 r0 r1 r2 r3 hcutc HG11 HG4 HSE HD HB HS HN HS35
  go_region_with (first
    | (go_at_call 18
       refine (hcutW _ ?h1).mono ?_
       case h1 => first | exact Below.refl _ _ | exact (Below.refl _ _).drew | exact (Below.refl _ _).drew.drew
       rintro e w8 ⟨rfl, HDN, ⟨t0, t1, t2, t3⟩, ⟨r0, r1, r2, r3⟩, f0, f1, f2, f3, hz8, hz58⟩))
  all_goals go_wp2
  all_goals refine bodyPost_ret (v := .tuple #[segV (x : Int) u A5 P.length P.length Z, .int .i64 0]) (by simp [results, Tryz.results11, go_sem, segV, t0, t1, t2, t3, r0, r1, r2, r3]) rfl ?_
  all_goals obtain ⟨S8, hd8, hBB, hSS, hns, h0⟩ := HDN.out
  all_goals refine ⟨A5, S8, rfl, disk_box (disk_box (disk_box (disk_box hd8 _ hns) _ hns) _ hns) _ hns, (((hBB.setNew (by simp) _).setNew (by simp) _).setNew (by simp) _).setNew (by simp) _, hSS, ?_⟩
  all_goals exact (h0.next (((((Beside.refl _ _).setCell (by simp) _).setCell (by simp) _).setCell (by simp) _).setCell (by simp) _) fun k hk => .inl hk).next (Beside.refl _ _) fun k hk => .inl (by simp [hk])
end Go.Proofs.YtfdnlgigllflfaaGreatDoor.Seg

/- segment.Open, where it tells an error. -/
namespace Go.Proofs.YtfdnlgigllflfaaGreatDoor.Seg
open Go Go.RowKit Go.Proofs.YtfdnlgigllflfaaGreatDoor.Words Go.Proofs.YtfdnlgigllflfaaGreatDoor.Enc Go.Proofs.YtfdnlgigllflfaaGreatDoor.Evt Go.Proofs.YtfdnlgigllflfaaGreatDoor.Made Go.Proofs.YtfdnlgigllflfaaGreatDoor.Dsk Go.Proofs.YtfdnlgigllflfaaGreatDoor.Sht
set_option linter.unusedVariables false
set_option linter.unusedSimpArgs false

def zeroSeg : Value := .agg #[.int .i64 0, .int .u64 0, .slice none 0 0, .int .i64 0]
def Refused (E : Nat) (w : World) (e : Ending) (w' : World) : Prop := e = .returned (.tuple #[zeroSeg, .int .i64 (E : Int)]) ∧ Below w.heap.size w w'
/-- A text that is too short is no name. -/
theorem split_short (l : List UInt8) (hl : l.length < 16) (w : World) (T : STabs w) :
    Calls Tryz.prog 30 #[.string ⟨l.toArray⟩] w fun e w' => e = .returned (.tuple #[.int .i64 0, .int .u64 0, .bool false]) ∧ Below w.heap.size w w' := by
  refine (split_any l (by omega) w T).mono ?_
  rintro e w' ⟨h, hb⟩
  rcases h with ⟨x, v, _, _, _, rfl, hn, _⟩ | ⟨rfl, _⟩
  · exfalso
    have := congrArg List.length hn
    simp only [nameL, List.length_append, hexP_length] at this
    omega
  · exact ⟨rfl, hb⟩

set_option maxRecDepth 100000 in
theorem openS_arg (d : Nat) (l : List UInt8) (hl : l.length < 16) (w : World) (T : STabs w) :
    Calls Tryz.prog 11 #[.pointer (some ⟨d, 0, none⟩), .string ⟨l.toArray⟩] w (Refused 1 w) := by
  have hb := (Below.refl w.heap.size w).alloc (Nat.le_refl _) (.cells #[.int .i64 0, .int .u64 0, .slice none 0 0, .int .i64 0] 29)
  have hg := heap_alloc_new w (.cells #[.int .i64 0, .int .u64 0, .slice none 0 0, .int .i64 0] 29)
  have hsp := fun W hT => split_short l hl W hT
  go_enter Tryz.func11, Tryz.ntmps11
  go_wp2_with fail
  refine (hsp _ (T.below hb)).mono ?_
  rintro e w1 ⟨rfl, hb1⟩
  have g1 := (hb1.block w.heap.size (by simp)).trans hg
  have hz1 : w.heap.size < w1.heap.size := (Array.getElem?_eq_some_iff.1 g1).1
  obtain ⟨r0, r1, r2, r3⟩ := b4cells g1
  have f0 := frozen_row0 (i := 0) g1
  have f1 := frozen_row0 (i := 1) g1
  have f2 := frozen_row0 (i := 2) g1
  have f3 := frozen_row0 (i := 3) g1
  have HB := Lib.hid (hb.trans (hb1.mono hb.size))
  clear hsp hb hg hb1 g1
  go_wp2
  refine bodyPost_ret (v := .tuple #[zeroSeg, .int .i64 1]) (by simp [results, Tryz.results11, go_sem, zeroSeg, r0, r1, r2, r3]) rfl ⟨rfl, ?_⟩
  exact (((HB.out.setCell (by simp) _).setCell (by simp) _).setCell (by simp) _).setCell (by simp) _

set_option maxRecDepth 100000 in
theorem open_err (d : Nat) (x u E : Nat) (w : World) (ST : STabs w) (hx : x < 64) (hu : u < 9223372036854775808) (hE : E = 2 ∨ E = 4)
    (hmend : ∀ W, Below w.heap.size w W → Calls Tryz.prog 31 #[.pointer (some ⟨d, 0, none⟩), .string ⟨(nameL (x : Int) u).toArray⟩, titleV 115 x u] W fun e w' => e = .returned (.tuple #[.slice none 0 0, .int .i64 (E : Int)]) ∧ Below W.heap.size W w') :
    Calls Tryz.prog 11 #[.pointer (some ⟨d, 0, none⟩), .string ⟨(nameL (x : Int) u).toArray⟩] w (Refused E w) := by
  have hb := (Below.refl w.heap.size w).alloc (Nat.le_refl _) (.cells #[.int .i64 0, .int .u64 0, .slice none 0 0, .int .i64 0] 29)
  have hg := heap_alloc_new w (.cells #[.int .i64 0, .int .u64 0, .slice none 0 0, .int .i64 0] 29)
  have hsp := fun W hT => split_name x u (by omega) (by omega) W hT
  have htit := fun W => titleO_any x u (by omega) W
  have hE0 : ((E : Int) != 0) = true := by rcases hE with rfl | rfl <;> rfl
  generalize nameL (x : Int) u = NM at hsp hmend ⊢
  generalize titleV 115 x u = TV at htit hmend
  go_enter Tryz.func11, Tryz.ntmps11
  go_wp2_with fail
  refine (hsp _ (ST.below hb)).mono ?_
  rintro e w1 ⟨rfl, hb1⟩
  have b1 := hb.trans (hb1.mono hb.size)
  go_wp2_with fail
  refine (htit w1).mono ?_
  rintro e w2 ⟨rfl, hb2⟩
  have b2 := b1.trans (hb2.mono b1.size)
  have g2 := (hb2.block w.heap.size (Nat.lt_of_lt_of_le (by simp) hb1.size)).trans ((hb1.block w.heap.size (by simp)).trans hg)
  go_wp2_with fail
  refine (hmend w2 b2).mono ?_
  rintro e w3 ⟨rfl, hb3⟩
  have b3 := b2.trans (hb3.mono b2.size)
  have g3 := (hb3.block w.heap.size (Array.getElem?_eq_some_iff.1 g2).1).trans g2
  have hz3 : w.heap.size < w3.heap.size := (Array.getElem?_eq_some_iff.1 g3).1
  obtain ⟨r0, r1, r2, r3⟩ := b4cells g3
  have f0 := frozen_row0 (i := 0) g3
  have f1 := frozen_row0 (i := 1) g3
  have f2 := frozen_row0 (i := 2) g3
  have f3 := frozen_row0 (i := 3) g3
  have HB := Lib.hid b3
  clear hsp htit hmend hb hg hb1 hb2 hb3 b1 b2 b3 g2 g3 hE
  go_wp2
  refine bodyPost_ret (v := .tuple #[zeroSeg, .int .i64 (E : Int)]) (by simp [results, Tryz.results11, go_sem, zeroSeg, r0, r1, r2, r3]) rfl ⟨rfl, ?_⟩
  exact (((HB.out.setCell (by simp) _).setCell (by simp) _).setCell (by simp) _).setCell (by simp) _

theorem openS_none (d : Nat) (S : List Nat) (files : List File) (h : Hd) (x u : Nat) (w : World) (TT : TabsOn S w) (hd : Disk w d S files h) (hx : x < 64) (hu : u < 9223372036854775808) (ht : sumA files ≤ 500000000) (hoff : h.off = false) (hl : lookA (nameL (x : Int) u) files = none) :
    Calls Tryz.prog 11 #[.pointer (some ⟨d, 0, none⟩), .string ⟨(nameL (x : Int) u).toArray⟩] w (Refused 2 w) := by
  have := name_len (n := x) (u := u) (by omega)
  exact open_err d x u 2 w (TT w (Beside.refl _ _)).2 hx hu (.inl rfl) fun W hW => mendS_none d S files h (nameL (x : Int) u) x u W (hd.below hW) (by omega) ht hoff hl
theorem openS_other (d : Nat) (S : List Nat) (files : List File) (h : Hd) (x u u' : Nat) (f : File) (q : List UInt8) (w : World) (TT : TabsOn S w) (hd : Disk w d S files h) (hx : x < 64) (hu : u < 9223372036854775808) (hu' : u' < 9223372036854775808) (hne : u ≠ u') (ht : sumA files ≤ 500000000) (hoff : h.off = false)
    (hl : lookA (nameL (x : Int) u') files = some f) (hf : f.p = headL 115 x u ++ q) :
    Calls Tryz.prog 11 #[.pointer (some ⟨d, 0, none⟩), .string ⟨(nameL (x : Int) u').toArray⟩] w (Refused 4 w) := by
  have := name_len (n := x) (u := u') (by omega)
  exact open_err d x u' 4 w (TT w (Beside.refl _ _)).2 hx hu' (.inr rfl) fun W hW => mendS_other d S files h (nameL (x : Int) u') f x u u' q W (TT.below hW) (by omega) (by omega) hne (hd.below hW) (by omega) ht hoff hl hf
end Go.Proofs.YtfdnlgigllflfaaGreatDoor.Seg

/- The law's events. -/
namespace Go.Proofs.YtfdnlgigllflfaaGreatDoor.Seg
open Go Go.RowKit Go.Proofs.YtfdnlgigllflfaaGreatDoor.Words Go.Proofs.YtfdnlgigllflfaaGreatDoor.Enc Go.Proofs.YtfdnlgigllflfaaGreatDoor.Evt Go.Proofs.YtfdnlgigllflfaaGreatDoor.Made Go.Proofs.YtfdnlgigllflfaaGreatDoor.Dsk Go.Proofs.YtfdnlgigllflfaaGreatDoor.Sht
set_option linter.unusedVariables false
set_option linter.unusedSimpArgs false

def putE (K T : Nat) (x : Int) (seq time : Nat) : Ev :=
  { writer := x, seq := seq, time := time, kind := 1 + K % 4, key := ⟨#[UInt8.ofNat (97 + T % 3)]⟩
    text := if K % 4 = 0 then List.replicate (T % 30) 0 else [], num := 0, node := 0 }
def putV (K T : Nat) : Value := .agg #[.int .u8 (K : Int), .int .u8 (T : Int)]
def EventNew (ev : Ev) (w : World) (e : Ending) (w' : World) : Prop :=
  ∃ A n c, e = .returned (ev.val A n c) ∧ Sees w' A n ev.text ∧ n ≤ c ∧ c ≤ 9223372036854775807 ∧ Fresh w.heap.size A n ∧ Below w.heap.size w w'

def zRow8 (k : Nat) : Array Value := madeCells #[.int .u8 0] k
theorem zRow8_sees (W : World) (k : Nat) : Sees (W.alloc (.cells (zRow8 k) 5)) (some ⟨W.heap.size, 0, none⟩) k (List.replicate k 0) := by
  refine sees_new W _ _ k _ (by simp) fun j u hu => ?_
  have hj : j < k := by have := (List.getElem?_eq_some_iff.1 hu).1; simpa using this
  rw [List.getElem?_replicate, if_pos hj] at hu
  injection hu with hu
  subst hu
  have h1 : j % 1 = 0 := Nat.mod_one j
  simp [zRow8, madeCells, hj, h1]
theorem zRow8_at (W : World) (k b : Nat) (hb : b = W.heap.size) : Sees (W.alloc (.cells (zRow8 k) 5)) (some ⟨b, 0, none⟩) k (List.replicate k 0) := by subst hb; exact zRow8_sees W k
theorem make_any (W : World) (k : Nat) (hk : k ≤ 3000000) : (Instr.makeSlice 33 (.int .i64 (k : Int)) (.int .i64 (k : Int))).run Tryz.prog W = .ok (.slice (some ⟨W.heap.size, 0, none⟩) k k) (W.alloc (.cells (zRow8 k) 5)) := by
  obtain ⟨i, hi, hz, hsz, hby⟩ := info_parts info8
  have := run_make (P := Tryz.prog) W 33 5 i (.int .u8 0) Tryz.underlying33 hi hz .i64 .i64 (k : Int) (k : Int) (by omega) (Int.le_refl _) (by rw [hby]; omega) (by omega)
  rw [this, hsz]
  simp only [Int.toNat_natCast, Nat.mul_one]
  rfl
theorem key_run (W : World) (T : Nat) (b : Nat) (hb : b = W.heap.size) : (convert 33 9 (.slice (some ⟨b, 0, none⟩) 1 1)).run Tryz.prog (W.alloc (.cells #[.int .u8 (97 + (T : Int) % 3)] 5)) = .ok (.string ⟨#[UInt8.ofNat (97 + T % 3)]⟩) (W.alloc (.cells #[.int .u8 (97 + (T : Int) % 3)] 5)) := by
  subst hb
  have h : Sees (W.alloc (.cells #[.int .u8 (97 + (T : Int) % 3)] 5)) (some ⟨W.heap.size, 0, none⟩) 1 [UInt8.ofNat (97 + T % 3)] := by
    refine sees_new W _ _ 1 _ rfl fun j u hu => ?_
    match j, hu with
    | 0, hu =>
      rw [List.getElem?_cons_zero] at hu
      injection hu with hu
      subst hu
      have h2 : (UInt8.ofNat (97 + T % 3)).toNat = 97 + T % 3 := by rw [UInt8.toNat_ofNat']; omega
      show some (Value.int IntKind.u8 (97 + (T : Int) % 3)) = some (Value.int IntKind.u8 ((UInt8.ofNat (97 + T % 3)).toNat : Int))
      rw [h2]
      congr 2
  exact h.string 1 Tryz.underlying33 Tryz.underlying5 Tryz.underlying9

set_option maxRecDepth 100000 in
set_option maxHeartbeats 1000000 in
theorem event_any (K T : Nat) (x : Int) (seq time : Nat) (w : World) (hK : K < 256) (hT : T < 256) :
    Calls Tryz.prog 15 #[putV K T, .int .i64 x, .int .u64 (seq : Int), .int .u64 (time : Int)] w (EventNew (putE K T x seq time) w) := by
  have hsf := store_float Tryz.prog
  have hk1 := fun W => key_run W T
  have hstr := key_run ((w.alloc (.cells #[.int .u8 (K : Int), .int .u8 (T : Int)] 49)).alloc (.cells #[.int .i64 0, .int .u64 0, .int .u64 0, .int .u8 0, .string ⟨#[]⟩, .slice none 0 0, .float .f64 0, .int .i64 0] 46)) T (w.heap.size + 1 + 1) (by simp)
  have hmk := fun W => make_any W (T % 30) (by omega)
  simp only [show ((T % 30 : Nat) : Int) = (T : Int) % 30 by omega] at hmk
  unfold EventNew putE
  obtain ⟨KB, hKB⟩ : ∃ KB : ByteArray, KB = ⟨#[UInt8.ofNat (97 + T % 3)]⟩ := ⟨_, rfl⟩
  rw [← hKB] at hstr
  rw [← hKB]
  clear hk1 hKB
  unfold putV
  have hb : Below w.heap.size w ((((w.alloc (.cells #[.int .u8 (K : Int), .int .u8 (T : Int)] 49)).alloc (.cells #[.int .i64 0, .int .u64 0, .int .u64 0, .int .u8 0, .string ⟨#[]⟩, .slice none 0 0, .float .f64 0, .int .i64 0] 46)).alloc (.cells #[.int .u8 (97 + (T : Int) % 3)] 5))) := (((Below.refl _ _).alloc (Nat.le_refl _) _).alloc (by simp) _).alloc (by simp; omega) _
  by_cases hk : K % 4 = 0
  · have hk2 : (K : Int) % 4 = 0 := by omega
    go_enter Tryz.func15, Tryz.ntmps15
    go_wp2_with fail
    refine bodyPost_ret (v := Ev.val ⟨x, seq, time, 1, KB, List.replicate (T % 30) 0, 0, 0⟩ (some ⟨w.heap.size + 1 + 1 + 1 + 1, 0, none⟩) (T % 30) (T % 30)) (by simp [results, Tryz.results15, go_sem, Ev.val]) rfl ⟨_, _, _, rfl, ?_, Nat.le_refl _, by omega, ?_, ?_⟩
    · exact zRow8_at _ _ _ (by simp)
    · intro _ a ha
      cases ha
      simp
      omega
    · exact (((((Below.refl _ _).alloc (Nat.le_refl _) _).alloc (by simp) _).alloc (by simp <;> omega) _).alloc (by simp <;> omega) _).alloc (by simp <;> omega) _
  · have hk2 : ((K : Int) % 4 == 0) = false := by rw [beq_eq_false_iff_ne]; omega
    have hk3 : ¬ (K : Int) % 4 = 0 := by omega
    go_enter Tryz.func15, Tryz.ntmps15
    go_wp2_with fail
    refine bodyPost_ret (v := Ev.val ⟨x, seq, time, 1 + K % 4, KB, [], 0, 0⟩ none 0 0) (by simp [results, Tryz.results15, go_sem, Ev.val]) rfl ⟨_, _, _, rfl, Sees.nil _ _, Nat.le_refl _, by omega, Fresh.none _, ?_⟩
    exact ((((Below.refl _ _).alloc (Nat.le_refl _) _).alloc (by simp) _).alloc (by simp <;> omega) _).alloc (by simp <;> omega) _
end Go.Proofs.YtfdnlgigllflfaaGreatDoor.Seg

/- The law's fill. -/
namespace Go.Proofs.YtfdnlgigllflfaaGreatDoor.Seg
open Go Go.RowKit Go.Proofs.YtfdnlgigllflfaaGreatDoor.Words Go.Proofs.YtfdnlgigllflfaaGreatDoor.Enc Go.Proofs.YtfdnlgigllflfaaGreatDoor.Evt Go.Proofs.YtfdnlgigllflfaaGreatDoor.Made Go.Proofs.YtfdnlgigllflfaaGreatDoor.Dsk Go.Proofs.YtfdnlgigllflfaaGreatDoor.Sht
set_option linter.unusedVariables false
set_option linter.unusedSimpArgs false

/-- The law's events, the first one at number u + t. -/
def evsF (x : Int) (u : Nat) : Nat → List (Nat × Nat) → List Ev
  | _, [] => []
  | t, a :: r => putE a.1 a.2 x (u + t) (t + 1) :: evsF x u (t + 1) r
theorem evsF_len (x : Int) (u : Nat) : ∀ (l : List (Nat × Nat)) (t : Nat), (evsF x u t l).length = l.length
  | [], t => rfl
  | a :: r, t => by simp [evsF, evsF_len x u r (t + 1)]
theorem evsF_snoc (x : Int) (u : Nat) : ∀ (l : List (Nat × Nat)) (t : Nat) (a : Nat × Nat), evsF x u t (l ++ [a]) = evsF x u t l ++ [putE a.1 a.2 x (u + (t + l.length)) (t + l.length + 1)]
  | [], t, a => by simp [evsF]
  | b :: r, t, a => by
    simp only [List.cons_append, evsF, evsF_snoc x u r (t + 1) a, List.length_cons]
    rw [show t + 1 + r.length = t + (r.length + 1) by omega]
theorem putE_right {K T : Nat} {x : Nat} {seq time : Nat} (hx : x < 64) (h1 : 1 ≤ seq) (h2 : seq < 9223372036854775808) (h3 : 1 ≤ time) (h4 : time < 9223372036854775808) : Right (putE K T (x : Int) seq time) := by
  refine ⟨?_, ?_, h1, h2, h3, h4, ?_, ?_, ?_, ?_, ?_⟩ <;> simp only [putE]
  · omega
  · omega
  · omega
  · omega
  · omega
  · intro _; exact ⟨by simp [ByteArray.size], by simp [ByteArray.size]⟩
  · intro h; split <;> simp <;> omega
theorem putE_fit {K T : Nat} {x : Nat} {seq time : Nat} (hx : x < 64) (h2 : seq < 9223372036854775808) (h4 : time < 9223372036854775808) : (putE K T (x : Int) seq time).Fit := by
  refine ⟨?_, ?_, ?_, ?_, ?_, ?_, ?_, ?_⟩ <;> simp only [putE] <;> omega
theorem putE_text {K T : Nat} {x : Int} {seq time : Nat} : (putE K T x seq time).text.length ≤ 29 := by
  simp only [putE]; split <;> simp <;> omega
theorem plain_same {e : Ev} (h1 : 1 ≤ e.kind ∧ e.kind ≤ 4) (ht : e.kind ≠ 1 → e.text = []) (hn : e.num = 0) (hd : e.node = 0) : plainE e = e := by
  obtain ⟨wr, sq, tm, kd, key, text, num, node⟩ := e
  simp only at h1 ht hn hd
  subst hn
  subst hd
  have hq : Q.qb 0 = 0 := by decide
  have a1 : (if 1 ≤ kd ∧ kd ≤ 4 then key else (⟨#[]⟩ : ByteArray)) = key := if_pos h1
  have a2 : (if kd = 1 then text else []) = text := by
    by_cases h : kd = 1
    · rw [if_pos h]
    · rw [if_neg h, ht h]
  have a3 : (if kd = 2 ∨ kd = 3 then Q.qb 0 else 0) = 0 := by rw [hq]; split <;> rfl
  have a4 : (if kd = 5 then (0 : Int) else 0) = 0 := by split <;> rfl
  show (⟨wr, sq, tm, kd, if 1 ≤ kd ∧ kd ≤ 4 then key else ⟨#[]⟩, if kd = 1 then text else [], if kd = 2 ∨ kd = 3 then Q.qb 0 else 0, if kd = 5 then 0 else 0⟩ : Ev) = _
  rw [a1, a2, a3, a4]
theorem putE_plain {K T : Nat} {x : Int} {seq time : Nat} : plainE (putE K T x seq time) = putE K T x seq time :=
  plain_same ⟨by simp only [putE]; omega, by simp only [putE]; omega⟩ (fun h => by simp only [putE] at h ⊢; rw [if_neg (by omega)]) rfl rfl

/-- The rows of the law's small events. -/
def SeesP (w : World) (A : Option Addr) (n : Nat) (l : List (Nat × Nat)) : Prop :=
  l.length = n ∧ (∀ a ∈ l, a.1 < 256 ∧ a.2 < 256) ∧ (0 < n → ∃ b o, A = some ⟨b, o, none⟩ ∧ ∀ j a, l[j]? = some a → w.cell? ⟨b, o + j * 2, none⟩ = some (.int .u8 (a.1 : Int)) ∧ w.cell? ⟨b, o + j * 2 + 1, none⟩ = some (.int .u8 (a.2 : Int)))

theorem app_one (s p q : List UInt8) (N acts : Nat) (h : p.length + q.length ≤ 65536) : appE ⟨65536, acts, -1, 0, false⟩ s q [⟨s, p, N⟩] = 0 ∧ appF ⟨65536, acts, -1, 0, false⟩ s q [⟨s, p, N⟩] = [⟨s, p ++ q, N⟩] := by
  have hfi : (p.length : Int) + q.length ≤ 65536 := by omega
  exact ⟨by simp [appE, may_un, sumA, hfi], by simp [appF, sumA, put, hfi]⟩
theorem begin_one (s q : List UInt8) (h : q.length ≤ 50) : beginR ⟨65536, 0, -1, 0, false⟩ s q [] = (0, [⟨s, q, q.length⟩], ⟨65536, 2, -1, 0, false⟩) ∧ appF ⟨65536, 0, -1, 0, false⟩ s q [] = [⟨s, q, 0⟩] := by
  have ha1 : appE ⟨65536, 0, -1, 0, false⟩ s q [] = 0 := by simp [appE, may_un, sumA]; omega
  have hf1 : appF ⟨65536, 0, -1, 0, false⟩ s q [] = [⟨s, q, 0⟩] := by simp [appF, sumA, put]; omega
  refine ⟨?_, hf1⟩
  have he : readE ⟨65536, 0, -1, 0, false⟩ s [] = 2 := by simp [readE, lookA]
  unfold beginR
  rw [he, if_neg (by decide)]
  unfold createR
  rw [ha1, if_pos rfl, hf1, act_un (by decide), act_un (by decide)]
  simp [thereE, thereF, may_un, lookA, upd, syncG]
theorem hd_ok {acts : Nat} (h : acts ≤ 100000) : (⟨65536, acts, -1, 0, false⟩ : Hd).fits := hd_fits5 (by simp) (by simp) (by show acts ≤ _; omega) (by simp) (by simp) (by simp) (by simp)

/-- Create on a new disk. -/
theorem createL (d : Nat) (S : List Nat) (x u : Nat) (w : World) (TT : TabsOn S w) (hd : Disk w d S [] ⟨65536, 0, -1, 0, false⟩) (hx : x < 64) (hu0 : 0 < u) (hu : u < 9223372036854775808) :
    Calls Tryz.prog 24 #[.pointer (some ⟨d, 0, none⟩), .int .i64 (x : Int), .int .u64 (u : Int)] w fun e w' => e = .returned (.tuple #[segV (x : Int) u none 0 0 (headL 115 x u).length, .int .i64 0]) ∧ Dsk.Next S w d [⟨nameL (x : Int) u, headL 115 x u, (headL 115 x u).length⟩] ⟨65536, 2, -1, 0, false⟩ w' := by
  have hhl := headL_len (k := 115) (a := x) (b := u) (by omega) (by omega)
  have htl := (titleL_len (k := 115) (a := x) (b := u) (by omega) (by omega)).2
  have hlen : (headL 115 x u).length ≤ 50 := by omega
  have hb := begin_one (nameL (x : Int) u) (headL 115 x u) hlen
  exact create_ok d S [] _ _ _ x u w TT hx hu0 (by omega) hd (hd_ok (by omega)) (by simp) (by simp [sumA]) (by rw [hb.2]; simp only [sumA]; omega) (by simp) hb.1

/-- Add of an event of the law. -/
theorem addSL (B : List Nat) (d : Nat) (S : List Nat) (x u : Nat) (A : Option Addr) (n c z N acts : Nat) (R : List Ev) (p : List UInt8) (K T time : Nat) (Be : Option Addr) (me ke : Nat) (w : World) (TT : TabsOn S w) (hd : Disk w d S [⟨nameL (x : Int) u, p, N⟩] ⟨65536, acts, -1, 0, false⟩)
    (hsee : SeesEv (S ++ B) w A n R) (hB : ∀ k ∈ B, k < w.heap.size) (hs : Sees w Be me (putE K T (x : Int) (u + n) time).text) (hout : Out S Be me) (hac : acts ≤ 1000) (hx : x < 64) (hu0 : 0 < u) (hu : u + n < 9223372036854775808) (hn : n ≤ 10000) (hz : z ≤ 100000) (ht1 : 1 ≤ time) (ht2 : time ≤ 100000) (hp : p.length + (wrap (evL (putE K T (x : Int) (u + n) time))).length ≤ 65536) :
    Calls Tryz.prog 19 #[segV (x : Int) u A n c z, .pointer (some ⟨d, 0, none⟩), (putE K T (x : Int) (u + n) time).val Be me ke] w (AddGivesB B S d [⟨nameL (x : Int) u, p ++ wrap (evL (putE K T (x : Int) (u + n) time)), N⟩] ⟨65536, acts + 1, -1, 0, false⟩ x u (n + 1) (z + (wrap (evL (putE K T (x : Int) (u + n) time))).length) (R ++ [putE K T (x : Int) (u + n) time]) w) := by
  have ha := app_one (nameL (x : Int) u) p (wrap (evL (putE K T (x : Int) (u + n) time))) N acts hp
  have hr := putE_right (K := K) (T := T) (x := x) (seq := u + n) (time := time) hx (by omega) hu ht1 (by omega)
  have hfit := putE_fit (K := K) (T := T) (x := x) (seq := u + n) (time := time) hx hu (by omega)
  have htx := putE_text (K := K) (T := T) (x := (x : Int)) (seq := u + n) (time := time)
  have h := addS_okB B d S _ _ x u A n c z R (putE K T (x : Int) (u + n) time) Be me ke w TT hd hsee hB hs hout (hd_ok (by omega)) (by show acts < _; omega) (by simp only [sumA]; omega) (by simp) hx hu (by omega) (by omega) hr hfit (by omega) (by simp [putE, ByteArray.size]) ⟨rfl, rfl⟩ ha.1
  rw [ha.2, act_un (by decide), putE_plain] at h
  exact h

theorem ev_short {K T : Nat} {x : Nat} {seq time : Nat} (hx : x < 64) (h1 : 1 ≤ seq) (h2 : seq < 9223372036854775808) (h3 : 1 ≤ time) (h4 : time < 9223372036854775808) : (evL (putE K T (x : Int) seq time)).length ≤ 159 ∧ (wrap (evL (putE K T (x : Int) seq time))).length ≤ 175 := by
  have h := evL_len (putE_right (K := K) (T := T) hx h1 h2 h3 h4)
  have ht := putE_text (K := K) (T := T) (x := (x : Int)) (seq := seq) (time := time)
  have he := enc_two (n := (evL (putE K T (x : Int) seq time)).length) (by omega)
  rw [wrap_length]
  omega
theorem evs_short {x u : Nat} (hx : x < 64) (hu0 : 0 < u) : ∀ (l : List (Nat × Nat)) (t : Nat), u + t + l.length < 9223372036854775808 → t + l.length ≤ 100000 → (wraps ((evsF (x : Int) u t l).map evL)).length ≤ 175 * l.length
  | [], t, _, _ => by simp [evsF, wraps]
  | a :: r, t, h1, h2 => by
    simp only [List.length_cons] at h1 h2 ⊢
    have ih := evs_short hx hu0 r (t + 1) (by omega) (by omega)
    have h := (ev_short (K := a.1) (T := a.2) (x := x) (seq := u + t) (time := t + 1) hx (by omega) (by omega) (by omega) (by omega)).2
    have hw : ∀ (y : List UInt8) (L : List (List UInt8)), (wraps (y :: L)).length = (wrap y).length + (wraps L).length := fun y L => by simp [wraps]
    simp only [evsF, List.map_cons, hw]
    omega

def Pred.made (ev : Ev) (B : Nat) : Facts.Pred := ⟨fun v w => ∃ r : EvS, v = r.e.val r.A r.n r.c ∧ r.e = ev ∧ Sees w r.A r.n r.e.text ∧ Fresh B r.A r.n, fun _ _ _ ⟨r, h, he, hs, hf⟩ hb => ⟨r, h, he, hs.below hb, hf⟩⟩
/-- While the law fills the segment. -/
structure Filling (w : World) (d : Nat) (S : List Nat) (x u b8 b10 : Nat) (l : List (Nat × Nat)) (H N : Nat) (hd : List UInt8) (NM : List UInt8) (A : Option Addr) (S' : List Nat) (W : World) : Prop where
  disk : Disk W d S' [⟨NM, hd ++ wraps ((evsF (x : Int) u 0 l).map evL), N⟩] ⟨65536, 2 + l.length, -1, 0, false⟩
  bes : Beside S w W
  sub : ∀ k ∈ S', k ∈ S ∨ w.heap.size ≤ k
  n8 : b8 ∉ S'
  n10 : b10 ∉ S'
  sees : SeesEv (S' ++ [b8, b10]) W A l.length (evsF (x : Int) u 0 l)
  box8 : W.heap[b8]? = some (.cells #[.int .i64 0, .int .u64 0, .slice none 0 0, .int .i64 0] 29 (0, 0))
  box10 : W.heap[b10]? = some (.cells #[.int .i64 (x : Int), .int .u64 (u : Int), .slice A l.length l.length, .int .i64 ((H + (wraps ((evsF (x : Int) u 0 l).map evL)).length : Nat) : Int)] 29 (0, 0))
def FillGives (S : List Nat) (d : Nat) (x u : Nat) (l : List (Nat × Nat)) (w : World) (e : Ending) (w' : World) : Prop :=
  ∃ A S' N, e = .returned (.tuple #[segV (x : Int) u A l.length l.length ((headL 115 x u).length + (wraps ((evsF (x : Int) u 0 l).map evL)).length), .bool true]) ∧ Disk w' d S' [⟨nameL (x : Int) u, headL 115 x u ++ wraps ((evsF (x : Int) u 0 l).map evL), N⟩] ⟨65536, 2 + l.length, -1, 0, false⟩ ∧ Beside S w w' ∧ (∀ k ∈ S', k ∈ S ∨ w.heap.size ≤ k) ∧ SeesEv S' w' A l.length (evsF (x : Int) u 0 l)

set_option maxRecDepth 100000 in
set_option maxHeartbeats 2000000 in
theorem fill_any (d : Nat) (S : List Nat) (x u : Nat) (A : Option Addr) (n c : Nat) (l : List (Nat × Nat)) (w : World) (TT : TabsOn S w) (hd : Disk w d S [] ⟨65536, 0, -1, 0, false⟩) (hP : ∀ W, Beside S w W → SeesP W A n l) (hn : n ≤ 30) (hx : x < 64) (hu0 : 0 < u) (hu : u < 4611686018427387904) :
    Calls Tryz.prog 8 #[.pointer (some ⟨d, 0, none⟩), .int .i64 (x : Int), .int .u64 (u : Int), .slice A n c] w (FillGives S d x u l w) := by
  have hln : l.length = n := (hP w (Beside.refl _ _)).1
  have hcr := fun W hT hd' => createL d S x u W hT hd' hx hu0 (by omega)
  have hhl := headL_len (k := 115) (a := x) (b := u) (by omega) (by omega)
  have htl := (titleL_len (k := 115) (a := x) (b := u) (by omega) (by omega)).2
  have hH50 : (headL 115 x u).length ≤ 50 := by omega
  clear hhl htl
  have hb := (Below.refl w.heap.size w).alloc (Nat.le_refl _) (.cells #[.int .i64 0, .int .u64 0, .slice none 0 0, .int .i64 0] 29)
  have hg := heap_alloc_new w (.cells #[.int .i64 0, .int .u64 0, .slice none 0 0, .int .i64 0] 29)
  have hSl : ∀ k ∈ S, k < w.heap.size := hd.lt
  have HP := Lib.hid hP
  clear hP
  unfold segV at hcr
  go_enter Tryz.func8, Tryz.ntmps8
  go_wp2_with fail
  refine (hcr _ (TT.below hb) (hd.below hb)).mono ?_
  rintro e w1 ⟨rfl, S1, hd1, hb1, hs1⟩
  have hn8 : w.heap.size ∉ S := fun hm => by have := hSl _ hm; omega
  have g1 := (hb1.block w.heap.size (by simp) hn8).trans hg
  have hz1 : w.heap.size < w1.heap.size := (Array.getElem?_eq_some_iff.1 g1).1
  have hn81 : w.heap.size ∉ S1 := fun hm => by
    rcases hs1 _ hm with h | h
    · exact hn8 h
    · simp at h; omega
  have B1 : Beside S w w1 := (Beside.of_below hb S).trans hb1 fun k hk => .inl hk
  have hs1' : ∀ k ∈ S1, k ∈ S ∨ w.heap.size ≤ k := fun k hk => (hs1 k hk).imp id fun h => by simp at h; omega
  have HD1 := Lib.hid hd1
  have HB1 := Lib.hid B1
  have HS1 := Lib.hid hs1'
  have HN81 := Lib.hid hn81
  have HG1 := Lib.hid g1
  have hl1 : ∀ k ∈ S1, k < w1.heap.size := hd1.lt
  have HL1 := Lib.hid hl1
  clear hcr hb hg hb1 hs1 hs1' g1 B1 hd1 hl1 hd
  go_upto_region 2 with fail
  have hF0 : Filling w d S x u w.heap.size w1.heap.size [] (headL 115 x u).length (headL 115 x u).length (headL 115 x u) (nameL (x : Int) u) none S1 (w1.alloc (.cells #[.int .i64 (x : Int), .int .u64 (u : Int), .slice none 0 0, .int .i64 ((headL 115 x u).length : Int)] 29)) := by
    have hba : Below w1.heap.size w1 (w1.alloc (.cells #[.int .i64 (x : Int), .int .u64 (u : Int), .slice none 0 0, .int .i64 ((headL 115 x u).length : Int)] 29)) := (Below.refl _ _).alloc (Nat.le_refl _) _
    refine ⟨by simpa [evsF, wraps] using HD1.out.below hba, HB1.out.below hba, HS1.out, HN81.out, fun hm => by have := HL1.out _ hm; omega, SeesEv.nil _ _ _, (hba.block _ hz1).trans HG1.out, ?_⟩
    simpa [evsF, wraps] using heap_alloc_new w1 (.cells #[.int .i64 (x : Int), .int .u64 (u : Int), .slice none 0 0, .int .i64 ((headL 115 x u).length : Int)] 29)
  generalize w1.alloc (.cells #[.int .i64 (x : Int), .int .u64 (u : Int), .slice none 0 0, .int .i64 ((headL 115 x u).length : Int)] 29) = W1 at hF0 ⊢
  have hz8 : w.heap.size < w1.heap.size := hz1
  generalize w1.heap.size = b10 at hF0 hz8 ⊢
  clear HD1 HB1 HS1 HN81 HG1 HL1 hz1 hn81
  generalize hH : (headL 115 x u).length = H at hF0 hH50 ⊢
  go_wp2_with fail
  go_loopw [12] (fun i W => ∃ (j : Nat) (Aj : Option Addr) (S' : List Nat), i = .int .i64 (j : Int) ∧ j ≤ n ∧ Hid (Filling w d S x u w.heap.size b10 (l.take j) H H (headL 115 x u) (nameL (x : Int) u) Aj S' W)) (fun i _ => n - (intOf i).toNat)
  case atStart => exact ⟨0, none, S1, rfl, Nat.zero_le _, Lib.hid (by simpa using hF0)⟩
  case round =>
    obtain ⟨j, Aj, S', rfl, hj, HF⟩ := hrel
    clear hF0
    by_cases hlt : j < n
    · have hltk : (l.take j).length = j := by rw [List.length_take]; omega
      have hb10 := HF.out.box10
      rw [hltk] at hb10
      obtain ⟨zj, hzj⟩ : ∃ zj, zj = H + (wraps ((evsF (x : Int) u 0 (l.take j)).map evL)).length := ⟨_, rfl⟩
      rw [← hzj] at hb10
      have HZ := Lib.hid hzj
      clear hzj
      obtain ⟨hlP, h256, hcells⟩ := HP.out wr HF.out.bes
      obtain ⟨bp, op, rfl, hcj⟩ := hcells (by omega)
      obtain ⟨K, T, hKT⟩ : ∃ K T, l[j]? = some (K, T) := ⟨(l[j]'(by omega)).1, (l[j]'(by omega)).2, by rw [List.getElem?_eq_getElem (by omega)]⟩
      obtain ⟨hK, hT⟩ : K < 256 ∧ T < 256 := h256 (K, T) (List.mem_of_getElem? hKT)
      have hpc := hcj j (K, T) hKT
      have HKT := Lib.hid hKT
      have hz10 : b10 < wr.heap.size := (Array.getElem?_eq_some_iff.1 hb10).1
      obtain ⟨q0, q1, q2, q3⟩ := b4cells hb10
      obtain ⟨kp0, kp1⟩ := hpc
      have hjn : (j : Int) < (n : Int) := by omega
      have hj0 : (0 : Int) ≤ (j : Int) := by omega
      have hw1 : IntKind.u64.wrap (j : Int) = (j : Int) := by rw [IntKind.wrap_u64]; omega
      have hw2 : IntKind.u64.wrap ((u : Int) + (j : Int)) = (u : Int) + (j : Int) := by rw [IntKind.wrap_u64]; omega
      have hw3 : IntKind.i64.wrap ((j : Int) + 1) = (j : Int) + 1 := by rw [IntKind.wrap_i64]; omega
      have hw4 : IntKind.u64.wrap ((j : Int) + 1) = (j : Int) + 1 := by rw [IntKind.wrap_u64]; omega
      clear hcj hcells h256
      have EVW : ∀ W, Below wr.heap.size wr W → Calls Tryz.prog 15 #[.agg #[.int .u8 (K : Int), .int .u8 (T : Int)], .int .i64 (x : Int), .int .u64 ((u : Int) + (j : Int)), .int .u64 ((j : Int) + 1)] W fun e w' => ∃ A6 n6 c6, e = .returned ((putE K T (x : Int) (u + j) (j + 1)).val A6 n6 c6) ∧ Hid (Sees w' A6 n6 (putE K T (x : Int) (u + j) (j + 1)).text ∧ Fresh wr.heap.size A6 n6 ∧ Below wr.heap.size wr w') ∧
          (w'.cell? ⟨b10, 0, none⟩ = some (.int .i64 (x : Int)) ∧ w'.cell? ⟨b10, 1, none⟩ = some (.int .u64 (u : Int)) ∧ w'.cell? ⟨b10, 2, none⟩ = some (.slice Aj j j) ∧ w'.cell? ⟨b10, 3, none⟩ = some (.int .i64 (zj : Int))) := fun W hW => by
        refine (event_any K T (x : Int) (u + j) (j + 1) W hK hT).mono ?_
        rintro e w' ⟨A7, n7, c7, rfl, hs7, h71, h72, hf7, hb7⟩
        have hb := hW.trans (hb7.mono hW.size)
        exact ⟨A7, n7, c7, rfl, Lib.hid ⟨hs7, fun h0 a ha => Nat.le_trans hW.size (hf7 h0 a ha), hb⟩, b4cells ((hb.block b10 hz10).trans hb10)⟩
      have htk : l.take (j + 1) = l.take j ++ [(K, T)] := by rw [List.take_add_one, hKT]; rfl
      have hev : evsF (x : Int) u 0 (l.take (j + 1)) = evsF (x : Int) u 0 (l.take j) ++ [putE K T (x : Int) (u + j) (j + 1)] := by
        rw [htk, evsF_snoc, hltk, Nat.zero_add]
      have hwz : wraps ((evsF (x : Int) u 0 (l.take (j + 1))).map evL) = wraps ((evsF (x : Int) u 0 (l.take j)).map evL) ++ wrap (evL (putE K T (x : Int) (u + j) (j + 1))) := by
        rw [hev, List.map_append, wraps_append]; simp [wraps]
      have hes := (ev_short (K := K) (T := T) (x := x) (seq := u + j) (time := j + 1) hx (by omega) (by omega) (by omega) (by omega)).2
      have hess := evs_short (x := x) (u := u) hx hu0 (l.take j) 0 (by omega) (by omega)
      obtain ⟨z8, hz8'⟩ : ∃ z8, z8 = zj + (wrap (evL (putE K T (x : Int) (u + j) (j + 1)))).length := ⟨_, rfl⟩
      have ADDW : ∀ (A6 : Option Addr) (n6 c6 : Nat) (w7 W : World), Hid (Sees w7 A6 n6 (putE K T (x : Int) (u + j) (j + 1)).text ∧ Fresh wr.heap.size A6 n6 ∧ Below wr.heap.size wr w7) → Below w7.heap.size w7 W →
          Calls Tryz.prog 19 #[.agg #[.int .i64 (x : Int), .int .u64 (u : Int), .slice Aj j j, .int .i64 (zj : Int)], .pointer (some ⟨d, 0, none⟩), (putE K T (x : Int) (u + j) (j + 1)).val A6 n6 c6] W fun e w8 => ∃ A8 S8, e = .returned (.tuple #[.agg #[.int .i64 (x : Int), .int .u64 (u : Int), .slice A8 (j + 1) (j + 1), .int .i64 (z8 : Int)], .int .i64 0]) ∧
            Hid (Filling w d S x u w.heap.size b10 (l.take (j + 1)) H H (headL 115 x u) (nameL (x : Int) u) A8 S8 ((((w8.setCell ⟨b10, 0, none⟩ (.int .i64 (x : Int))).setCell ⟨b10, 1, none⟩ (.int .u64 (u : Int))).setCell ⟨b10, 2, none⟩ (.slice A8 (j + 1) (j + 1))).setCell ⟨b10, 3, none⟩ (.int .i64 (z8 : Int)))) ∧
            (w8.cell? ⟨b10, 0, none⟩ = some (.int .i64 (x : Int)) ∧ w8.cell? ⟨b10, 1, none⟩ = some (.int .u64 (u : Int)) ∧ w8.cell? ⟨b10, 2, none⟩ = some (.slice Aj j j) ∧ w8.cell? ⟨b10, 3, none⟩ = some (.int .i64 (zj : Int))) ∧
            w8.frozen? ⟨b10, 0, none⟩ = false ∧ w8.frozen? ⟨b10, 1, none⟩ = false ∧ w8.frozen? ⟨b10, 2, none⟩ = false ∧ w8.frozen? ⟨b10, 3, none⟩ = false ∧ b10 < w8.heap.size := by
        intro A6 n6 c6 w7 W h67 hW
        obtain ⟨hs6, hf6, hb7⟩ := h67.out
        have hbW := hb7.trans (hW.mono hb7.size)
        have F := HF.out
        have hsz := hbW.size
        have hz8w : w.heap.size < wr.heap.size := (Array.getElem?_eq_some_iff.1 F.box8).1
        have hBW := F.bes.below hbW
        have hsee : SeesEv (S' ++ [w.heap.size, b10]) W Aj j (evsF (x : Int) u 0 (l.take j)) := by have := F.sees.below hbW; rwa [hltk] at this
        have hcall := addSL [w.heap.size, b10] d S' x u Aj j j zj H (2 + (l.take j).length) (evsF (x : Int) u 0 (l.take j)) (headL 115 x u ++ wraps ((evsF (x : Int) u 0 (l.take j)).map evL)) K T (j + 1) A6 n6 c6 W (TT.next hBW F.sub) (F.disk.below hbW) hsee (fun k hk => by simp at hk; rcases hk with rfl | rfl <;> omega) (hs6.below hW) (hf6.out fun k hk => F.disk.lt k hk) (by omega) hx hu0 (by omega) (by omega) (by have := HZ.out; omega) (by omega) (by omega) (by rw [List.length_append]; omega)
        refine hcall.mono ?_
        rintro e w8 ⟨A8, S8, rfl, hd8, hb8, hs8, hse8⟩
        have g10 := (hb8.block b10 (by omega) F.n10).trans ((hbW.block b10 hz10).trans hb10)
        have g8 := (hb8.block w.heap.size (by omega) F.n8).trans ((hbW.block w.heap.size hz8w).trans F.box8)
        have n10 : b10 ∉ S8 := fun hm => by
          rcases hs8 _ hm with h | h
          · exact F.n10 h
          · omega
        have n8 : w.heap.size ∉ S8 := fun hm => by
          rcases hs8 _ hm with h | h
          · exact F.n8 h
          · omega
        have hl1 : (l.take (j + 1)).length = j + 1 := by rw [List.length_take]; omega
        refine ⟨A8, S8, by rw [hz8']; rfl, Lib.hid ⟨?_, ?_, ?_, n8, n10, ?_, ?_, ?_⟩, b4cells g10, frozen_row0 g10, frozen_row0 g10, frozen_row0 g10, frozen_row0 g10, (Array.getElem?_eq_some_iff.1 g10).1⟩
        · rw [hwz, hl1, ← List.append_assoc]
          rw [hltk] at hd8
          exact disk_box (disk_box (disk_box (disk_box hd8 _ n10) _ n10) _ n10) _ n10
        · exact ((((hBW.trans hb8 F.sub).setNew (by simp; omega) _).setNew (by simp; omega) _).setNew (by simp; omega) _).setNew (by simp; omega) _
        · intro k hk
          rcases hs8 k hk with h | h
          · exact F.sub k h
          · exact .inr (by omega)
        · rw [hl1, hev]
          exact hse8.next (((((Beside.refl _ _).setCell (by simp) _).setCell (by simp) _).setCell (by simp) _).setCell (by simp) _) fun k hk => .inl hk
        · rw [heapOther (by omega), heapOther (by omega), heapOther (by omega), heapOther (by omega)]
          exact g8
        · rw [hl1, hwz, heapSame (heapSame (heapSame (heapSame g10)))]
          rw [hz8', HZ.out, List.length_append, Nat.add_assoc]
          rfl
      have hz8 := hz8'
      clear hz8 hz8' hes hess hwz hev htk hln hltk hlP
      go_wp2_with fail
      go_region_with (first
        | (go_at_call 15
           refine (EVW _ ?h1).mono ?_
           case h1 => first | exact Below.refl _ _ | exact (Below.refl _ _).drew | exact (Below.refl _ _).drew.drew
           rintro e w7 ⟨A6, n6, c6, rfl, HE6, ⟨t0, t1, t2, t3⟩⟩)
        | (go_at_call 19
           refine (ADDW _ _ _ _ _ HE6 ?h2).mono ?_
           case h2 => first | exact Below.refl _ _ | exact (Below.refl _ _).drew | exact (Below.refl _ _).drew.drew
           rintro e w8 ⟨A8, S8, rfl, HFN, ⟨r0, r1, r2, r3⟩, f0, f1, f2, f3, hz8w⟩))
      all_goals go_wp2
      all_goals go_roundw
      all_goals first | exact ⟨j + 1, A8, S8, rfl, by omega, HFN⟩ | (simp [intOf]; omega)
    · have hjn : j = n := by omega
      subst hjn
      have hall : l.take j = l := List.take_of_length_le (by omega)
      rw [hall] at HF
      have hb10 := HF.out.box10
      have hb8 := HF.out.box8
      have hz8w : w.heap.size < wr.heap.size := (Array.getElem?_eq_some_iff.1 hb8).1
      obtain ⟨ll, hll⟩ : ∃ ll, ll = l.length := ⟨_, rfl⟩
      rw [← hll] at hb10
      obtain ⟨zj, hzj⟩ : ∃ zj, zj = H + (wraps ((evsF (x : Int) u 0 l).map evL)).length := ⟨_, rfl⟩
      rw [← hzj] at hb10
      obtain ⟨s0, s1, s2, s3⟩ := b4cells hb10
      obtain ⟨r0, r1, r2, r3⟩ := b4cells hb8
      have f0 := frozen_row0 (i := 0) hb8
      have f1 := frozen_row0 (i := 1) hb8
      have f2 := frozen_row0 (i := 2) hb8
      have f3 := frozen_row0 (i := 3) hb8
      have HZ := Lib.hid hzj
      have HL := Lib.hid hll
      have HHH := Lib.hid hH
      clear hzj hll hln hb10 hb8 hall hH
      go_wp2
      refine bodyPost_ret (v := .tuple #[segV (x : Int) u Aj ll ll zj, .bool true]) (by simp [results, Tryz.results8, go_sem, segV, s0, s1, s2, s3, r0, r1, r2, r3]) rfl ?_
      have F := HF.out
      refine ⟨Aj, S', H, by rw [HZ.out, HL.out, HHH.out], disk_box (disk_box (disk_box (disk_box F.disk _ F.n8) _ F.n8) _ F.n8) _ F.n8, (((F.bes.setNew (by simp) _).setNew (by simp) _).setNew (by simp) _).setNew (by simp) _, F.sub, ?_⟩
      exact (F.sees.next (((((Beside.refl _ _).setCell (by simp) _).setCell (by simp) _).setCell (by simp) _).setCell (by simp) _) fun k hk => .inl hk).next (Beside.refl _ _) fun k hk => .inl (by simp [hk])
end Go.Proofs.YtfdnlgigllflfaaGreatDoor.Seg
