/- segment.Open: its contract, where the disk goes. -/
import Derived.Test.YtkphklmgbdljiaaGreatDoorBSegAdd
import Derived.Test.YtkphklmgbdljiaaGreatDoorBSegMake
import Derived.Test.YtkphklmgbdljiaaGreatDoorBSegName
import Derived.Test.YtkphklmgbdljiaaGreatDoorBSheetLaw
namespace Go.Proofs.YtkphklmgbdljiaaGreatDoor.Seg
open Go Go.RowKit Go.Proofs.YtkphklmgbdljiaaGreatDoor.Words Go.Proofs.YtkphklmgbdljiaaGreatDoor.Enc Go.Proofs.YtkphklmgbdljiaaGreatDoor.Evt Go.Proofs.YtkphklmgbdljiaaGreatDoor.Made Go.Proofs.YtkphklmgbdljiaaGreatDoor.Dsk Go.Proofs.YtkphklmgbdljiaaGreatDoor.Sht
set_option linter.unusedVariables false
set_option linter.unusedSimpArgs false

/-- A segment's name is split. -/
theorem split_name (n u : Nat) (hn : n < 256) (hu : u < 18446744073709551616) (w : World) (T : STabs w) :
    Calls Tryz.prog 61 #[.string ⟨(nameL (n : Int) u).toArray⟩] w fun e w' => e = .returned (.tuple #[.int .i64 (n : Int), .int .u64 (u : Int), .bool true]) ∧ Below w.heap.size w w' := by
  have := name_len (u := u) hn
  refine (split_any (nameL (n : Int) u) (by omega) w T).mono ?_
  rintro e w' ⟨h, hb⟩
  rcases h with ⟨x, v, _, _, _, rfl, _, hs⟩ | ⟨_, hno⟩
  · obtain ⟨rfl, rfl⟩ := hs n u hn hu rfl
    exact ⟨rfl, hb⟩
  · exact absurd rfl (hno n u hn hu)

set_option maxRecDepth 100000 in
set_option maxHeartbeats 2000000 in
theorem openS_allB (B : List Nat) (d : Nat) (S : List Nat) (files : List File) (h : Hd) (x u : Nat) (f : File) (q : List UInt8) (w : World) (hBw : ∀ k ∈ B, k < w.heap.size) (TT : TabsOn S w) (hd : Disk w d S files h) (hx : x < 64) (hu : u < 9223372036854775808) (ht : sumA files ≤ 500000000)
    (hfit : h.fits) (hmay : h.may = true) (hl : lookA (nameL (x : Int) u) files = some f) (hf : f.p = headL 115 x u ++ q)
    (hrn : (allL q most).1.length ≤ 10000000) (hrz : (wraps (allL q most).1).length ≤ 500000000) (hrl : ∀ l ∈ (allL q most).1, l.length ≤ 2097152) (hall : (prefE (x : Int) u (allL q most).1).length = (allL q most).1.length) :
    Calls Tryz.prog 43 #[.pointer (some ⟨d, 0, none⟩), .string ⟨(nameL (x : Int) u).toArray⟩] w (AddGivesB B S d (mendF (nameL (x : Int) u) 115 x u q files) (mendH q h) x u (prefE (x : Int) u (allL q most).1).length ((headL 115 x u).length + (wraps ((allL q most).1.take (prefE (x : Int) u (allL q most).1).length)).length) (prefE (x : Int) u (allL q most).1) w) := by
  have hnl := name_len (n := x) (u := u) (by omega)
  have hHl : (headL 115 x u).length ≤ 500000000 := by have := lookA_mem hl; rw [hf, List.length_append] at this; omega
  have hsp := fun W hT => split_name x u (by omega) (by omega) W hT
  have htit := fun W => titleO_any x u (by omega) W
  have hmend := fun W hT hd' => mendS_ok d S files h (nameL (x : Int) u) f x u q W hT (by omega) (by omega) hd' (by omega) ht hfit hmay hl hf
  have hemp := fun W hT => empty_any x u (by omega) (by omega) W hT
  have hwith := fun (A : Option Addr) (n c : Nat) W hT hs hn => with_any (x : Int) u (headL 115 x u).length A n c (allL q most).1 W hT hs hn
  have hSl : ∀ k ∈ S, k < w.heap.size := hd.lt
  obtain ⟨F2, hF2⟩ : ∃ F2, F2 = mendF (nameL (x : Int) u) 115 x u q files := ⟨_, rfl⟩
  obtain ⟨H2, hH2⟩ : ∃ H2, H2 = mendH q h := ⟨_, rfl⟩
  rw [← hF2, ← hH2]
  rw [← hF2, ← hH2] at hmend
  clear hF2 hH2 hl hf hmay hfit ht
  generalize (allL q most).1 = L at hmend hwith hrn hrz hrl hall ⊢
  generalize nameL (x : Int) u = NM at hsp hmend ⊢
  generalize (headL 115 x u).length = H at hemp hwith hHl ⊢
  have hwz : (wraps (L.take (prefE (x : Int) u L).length)).length ≤ 500000000 := by
    have h1 : wraps L = wraps (L.take (prefE (x : Int) u L).length) ++ wraps (L.drop (prefE (x : Int) u L).length) := by rw [← wraps_append, List.take_append_drop]
    rw [h1, List.length_append] at hrz; omega
  unfold WithGives at hwith
  unfold AddGivesB
  generalize hZ : H + (wraps (L.take (prefE (x : Int) u L).length)).length = Z at hwith ⊢
  generalize hP : prefE (x : Int) u L = P at hwith hall ⊢
  have hb := (Below.refl w.heap.size w).alloc (Nat.le_refl _) (.cells #[.int .i64 0, .int .u64 0, .slice none 0 0, .int .i64 0] 65)
  have hg := heap_alloc_new w (.cells #[.int .i64 0, .int .u64 0, .slice none 0 0, .int .i64 0] 65)
  go_enter Tryz.func43, Tryz.ntmps43
  go_wp2_with fail
  refine (hsp _ (TT.below hb _ (Beside.refl _ _)).2).mono ?_
  rintro e w1 ⟨rfl, hb1⟩
  have b1 := hb.trans (hb1.mono hb.size)
  go_wp2_with fail
  refine (htit w1).mono ?_
  rintro e w2 ⟨rfl, hb2⟩
  have b2 := b1.trans (hb2.mono b1.size)
  have g2 := (hb2.block w.heap.size (Nat.lt_of_lt_of_le (by simp) hb1.size)).trans ((hb1.block w.heap.size (by simp)).trans hg)
  have hz2 : w.heap.size < w2.heap.size := (Array.getElem?_eq_some_iff.1 g2).1
  go_wp2_with fail
  refine (hmend w2 (TT.below b2) (hd.below b2)).mono ?_
  rintro e w3 ⟨Al, nl, cl, vs, rfl, hown3, heach3, S3, hd3, hb3, hs3⟩
  have hsee3 := SeesAll.of_own hown3 heach3.each
  have hnl3 := hsee3.len
  have hnS : w.heap.size ∉ S := fun hm => by have := hSl _ hm; omega
  have g3 := (hb3.block w.heap.size hz2 hnS).trans g2
  have B3 : Beside S w w3 := (Beside.of_below b2 S).trans hb3 fun k hk => .inl hk
  have hS3 : ∀ k ∈ S3, k ∈ S ∨ w2.heap.size ≤ k := hs3
  have T3 := (TT w3 B3).1
  have hz3 := hb3.size
  have hnS3 : w.heap.size ∉ S3 := fun hm => by
    rcases hS3 _ hm with h | h
    · exact hnS h
    · omega
  have hS3l : ∀ k ∈ S3, k < w3.heap.size := hd3.lt
  clear hmend hsp htit hb3 hs3 hb2 hb1 hb hg g2 b1 hown3 heach3 hd
  go_wp2_with fail
  refine (hemp w3 T3).mono ?_
  rintro e w4 ⟨rfl, hb4⟩
  have g4 := (hb4.block w.heap.size (by omega)).trans g3
  go_wp2_with fail
  refine (hwith Al nl cl w4 (T3.below hb4) (hsee3.below hb4) (by omega) (by omega) (by omega) hrl).mono ?_
  rintro e w5 ⟨A5, rfl, hb5, hse5⟩
  have g5 := (hb5.block w.heap.size (Nat.lt_of_lt_of_le (by omega) hb4.size)).trans g4
  have hb35 := hb4.trans (hb5.mono hb4.size)
  have hSE := hse5 (S3 ++ B ++ [w.heap.size]) (fun k hk => by
    rcases List.mem_append.1 hk with h | h
    · rcases List.mem_append.1 h with h | h
      · exact Nat.lt_of_lt_of_le (hS3l k h) hb4.size
      · have := hBw k h; have := b2.size; have := hb4.size; omega
    · simp at h; have := hb4.size; omega)
  have hd5 := hd3.below hb35
  have B5 := B3.below hb35
  have hz5 : w.heap.size < w5.heap.size := (Array.getElem?_eq_some_iff.1 g5).1
  have hb6 := (Below.refl w5.heap.size w5).alloc (Nat.le_refl _) (.cells #[.int .i64 (x : Int), .int .u64 (u : Int), .slice A5 P.length P.length, .int .i64 (Z : Int)] 65)
  have g6 := (hb6.block w.heap.size hz5).trans g5
  obtain ⟨s0, s1, s2, s3⟩ := b4cells (heap_alloc_new w5 (.cells #[.int .i64 (x : Int), .int .u64 (u : Int), .slice A5 P.length P.length, .int .i64 (Z : Int)] 65))
  obtain ⟨r0, r1, r2, r3⟩ := b4cells g6
  have f0 := frozen_row0 (i := 0) g6
  have f1 := frozen_row0 (i := 1) g6
  have f2 := frozen_row0 (i := 2) g6
  have f3 := frozen_row0 (i := 3) g6
  have HSE := Lib.hid (hSE.below hb6)
  have HD := Lib.hid (hd5.below hb6)
  have HB := Lib.hid (B5.below hb6)
  have HS := Lib.hid (fun k (hk : k ∈ S3) => (hS3 k hk).imp id fun h => (by have := b2.size; omega : w.heap.size ≤ k))
  have HN := Lib.hid hnS3
  have hlt : ¬ P.length < nl := by omega
  clear hall hnl3 hemp hwith T3 B3 hSE hd3 hd5 B5 hb4 hb5 hb35 hb6 g3 g4 g5 g6 hse5 hsee3 hS3 hS3l hnS3
  unfold segV
  go_upto_region 8 with fail
  generalize w5.alloc (.cells #[.int .i64 (x : Int), .int .u64 (u : Int), .slice A5 P.length P.length, .int .i64 (Z : Int)] 65) = W6 at HSE HD HB s0 s1 s2 s3 r0 r1 r2 r3 f0 f1 f2 f3 ⊢
  go_wp2
  refine bodyPost_ret (v := .tuple #[segV (x : Int) u A5 P.length P.length Z, .int .i64 0]) (by simp [results, Tryz.results43, go_sem, segV, s0, s1, s2, s3, r0, r1, r2, r3]) rfl ?_
  have hns := HN.out
  refine ⟨A5, S3, rfl, disk_box (disk_box (disk_box (disk_box HD.out _ hns) _ hns) _ hns) _ hns, (((HB.out.setNew (by simp) _).setNew (by simp) _).setNew (by simp) _).setNew (by simp) _, HS.out, ?_⟩
  have h0 : SeesEv (S3 ++ B ++ [w.heap.size]) W6 A5 P.length P := HSE.out
  exact (h0.next (((((Beside.refl _ _).setCell (by simp) _).setCell (by simp) _).setCell (by simp) _).setCell (by simp) _) fun k hk => .inl hk).next (Beside.refl _ _) fun k hk => .inl (List.mem_append.2 (.inl hk))
end Go.Proofs.YtkphklmgbdljiaaGreatDoor.Seg

/- segment.Open, where it tells an error. -/
namespace Go.Proofs.YtkphklmgbdljiaaGreatDoor.Seg
open Go Go.RowKit Go.Proofs.YtkphklmgbdljiaaGreatDoor.Words Go.Proofs.YtkphklmgbdljiaaGreatDoor.Enc Go.Proofs.YtkphklmgbdljiaaGreatDoor.Evt Go.Proofs.YtkphklmgbdljiaaGreatDoor.Made Go.Proofs.YtkphklmgbdljiaaGreatDoor.Dsk Go.Proofs.YtkphklmgbdljiaaGreatDoor.Sht
set_option linter.unusedVariables false
set_option linter.unusedSimpArgs false

def zeroSeg : Value := .agg #[.int .i64 0, .int .u64 0, .slice none 0 0, .int .i64 0]
end Go.Proofs.YtkphklmgbdljiaaGreatDoor.Seg

/- The law's events. -/
namespace Go.Proofs.YtkphklmgbdljiaaGreatDoor.Seg
open Go Go.RowKit Go.Proofs.YtkphklmgbdljiaaGreatDoor.Words Go.Proofs.YtkphklmgbdljiaaGreatDoor.Enc Go.Proofs.YtkphklmgbdljiaaGreatDoor.Evt Go.Proofs.YtkphklmgbdljiaaGreatDoor.Made Go.Proofs.YtkphklmgbdljiaaGreatDoor.Dsk Go.Proofs.YtkphklmgbdljiaaGreatDoor.Sht
set_option linter.unusedVariables false
set_option linter.unusedSimpArgs false

def EventNew (ev : Ev) (w : World) (e : Ending) (w' : World) : Prop :=
  ∃ A n c, e = .returned (ev.val A n c) ∧ Sees w' A n ev.text ∧ n ≤ c ∧ c ≤ 9223372036854775807 ∧ Fresh w.heap.size A n ∧ Below w.heap.size w w'

def zRow8 (k : Nat) : Array Value := madeCells #[.int .u8 0] k
theorem zRow8_sees (W : World) (k : Nat) : Sees (W.alloc (.cells (zRow8 k) 5)) (some ⟨W.heap.size, 0, none⟩) k (List.replicate k 0) := by
  refine sees_new W _ _ k _ (by simp) fun j u hu => ?_
  have hj : j < k := by have := (List.getElem?_eq_some_iff.1 hu).1; simpa using this
  rw [List.getElem?_replicate, if_pos hj] at hu
  injection hu with hu
  subst hu
  have h1 : j % 1 = 0 := Nat.mod_one j
  simp [zRow8, madeCells, hj, h1]
theorem zRow8_at (W : World) (k b : Nat) (hb : b = W.heap.size) : Sees (W.alloc (.cells (zRow8 k) 5)) (some ⟨b, 0, none⟩) k (List.replicate k 0) := by subst hb; exact zRow8_sees W k
theorem make_any (W : World) (k : Nat) (hk : k ≤ 3000000) : (Instr.makeSlice 34 (.int .i64 (k : Int)) (.int .i64 (k : Int))).run Tryz.prog W = .ok (.slice (some ⟨W.heap.size, 0, none⟩) k k) (W.alloc (.cells (zRow8 k) 5)) := by
  obtain ⟨i, hi, hz, hsz, hby⟩ := info_parts info8
  have := run_make (P := Tryz.prog) W 34 5 i (.int .u8 0) Tryz.underlying34 hi hz .i64 .i64 (k : Int) (k : Int) (by omega) (Int.le_refl _) (by rw [hby]; omega) (by omega)
  rw [this, hsz]
  simp only [Int.toNat_natCast, Nat.mul_one]
  rfl
end Go.Proofs.YtkphklmgbdljiaaGreatDoor.Seg

/- The law's fill. -/
namespace Go.Proofs.YtkphklmgbdljiaaGreatDoor.Seg
open Go Go.RowKit Go.Proofs.YtkphklmgbdljiaaGreatDoor.Words Go.Proofs.YtkphklmgbdljiaaGreatDoor.Enc Go.Proofs.YtkphklmgbdljiaaGreatDoor.Evt Go.Proofs.YtkphklmgbdljiaaGreatDoor.Made Go.Proofs.YtkphklmgbdljiaaGreatDoor.Dsk Go.Proofs.YtkphklmgbdljiaaGreatDoor.Sht
set_option linter.unusedVariables false
set_option linter.unusedSimpArgs false

theorem plain_same {e : Ev} (h1 : 1 ≤ e.kind ∧ e.kind ≤ 4) (ht : e.kind ≠ 1 → e.text = []) (hn : e.num = 0) (hd : e.node = 0) : plainE e = e := by
  obtain ⟨wr, sq, tm, kd, key, text, num, node⟩ := e
  simp only at h1 ht hn hd
  subst hn
  subst hd
  have hq : Q.qb 0 = 0 := by decide
  have a1 : (if 1 ≤ kd ∧ kd ≤ 4 then key else (⟨#[]⟩ : ByteArray)) = key := if_pos h1
  have a2 : (if kd = 1 then text else []) = text := by
    by_cases h : kd = 1
    · rw [if_pos h]
    · rw [if_neg h, ht h]
  have a3 : (if kd = 2 ∨ kd = 3 then Q.qb 0 else 0) = 0 := by rw [hq]; split <;> rfl
  have a4 : (if kd = 5 then (0 : Int) else 0) = 0 := by split <;> rfl
  show (⟨wr, sq, tm, kd, if 1 ≤ kd ∧ kd ≤ 4 then key else ⟨#[]⟩, if kd = 1 then text else [], if kd = 2 ∨ kd = 3 then Q.qb 0 else 0, if kd = 5 then 0 else 0⟩ : Ev) = _
  rw [a1, a2, a3, a4]
/-- The rows of the law's small events. -/
def SeesP (w : World) (A : Option Addr) (n : Nat) (l : List (Nat × Nat)) : Prop :=
  l.length = n ∧ (∀ a ∈ l, a.1 < 256 ∧ a.2 < 256) ∧ (0 < n → ∃ b o, A = some ⟨b, o, none⟩ ∧ ∀ j a, l[j]? = some a → w.cell? ⟨b, o + j * 2, none⟩ = some (.int .u8 (a.1 : Int)) ∧ w.cell? ⟨b, o + j * 2 + 1, none⟩ = some (.int .u8 (a.2 : Int)))

theorem hd_ok {acts : Nat} (h : acts ≤ 100000) : (⟨65536, acts, -1, 0, false⟩ : Hd).fits := hd_fits5 (by simp) (by simp) (by show acts ≤ _; omega) (by simp) (by simp) (by simp) (by simp)

end Go.Proofs.YtkphklmgbdljiaaGreatDoor.Seg
