/- sheet.Scan and sheet.Read, of any bytes. -/
import Derived.Test.YtffhepdhkpldlaaDoorShtTitle
namespace Go.Proofs.YtffhepdhkpldlaaDoor.Sht
open Go Go.RowKit Go.Proofs.YtffhepdhkpldlaaDoor.Words Go.Proofs.YtffhepdhkpldlaaDoor.Enc Go.Proofs.YtffhepdhkpldlaaDoor.Made Go.Proofs.YtffhepdhkpldlaaDoor.Tape Go.Proofs.YtffhepdhkpldlaaDoor.Dsk
set_option linter.unusedVariables false
set_option linter.unusedSimpArgs false

/-- What any bytes are, as a sheet: the error's number, or the title and how many bytes its record has. -/
def scanG (p : List UInt8) : Nat ⊕ ((UInt8 × Nat × Nat) × Nat) :=
  if (openL p most).2.2 ≠ 0 then .inl (openL p most).2.2 else
  match titleG (openL p most).1 with
  | .inl E => .inl E
  | .inr t => .inr (t, (openL p most).2.1)
def ScanGives (g : Nat ⊕ ((UInt8 × Nat × Nat) × Nat)) (p : List UInt8) (w : World) (e : Ending) (w' : World) : Prop :=
  match g with
  | .inl E => e = .returned (.tuple #[zeroSheet, .int .i64 (E : Int)]) ∧ Below w.heap.size w w'
  | .inr ((k, a, b), K) => TellsSheet k a b (allL (p.drop K) most).1 (K + (allL (p.drop K) most).2.1) (allL (p.drop K) most).2.2 w e w'
theorem openL_text (l : List UInt8) (m : Int) : (openL l m).1.length ≤ l.length := by
  unfold openL opened
  split
  · simp
  split
  · simp
  split
  · simp
  split
  · simp
  split
  · simp
  · simp only [List.length_take, List.length_drop]; omega

set_option maxRecDepth 100000 in
set_option maxHeartbeats 1000000 in
theorem scan_all (A : Option Addr) (n c : Nat) (p : List UInt8) (w : World) (T : Chk.Tabs w) (hs : Sees w A n p) (hc : n ≤ c) (hcm : c ≤ 9223372036854775807) (hn : n ≤ 500000000) :
    Calls Tryd.prog 65 #[.slice A n c] w (ScanGives (scanG p) p w) := by
  have hno := hs.1
  have hol := openL_len p most
  have hot := openL_text p most
  obtain ⟨G, hG⟩ : ∃ G, G = scanG p := ⟨_, rfl⟩
  rw [← hG]
  obtain ⟨X, H, E0, hop⟩ : ∃ X H E0, openL p 2097152 = (X, H, E0) := ⟨_, _, _, rfl⟩
  have hG2 : G = if E0 ≠ 0 then .inl E0 else match titleG X with | .inl E => .inl E | .inr t => .inr (t, H) := by
    rw [hG]; unfold scanG; rw [show most = 2097152 from rfl, hop]
  rw [show most = 2097152 from rfl, hop] at hol hot
  simp only [] at hol hot
  have HG := Lib.hid hG2
  clear hG hG2
  have hb0 : Below w.heap.size w (w.alloc (.cells #[.int .u8 0, .int .u64 0, .int .u64 0, .slice none 0 0, .int .i64 0, .int .i64 0] 78)) := (Below.refl _ _).alloc (Nat.le_refl _) _
  have g0 := sheetAt_new w (.int .u8 0) (.int .u64 0) (.int .u64 0) (.slice none 0 0) (.int .i64 0) (.int .i64 0)
  have OPEN := Lib.hid (Chk.openR_any A n c _ 2097152 _ (T.below hb0) (hs.below hb0) hc hcm (by omega) (by omega) (by omega))
  go_enter Tryd.func65, Tryd.ntmps65
  go_wp2_with fail
  refine OPEN.out.mono ?_
  rw [hop]
  rintro e w1 ⟨A1, n1, c1, A2, n2, c2, rfl, hown1, hrest, hcc2, hcm2, hb1⟩
  simp only [] at hown1 hrest ⊢
  have hs1 := hown1.sees
  have hcap1 := hown1.cap
  have b1 := hb0.trans (hb1.mono hb0.size)
  have hs2 := hrest _ (hs.below b1)
  have g1 := g0.below hb1
  clear hrest hown1 OPEN g0 hb0 hb1
  by_cases hE0 : E0 = 0
  case neg =>
    have GD : Hid (G = .inl E0) := Lib.hid (by rw [HG.out, if_pos hE0])
    have d1 : ((E0 : Int) != 0) = true := by rw [bne_iff_ne]; omega
    have d2 : ((E0 : Int) == 0) = false := by rw [beq_eq_false_iff_ne]; omega
    obtain ⟨⟨e0, e1, e2, e3, e4, e5⟩, fz⟩ := g1.cells
    have f0 := fz 0
    have f1 := fz 1
    have f2 := fz 2
    have f3 := fz 3
    have f4 := fz 4
    have f5 := fz 5
    have HB1 := Lib.hid b1
    clear fz g1 b1 hs1 hs2 hE0 HG hop
    go_wp2
    refine bodyPost_ret (v := .tuple #[zeroSheet, .int .i64 (E0 : Int)]) (by simp [results, Tryd.results65, go_sem, e0, e1, e2, e3, e4, e5, zeroSheet]) rfl ?_
    rw [GD.out]
    exact ⟨rfl, Below.beside HB1.out (beside_six w1 w.heap.size (.int .u8 0) (.int .u64 0) (.int .u64 0) (.slice none 0 0) (.int .i64 0) (.int .i64 0)) HB1.out.size (fun x hx => by simp at hx; omega)⟩
  case pos =>
  subst hE0
  have HG1 : Hid (G = match titleG X with | .inl E => .inl E | .inr t => .inr (t, H)) := Lib.hid (by rw [HG.out, if_neg (by simp)])
  have TIT := titleOf_all A1 n1 c1 X w1 hs1 hcap1.1 (by have := hs1.1; omega)
  clear HG
  cases ht : titleG X with
  | inl E =>
    rw [ht] at TIT
    have GD : Hid (G = .inl E) := Lib.hid (by rw [HG1.out, ht])
    have hEne : E ≠ 0 := titleG_ne ht
    have d1 : ((E : Int) != 0) = true := by rw [bne_iff_ne]; omega
    have d2 : ((E : Int) == 0) = false := by rw [beq_eq_false_iff_ne]; omega
    have TT := Lib.hid TIT
    clear TIT hEne ht HG1
    go_wp2_with fail
    refine TT.out.mono ?_
    rintro e w2 ⟨rfl, hb2⟩
    unfold zeroT
    have al := (Below.refl w2.heap.size w2).alloc (Nat.le_refl _) (.cells #[.int .u8 0, .int .u64 0, .int .u64 0] 50)
    have b2 := (b1.trans (hb2.mono b1.size)).trans (al.mono (b1.trans (hb2.mono b1.size)).size)
    have g2 := (g1.below hb2).below al
    obtain ⟨⟨e0, e1, e2, e3, e4, e5⟩, fz⟩ := g2.cells
    have f0 := fz 0
    have f1 := fz 1
    have f2 := fz 2
    have f3 := fz 3
    have f4 := fz 4
    have f5 := fz 5
    have HB1 := Lib.hid b2
    clear fz g1 g2 b1 b2 hs1 hs2 hop hb2 al TT
    go_wp2
    refine bodyPost_ret (v := .tuple #[zeroSheet, .int .i64 (E : Int)]) (by simp [results, Tryd.results65, go_sem, e0, e1, e2, e3, e4, e5, zeroSheet]) rfl ?_
    rw [GD.out]
    exact ⟨rfl, Below.beside HB1.out (beside_six _ w.heap.size (.int .u8 0) (.int .u64 0) (.int .u64 0) (.slice none 0 0) (.int .i64 0) (.int .i64 0)) HB1.out.size (fun x hx => by simp at hx; omega)⟩
  | inr t =>
  obtain ⟨k, a, b⟩ := t
  rw [ht] at TIT
  have GD : Hid (G = .inr ((k, a, b), H)) := Lib.hid (by rw [HG1.out, ht])
  have TT := Lib.hid TIT
  have hn2 : n2 = n - H := by have := hs2.1; rw [List.length_drop] at this; omega
  have HN2 := Lib.hid hn2
  have hle := allL_le (p.drop H) most
  rw [List.length_drop] at hle
  obtain ⟨q, hq⟩ : ∃ q, q = p.drop H := ⟨_, rfl⟩
  rw [← hq] at hs2 hle
  have HQ : Hid (p.drop H = q) := Lib.hid hq.symm
  clear hq
  clear TIT ht HG1 hn2 hs1 hcap1 hop
  go_wp2_with fail
  refine TT.out.mono ?_
  rintro e w2 ⟨rfl, hb2⟩
  unfold titleV
  have b2 := b1.trans (hb2.mono b1.size)
  have g2 := g1.below hb2
  have hl2 := g2.lt
  have hs22 := hs2.below hb2
  clear hs2 g1 hb2 b1 TT
  go_wp2_with fail
  have hb3 : Below w2.heap.size w2 (w2.alloc (.cells #[.int .u8 (k.toNat : Int), .int .u64 (a : Int), .int .u64 (b : Int)] 50)) := (Below.refl _ _).alloc (Nat.le_refl _) _
  have q3 : (w2.alloc (.cells #[.int .u8 (k.toNat : Int), .int .u64 (a : Int), .int .u64 (b : Int)] 50)).heap[w2.heap.size]? = some (.cells #[.int .u8 (k.toNat : Int), .int .u64 (a : Int), .int .u64 (b : Int)] 50 (0, 0)) := heap_alloc_new w2 _
  have g3 := g2.below hb3
  have hs3 := hs22.below hb3
  have b3 := b2.trans (hb3.mono b2.size)
  clear g2 hs22 hb3 b2
  generalize w2.alloc (.cells #[.int .u8 (k.toNat : Int), .int .u64 (a : Int), .int .u64 (b : Int)] 50) = W3 at q3 g3 hs3 b3 ⊢
  have hlt3 : w.heap.size < w2.heap.size := hl2
  generalize w2.heap.size = r at q3 hlt3 ⊢
  refine (Chk.allR_any A2 n2 c2 q 2097152 W3 (T.below b3) hs3 hcc2 hcm2 (by have := HN2.out; omega) (by omega) (by omega)).mono ?_
  rintro e w4 ⟨Al, nl, cl, vs, rfl, hown4, heach4, hb4⟩
  have b4 := b3.trans (hb4.mono b3.size)
  have g4 := g3.below hb4
  have q4 := (hb4.block r (Array.getElem?_eq_some_iff.1 q3).1).trans q3
  have hm0 : w.heap.size < W3.heap.size := g3.lt
  obtain ⟨gd, hG⟩ : ∃ gd, gd = (allL q 2097152).2.1 := ⟨_, rfl⟩
  obtain ⟨E, hE⟩ : ∃ E, E = (allL q 2097152).2.2 := ⟨_, rfl⟩
  rw [← hG, ← hE]
  have hle' : gd ≤ n - H := by rw [hG, ← hno]; exact hle
  have hGE : Hid (gd = (allL q 2097152).2.1 ∧ E = (allL q 2097152).2.2) := ⟨hG, hE⟩
  have HE4 := Lib.hid heach4
  have HO4 := Lib.hid hown4
  have hsub : IntKind.i64.wrap ((n : Int) - (n2 : Int)) = (H : Int) := by have := HN2.out; rw [IntWalk.i64_in _ (by omega)]; omega
  have hsum : IntKind.i64.wrap ((H : Int) + (gd : Int)) = (H : Int) + (gd : Int) := IntWalk.i64_in _ (by omega)
  obtain ⟨⟨c0, c1', c2', c3', c4', c5'⟩, fz⟩ := g4.cells
  have f0 := fz 0
  have f1 := fz 1
  have f2 := fz 2
  have f3 := fz 3
  have f4 := fz 4
  have f5 := fz 5
  obtain ⟨t0, t1, t2⟩ := box3 q4
  have B4 := Lib.hid b4
  have HB3 := Lib.hid b3.size
  clear g4 q4 heach4 hown4 hG hE hle hle' b4 b3 hb4 g3 q3 hs3 hs fz hl2
  go_wp2
  refine bodyPost_ret (v := .tuple #[.agg #[.int .u8 (k.toNat : Int), .int .u64 (a : Int), .int .u64 (b : Int), .slice Al nl cl, .int .i64 ((H : Int) + (gd : Int)), .int .i64 (E : Int)], .int .i64 0]) (by simp [results, Tryd.results65, go_sem, c0, c1', c2', c3', c4', c5']) rfl ?_
  have hbes := beside_six w4 w.heap.size (.int .u8 (k.toNat : Int)) (.int .u64 (a : Int)) (.int .u64 (b : Int)) (.slice Al nl cl) (.int .i64 ((H : Int) + (gd : Int))) (.int .i64 (E : Int))
  have hSm : ∀ x ∈ [w.heap.size], x < W3.heap.size := fun x hx => by simp at hx; omega
  have hg1 := hGE.out
  have hb4 := B4.out
  rw [GD.out]
  refine ⟨Al, nl, cl, vs, ?_, Own.lower (own_beside HO4.out hbes hSm) HB3.out, ?_, Below.beside hb4 hbes hb4.size (fun x hx => by simp at hx; omega)⟩
  · unfold sheetV most
    rw [HQ.out, ← hg1.1, ← hg1.2]
    simp
  · rw [HQ.out]
    exact each_lower (each_beside HE4.out hbes hSm) HB3.out
theorem openL_errs (l : List UInt8) (m : Int) : (openL l m).2.2 = 0 ∨ (openL l m).2.2 = 4 ∨ (openL l m).2.2 = 5 ∨ (openL l m).2.2 = 6 := by
  have := tk_errs5 l 0 0
  unfold openL opened
  split
  · simp only []; omega
  split
  · simp
  split
  · simp
  split
  · simp
  split
  · simp
  · simp
theorem scanG_errs {p : List UInt8} {E : Nat} (h : scanG p = .inl E) : E = 4 ∨ E = 5 ∨ E = 6 := by
  have := openL_errs p most
  unfold scanG at h
  by_cases h0 : (openL p most).2.2 ≠ 0
  · rw [if_pos h0] at h; injection h with h; omega
  · rw [if_neg h0] at h
    cases h1 : titleG (openL p most).1 with
    | inl E1 => rw [h1] at h; injection h with h; subst h; exact titleG_errs h1
    | inr t => rw [h1] at h; cases h

set_option maxRecDepth 100000 in
set_option maxHeartbeats 1000000 in
theorem read_all (d : Nat) (S : List Nat) (files : List File) (h : Hd) (s : List UInt8) (f : File) (w : World) (T : Chk.Tabs w) (hd : Disk w d S files h) (hs2 : s.length ≤ 100000) (ht : sumA files ≤ 500000000)
    (hoff : h.off = false) (hl : lookA s files = some f) :
    Calls Tryd.prog 40 #[.pointer (some ⟨d, 0, none⟩), .string ⟨s.toArray⟩] w (ScanGives (scanG f.p) f.p w) := by
  obtain ⟨hp, he⟩ := read_bytes hoff hl
  have hlen := lookA_mem hl
  obtain ⟨q, hq⟩ : ∃ q, q = f.p := ⟨_, rfl⟩
  rw [← hq] at hp hlen ⊢
  have hb0 : Below w.heap.size w (w.alloc (.cells #[.int .u8 0, .int .u64 0, .int .u64 0, .slice none 0 0, .int .i64 0, .int .i64 0] 78)) := (Below.refl _ _).alloc (Nat.le_refl _) _
  have g0 := sheetAt_new w (.int .u8 0) (.int .u64 0) (.int .u64 0) (.slice none 0 0) (.int .i64 0) (.int .i64 0)
  have hread := readC d S files h s _ (hd.below hb0) hs2 (by omega)
  rw [hp, he] at hread
  have HR := Lib.hid hread
  clear hp he hl hoff hq hread
  go_enter Tryd.func40, Tryd.ntmps40
  go_wp2_with fail
  refine HR.out.mono ?_
  rintro e w1 ⟨A1, c1, rfl, hown1, hb1⟩
  have hcap := Own.cap hown1
  have hs1 := Sees.of_own hown1
  have b1 := hb0.trans (hb1.mono hb0.size)
  have g1 := g0.below hb1
  obtain ⟨n, hn⟩ : ∃ n, n = q.length := ⟨_, rfl⟩
  have hlen5 : n ≤ 500000000 := by omega
  rw [← hn] at hcap hs1 ⊢
  have SC := scan_all A1 n c1 q w1 (T.below b1) hs1 hcap.1 hcap.2 hlen5
  have hlt := g1.lt
  have SC2 := Lib.hid SC
  clear HR hown1 g0 hb1 hb0 hn hlen SC hcap hs1
  cases hg : scanG q with
  | inl E =>
    rw [hg] at SC2
    have HGS := Lib.hid hg
    clear hg
    go_wp2_with fail
    refine SC2.out.mono ?_
    rintro e w2 ⟨rfl, hb2⟩
    have b2 := b1.trans (hb2.mono b1.size)
    obtain ⟨⟨e0, e1, e2, e3, e4, e5⟩, fz⟩ := (g1.below hb2).cells
    have f0 := fz 0
    have f1 := fz 1
    have f2 := fz 2
    have f3 := fz 3
    have f4 := fz 4
    have f5 := fz 5
    unfold zeroSheet
    have HB2 := Lib.hid b2
    clear g1 fz hb2 b1 b2
    go_wp2
    refine bodyPost_ret (v := .tuple #[zeroSheet, .int .i64 (E : Int)]) (by simp [results, Tryd.results40, go_sem, e0, e1, e2, e3, e4, e5, zeroSheet]) rfl ?_
    rw [HGS.out]
    exact ⟨rfl, Below.beside HB2.out (beside_six w2 w.heap.size (.int .u8 0) (.int .u64 0) (.int .u64 0) (.slice none 0 0) (.int .i64 0) (.int .i64 0)) HB2.out.size (fun x hx => by simp at hx; omega)⟩
  | inr t =>
    obtain ⟨⟨k, a, b⟩, H⟩ := t
    rw [hg] at SC2
    have HGS := Lib.hid hg
    clear hg
    go_wp2_with fail
    refine SC2.out.mono ?_
    rintro e w2 ⟨Al, nl, cl, vs, rfl, hown2, heach2, hb2⟩
    have b2 := b1.trans (hb2.mono b1.size)
    obtain ⟨⟨e0, e1, e2, e3, e4, e5⟩, fz⟩ := (g1.below hb2).cells
    have f0 := fz 0
    have f1 := fz 1
    have f2 := fz 2
    have f3 := fz 3
    have f4 := fz 4
    have f5 := fz 5
    unfold sheetV
    obtain ⟨gd, hG⟩ : ∃ gd, gd = H + (allL (q.drop H) most).2.1 := ⟨_, rfl⟩
    obtain ⟨E, hE⟩ : ∃ E, E = (allL (q.drop H) most).2.2 := ⟨_, rfl⟩
    rw [← hG, ← hE]
    have HGE : Hid (gd = H + (allL (q.drop H) most).2.1 ∧ E = (allL (q.drop H) most).2.2) := ⟨hG, hE⟩
    have HO := Lib.hid hown2
    have HE := Lib.hid heach2
    have HB1 := Lib.hid b1.size
    have HB2 := Lib.hid b2
    clear hG hE g1 fz hown2 heach2 hb2 b1 b2
    go_wp2
    refine bodyPost_ret (v := .tuple #[sheetV k a b Al nl cl gd E, .int .i64 0]) (by simp [results, Tryd.results40, go_sem, e0, e1, e2, e3, e4, e5, sheetV]) rfl ?_
    have hbes := beside_six w2 w.heap.size (.int .u8 (k.toNat : Int)) (.int .u64 (a : Int)) (.int .u64 (b : Int)) (.slice Al nl cl) (.int .i64 (gd : Int)) (.int .i64 (E : Int))
    have hSm : ∀ x ∈ [w.heap.size], x < w1.heap.size := fun x hx => by simp at hx; omega
    obtain ⟨hG, hE⟩ := HGE.out
    subst hG
    subst hE
    rw [HGS.out]
    exact ⟨Al, nl, cl, vs, rfl, Own.lower (own_beside HO.out hbes hSm) HB1.out, each_lower (each_beside HE.out hbes hSm) HB1.out, Below.beside HB2.out hbes HB2.out.size (fun x hx => by simp at hx; omega)⟩

set_option maxRecDepth 100000 in
theorem read_off (d : Nat) (S : List Nat) (files : List File) (h : Hd) (s : List UInt8) (w : World) (hd : Disk w d S files h) (hs2 : s.length ≤ 100000) (ht : sumA files ≤ 500000000) (hoff : h.off = true) :
    Calls Tryd.prog 40 #[.pointer (some ⟨d, 0, none⟩), .string ⟨s.toArray⟩] w fun e w' => e = .returned (.tuple #[zeroSheet, .int .i64 7]) ∧ Below w.heap.size w w' := by
  have he : readE h s files = 7 := by simp [readE, hoff]
  have hb0 : Below w.heap.size w (w.alloc (.cells #[.int .u8 0, .int .u64 0, .int .u64 0, .slice none 0 0, .int .i64 0, .int .i64 0] 78)) := (Below.refl _ _).alloc (Nat.le_refl _) _
  have g0 := sheetAt_new w (.int .u8 0) (.int .u64 0) (.int .u64 0) (.slice none 0 0) (.int .i64 0) (.int .i64 0)
  have hread := readC d S files h s _ (hd.below hb0) hs2 (by omega)
  rw [he] at hread
  clear he hoff
  go_enter Tryd.func40, Tryd.ntmps40
  go_wp2_with fail
  refine hread.mono ?_
  rintro e w1 ⟨A1, c1, rfl, hown1, hb1⟩
  have b1 := hb0.trans (hb1.mono hb0.size)
  have g1 := g0.below hb1
  obtain ⟨⟨e0, e1, e2, e3, e4, e5⟩, fz⟩ := g1.cells
  have f0 := fz 0
  have f1 := fz 1
  have f2 := fz 2
  have f3 := fz 3
  have f4 := fz 4
  have f5 := fz 5
  have HB1 := Lib.hid b1
  clear hread hown1 g0 hb1 hb0 g1 fz b1
  go_wp2
  refine bodyPost_ret (v := .tuple #[zeroSheet, .int .i64 7]) (by simp [results, Tryd.results40, go_sem, e0, e1, e2, e3, e4, e5, zeroSheet]) rfl ?_
  have hbes := beside_six w1 w.heap.size (.int .u8 0) (.int .u64 0) (.int .u64 0) (.slice none 0 0) (.int .i64 0) (.int .i64 0)
  exact ⟨rfl, Below.beside HB1.out hbes HB1.out.size (fun x hx => by simp at hx; omega)⟩
end Go.Proofs.YtffhepdhkpldlaaDoor.Sht
