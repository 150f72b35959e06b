/- The law ManifestErrs: what is too long; more calls held against an elder world. -/
import Derived.Test.YtffhepdhkpldlaaDoorManSwapsM
namespace Go.Proofs.YtffhepdhkpldlaaDoor.Man
open Go Go.RowKit Go.Proofs.YtffhepdhkpldlaaDoor.Words Go.Proofs.YtffhepdhkpldlaaDoor.Enc Go.Proofs.YtffhepdhkpldlaaDoor.Made Go.Proofs.YtffhepdhkpldlaaDoor.Tape Go.Proofs.YtffhepdhkpldlaaDoor.Vec Go.Proofs.YtffhepdhkpldlaaDoor.Dsk
set_option linter.unusedVariables false
set_option linter.unusedSimpArgs false
open Go.Proofs.YtffhepdhkpldlaaDoor.Sht (Since since_next newL armL)

set_option maxRecDepth 100000 in
set_option maxHeartbeats 4000000 in
theorem errs_short (a : Mn) (A P : Option Addr) (n c pn pc : Nat) (kt at_' bt : Int) (w : World) (T : Chk.Tabs w) (ha : Arg w a A n c) (hp : pn ≤ 9223372036854775807) (h : 64 < n ∨ 60 < a.fold.size ∨ 300 < pn) :
    Calls Tryd.prog 5 #[a.val A n c, .slice P pn pc, .agg #[.int .u8 kt, .int .u64 at_', .int .u64 bt]] w fun e w' => e = .returned (.bool true) ∧ Below w.heap.size w w' := by
  obtain ⟨nd, sr, v, tm, fd⟩ := a
  have hn9 : n ≤ 9223372036854775807 := by have := ha.h; have := ha.k; omega
  have hf1 : fd.size ≤ 9223372036854775807 := ha.fd
  unfold Mn.val Mn.row
  simp only [] at h ⊢
  have b0 := ((Below.refl w.heap.size w).alloc (Nat.le_refl _) (.cells #[.int .i64 nd, .int .u64 (sr : Int), .slice A n c, .int .u64 (tm : Int), .string fd] 26)).alloc (by simp) (.cells #[.int .u8 kt, .int .u64 at_', .int .u64 bt] 50)
  have g0 : ((w.alloc (.cells #[.int .i64 nd, .int .u64 (sr : Int), .slice A n c, .int .u64 (tm : Int), .string fd] 26)).alloc (.cells #[.int .u8 kt, .int .u64 at_', .int .u64 bt] 50)).heap[w.heap.size]? = some (.cells #[.int .i64 nd, .int .u64 (sr : Int), .slice A n c, .int .u64 (tm : Int), .string fd] 26 (0, 0)) := by
    rw [Below.heap_alloc _ _ _ (by simp)]
    exact heap_alloc_new w _
  clear ha
  go_enter Tryd.func5, Tryd.ntmps5
  go_wp2_with fail
  generalize (w.alloc (.cells #[.int .i64 nd, .int .u64 (sr : Int), .slice A n c, .int .u64 (tm : Int), .string fd] 26)).alloc (.cells #[.int .u8 kt, .int .u64 at_', .int .u64 bt] 50) = w1 at b0 g0 ⊢
  refine (awakeM w1 (T.below b0)).mono ?_
  rintro e w2 ⟨rfl, hb2⟩
  have b2 := b0.trans (hb2.mono b0.size)
  have k0 := (hb2.block w.heap.size (Array.getElem?_eq_some_iff.1 g0).1).trans g0
  obtain ⟨p0, p1, p2, p3, p4⟩ := box5 k0
  have AW := Lib.hid (awakeM w2 (T.below b2))
  have B2 := Lib.hid b2
  clear hb2 g0 k0 b0 b2
  by_cases h1 : 64 < n
  · go_wp2_with fail
    refine AW.out.mono ?_
    rintro e w3 ⟨rfl, hb3⟩
    have B3 := Lib.hid (B2.out.trans (hb3.mono B2.out.size))
    clear hb3
    go_wp2
    go_ret
    exact ⟨rfl, B3.out⟩
  by_cases h3 : 60 < fd.size
  · go_wp2_with fail
    refine AW.out.mono ?_
    rintro e w3 ⟨rfl, hb3⟩
    have B3 := Lib.hid (B2.out.trans (hb3.mono B2.out.size))
    clear hb3
    go_wp2
    go_ret
    exact ⟨rfl, B3.out⟩
  · have h4 : 300 < pn := by omega
    go_wp2_with fail
    refine AW.out.mono ?_
    rintro e w3 ⟨rfl, hb3⟩
    have B3 := Lib.hid (B2.out.trans (hb3.mono B2.out.size))
    clear hb3
    go_wp2
    go_ret
    exact ⟨rfl, B3.out⟩

/-- The first bytes of the file, appended. -/
theorem mappendL (w0 w : World) (d : Nat) (A : Option Addr) (n c : Nat) (q : List UInt8) (hd : Since w0 d [] ⟨65536, 0, -1, 0, false⟩ w) (hs : Sees w0 A n q) (hn : n ≤ 60000) (hnc : n ≤ c) (hcc : c ≤ 9223372036854775807) :
    Calls Tryd.prog 21 #[.pointer (some ⟨d, 0, none⟩), .string ⟨mN.toArray⟩, .slice A n c] w fun e w' => e = .returned (.int .i64 0) ∧ Since w0 d [⟨mN, q, 0⟩] ⟨65536, 1, -1, 0, false⟩ w' := by
  obtain ⟨S, hd, bel, hS⟩ := hd
  have hql := hs.1
  have hfi : (q.length : Int) ≤ 65536 := by omega
  have hr : appE ⟨65536, 0, -1, 0, false⟩ mN q [] = 0 := by simp [appE, Sht.may_un, sumA, hfi]
  have hf : appF ⟨65536, 0, -1, 0, false⟩ mN q [] = [⟨mN, q, 0⟩] := by simp [appF, sumA, put, hfi]
  have := appendC d S [] ⟨65536, 0, -1, 0, false⟩ mN A n c q w hd (Sht.hd_fits5 (by simp) (by simp) (by simp) (by simp) (by simp) (by simp) (by simp)) (by simp) ok_mN (by simp [sumA]) (by simp) (by omega) hnc hcc (hs.below bel) (Out.of_lt hs (Nat.le_refl _) hS)
  rw [hr, hf, Sht.act_un (by decide)] at this
  refine this.mono ?_
  rintro e w' ⟨rfl, hn⟩
  exact ⟨rfl, since_next bel hS hn⟩
theorem msyncL (w0 w : World) (d : Nat) (files : List File) (h : Hd) (hd : Since w0 d files h w) (hf : h.fits) (ht : sumA files ≤ 1000000000000) :
    Calls Tryd.prog 23 #[.pointer (some ⟨d, 0, none⟩), .string ⟨mN.toArray⟩] w fun e w' => e = .returned (.int .i64 (thereE h mN files)) ∧ Since w0 d (thereF h mN syncG files) h.act w' := by
  obtain ⟨S, hd, bel, hS⟩ := hd
  refine (syncC d S files h mN w hd hf (by simp) ht).mono ?_
  rintro e w' ⟨rfl, hn⟩
  exact ⟨rfl, since_next bel hS hn⟩
/-- Swap of one record that was made behind the disk. -/
theorem mswapL (w0 V W : World) (d base : Nat) (files files' : List File) (h h' : Hd) (E : Int) (k : UInt8) (a b : Nat) (R : Option Addr) (N rc : Nat) (l : List UInt8) (T : Chk.Tabs w0) (hd : Since w0 d files h V) (hb : Below V.heap.size V W) (hbase : V.heap.size ≤ base) (own : W.ownsRow base 5 1 (.slice R N rc) N (cs l)) (hf : h.fits) (hac : h.acts < 1000)
    (ha : a < 18446744073709551616) (hbb : b < 18446744073709551616) (hl : l.length ≤ 2000) (hsm : sumA files ≤ 100000) (hfl : files.length ≤ 10) (hr : Sht.swapR h mN mT (Sht.wholeL k a b [l]) files = (E, files', h')) :
    Calls Tryd.prog 22 #[.pointer (some ⟨d, 0, none⟩), .string ⟨mN.toArray⟩, Sht.titleV k a b, .slice (some ⟨W.heap.size, 0, none⟩) 1 1] (W.alloc (.cells #[.slice R N rc] 27)) fun e w' => e = .returned (.int .i64 E) ∧ Since w0 d files' h' w' ∧ ∀ g, V.heap.size ≤ g → g < W.heap.size → w'.heap[g]? = W.heap[g]? := by
  obtain ⟨S, hd, bel, hS⟩ := hd
  have hSl := hd.lt
  have al := (Below.refl W.heap.size W).alloc (Nat.le_refl _) (.cells #[.slice R N rc] 27)
  have hb2 := hb.trans (al.mono hb.size)
  have bel2 := bel.trans (hb2.mono bel.size)
  have hN : N = l.length := by have := own.1; rw [cs_length] at this; omega
  subst hN
  have hcap := Own.cap own
  have see := sees_one W (Sees.of_own own) rfl hcap.1
  have hhl := Sht.headL_len (k := k) (a := a) (b := b) ha hbb
  have htl := (Sht.titleL_len (k := k) (a := a) (b := b) ha hbb).2
  have he := enc_ten (n := l.length) (by omega)
  have hw : (Sht.wraps [l]).length ≤ 2020 := by
    simp only [Sht.wraps, List.map_cons, List.map_nil, List.flatten_cons, List.flatten_nil, List.append_nil, wrap_length]
    omega
  have hwh : (Sht.wholeL k a b [l]).length ≤ 2100 := by unfold Sht.wholeL; rw [List.length_append]; omega
  obtain ⟨s1, s2, s3⟩ := Sht.swap_smallN (t := mT) (h := h) (files := files) (q := Sht.wholeL k a b [l]) (B := 200000) (by omega)
  obtain ⟨f1, f2⟩ := Sht.swap_fewN (t := mT) (h := h) (files := files) (q := Sht.wholeL k a b [l])
  have := Sht.swap_any d S files h mN k a b (some ⟨W.heap.size, 0, none⟩) 1 1 [l] (W.alloc (.cells #[.slice R l.length rc] 27)) (fun V' hV => T.below (Below.beside bel2 hV bel2.size hS)) ha hbb (hd.below hb2) hf (by omega) ok_mN ok_mT (by omega) (by omega)
    see (by omega) (by simp; omega) (by omega)
    (fun V' hV => by
      have own2 := Own.beside (Own.below own al (Nat.le_refl _)) hV (fun x hx => by have := hSl x hx; omega)
      refine ⟨[.slice R l.length rc], (Each.nil _).snoc hcap.1 (Sees.of_own own2), rfl, fun _ => ⟨W.heap.size, 0, rfl, fun j v hv => ?_⟩⟩
      have g := (hV.block W.heap.size (by simp) (fun hm => by have := hSl _ hm; have := hb.size; omega)).trans (heap_alloc_new W (.cells #[.slice R l.length rc] 27))
      rw [cell_of_row V' W.heap.size (0 + j) _ 27 (0, 0) g, Nat.zero_add]
      simpa using hv)
    (by rw [mT_is]; omega) (by rw [mT_is]; omega) (by rw [mT_is]; exact Nat.le_trans s2 (by omega)) (by rw [mT_is]; exact Nat.le_trans s3 (by omega)) (by rw [mT_is]; exact Nat.lt_of_le_of_lt f2 (by omega))
  rw [mT_is, hr] at this
  refine this.mono ?_
  rintro e w' ⟨rfl, hn⟩
  refine ⟨rfl, since_next bel2 hS hn, fun g h1 h2 => ?_⟩
  obtain ⟨_, _, hbs, _⟩ := hn
  rw [hbs.block g (by simp; omega) (fun hm => by have := hSl _ hm; omega)]
  exact Below.heap_alloc _ _ _ (by omega)
end Go.Proofs.YtffhepdhkpldlaaDoor.Man
