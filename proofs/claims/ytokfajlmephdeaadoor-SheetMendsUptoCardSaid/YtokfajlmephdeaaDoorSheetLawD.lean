/- More calls of the laws of layer 5: Begin, Add, Read, held against the world in which the law began; two titles that are one. -/
import Derived.Test.YtokfajlmephdeaaDoorSheetLawC
import Derived.Laws.StructEq
namespace Go.Proofs.YtokfajlmephdeaaDoor.Sht
open Go Go.RowKit Go.Proofs.YtokfajlmephdeaaDoor.Words Go.Proofs.YtokfajlmephdeaaDoor.Enc Go.Proofs.YtokfajlmephdeaaDoor.Made Go.Proofs.YtokfajlmephdeaaDoor.Dsk
set_option linter.unusedVariables false

theorem beginL (w0 w : World) (d : Nat) (k : UInt8) (a b : Nat) (T : Chk.Tabs w0) (ha : a < 18446744073709551616) (hb : b < 18446744073709551616) (hd : Since w0 d [] ⟨65536, 0, -1, 0, false⟩ w) :
    Calls Tryd.prog 12 #[.pointer (some ⟨d, 0, none⟩), .string ⟨#[102]⟩, titleV k a b] w fun e w' => e = .returned (.int .i64 0) ∧ Since w0 d [⟨fN, headL k a b, (headL k a b).length⟩] ⟨65536, 2, -1, 0, false⟩ w' := by
  obtain ⟨S, hd, bel, hS⟩ := hd
  have hhl := headL_len (k := k) ha hb
  have htl := (titleL_len (k := k) ha hb).2
  have hlen : (headL k a b).length ≤ 50 := by omega
  have ha1 : appE ⟨65536, 0, -1, 0, false⟩ fN (headL k a b) [] = 0 := by simp [appE, may_un, sumA]; omega
  have hf1 : appF ⟨65536, 0, -1, 0, false⟩ fN (headL k a b) [] = [⟨fN, headL k a b, 0⟩] := by simp [appF, sumA, put]; omega
  have hr : beginR ⟨65536, 0, -1, 0, false⟩ fN (headL k a b) [] = (0, [⟨fN, headL k a b, (headL k a b).length⟩], ⟨65536, 2, -1, 0, false⟩) := by
    have he : readE ⟨65536, 0, -1, 0, false⟩ fN [] = 2 := by simp [readE, lookA]
    unfold beginR
    rw [he, if_neg (by decide)]
    unfold createR
    rw [ha1, if_pos rfl, hf1, act_un (by decide), act_un (by decide)]
    simp [thereE, thereF, may_un, lookA, upd, syncG]
  have := begin_any d S [] ⟨65536, 0, -1, 0, false⟩ fN k a b w (T.below bel) ha hb hd (hd_fits5 (by simp) (by simp) (by simp) (by simp) (by simp) (by simp) (by simp)) (by simp) ok_f5 (by simp [sumA]) (by rw [hf1]; simp only [sumA]; omega) (by simp)
  rw [hr] at this
  refine this.mono ?_
  rintro e w' ⟨rfl, hn⟩
  exact ⟨rfl, since_next bel hS hn⟩
theorem beginL2 (w0 w : World) (d : Nat) (k : UInt8) (a b : Nat) (p : List UInt8) (N : Nat) (acts : Nat) (T : Chk.Tabs w0) (ha : a < 18446744073709551616) (hb : b < 18446744073709551616) (hp : p.length ≤ 100000) (hac : acts < 100000) (hd : Since w0 d [⟨fN, p, N⟩] ⟨65536, acts, -1, 0, false⟩ w) :
    Calls Tryd.prog 12 #[.pointer (some ⟨d, 0, none⟩), .string ⟨#[102]⟩, titleV k a b] w fun e w' => e = .returned (.int .i64 10) ∧ Since w0 d [⟨fN, p, N⟩] ⟨65536, acts, -1, 0, false⟩ w' := by
  obtain ⟨S, hd, bel, hS⟩ := hd
  have hhl := headL_len (k := k) ha hb
  have htl := (titleL_len (k := k) ha hb).2
  have hlen : (headL k a b).length ≤ 50 := by omega
  have hr : beginR ⟨65536, acts, -1, 0, false⟩ fN (headL k a b) [⟨fN, p, N⟩] = (10, [⟨fN, p, N⟩], ⟨65536, acts, -1, 0, false⟩) := by
    have he : readE ⟨65536, acts, -1, 0, false⟩ fN [⟨fN, p, N⟩] = 0 := by simp [readE, lookA]
    unfold beginR
    rw [he, if_pos rfl]
  have hsz : sumA (appF ⟨65536, acts, -1, 0, false⟩ fN (headL k a b) [⟨fN, p, N⟩]) ≤ 1000000000000 := by
    unfold appF
    simp only [sumA, put]
    repeat' split
    all_goals simp [sumA, tornF, put]
    all_goals omega
  have := begin_any d S [⟨fN, p, N⟩] ⟨65536, acts, -1, 0, false⟩ fN k a b w (T.below bel) ha hb hd (hd_fits5 (by simp) (by simp) (by show acts ≤ _; omega) (by simp) (by simp) (by simp) (by simp)) (by show acts < _; omega) ok_f5 (by simp only [sumA]; omega) hsz (by simp)
  rw [hr] at this
  refine this.mono ?_
  rintro e w' ⟨rfl, hn⟩
  exact ⟨rfl, since_next bel hS hn⟩
theorem addL (w0 w : World) (d : Nat) (p : List UInt8) (N acts : Nat) (A : Option Addr) (n c : Nat) (l : List UInt8) (T : Chk.Tabs w0) (hd : Since w0 d [⟨fN, p, N⟩] ⟨65536, acts, -1, 0, false⟩ w) (hac : acts < 100000) (hn : n ≤ 2000) (hnc : n ≤ c) (hs : Sees w A n l) (hfit : p.length + (wrap l).length ≤ 65536) :
    Calls Tryd.prog 13 #[.pointer (some ⟨d, 0, none⟩), .string ⟨#[102]⟩, .slice A n c] w fun e w' => e = .returned (.int .i64 0) ∧ Since w0 d [⟨fN, p ++ wrap l, N⟩] ⟨65536, acts + 1, -1, 0, false⟩ w' := by
  obtain ⟨S, hd, bel, hS⟩ := hd
  have hfi : (p.length : Int) + (wrap l).length ≤ 65536 := by omega
  have hr : appE ⟨65536, acts, -1, 0, false⟩ fN (wrap l) [⟨fN, p, N⟩] = 0 := by simp [appE, may_un, sumA, hfi]
  have hf : appF ⟨65536, acts, -1, 0, false⟩ fN (wrap l) [⟨fN, p, N⟩] = [⟨fN, p ++ wrap l, N⟩] := by simp [appF, sumA, put, hfi]
  have := add_any d S [⟨fN, p, N⟩] ⟨65536, acts, -1, 0, false⟩ fN A n c l w (T.below bel) hd (hd_fits5 (by simp) (by simp) (by show acts ≤ _; omega) (by simp) (by simp) (by simp) (by simp)) (by show acts < _; omega) ok_f5 (by simp only [sumA]; omega) (by simp) (by omega) hnc hs
  rw [hr, hf, act_un (by decide)] at this
  refine this.mono ?_
  rintro e w' ⟨rfl, hn⟩
  exact ⟨rfl, since_next bel hS hn⟩
theorem sheetL (w0 w : World) (d : Nat) (k : UInt8) (a b : Nat) (L : List (List UInt8)) (N acts : Nat) (T : Chk.Tabs w0) (ha : a < 18446744073709551616) (hb : b < 18446744073709551616) (hd : Since w0 d [⟨fN, wholeL k a b L, N⟩] ⟨65536, acts, -1, 0, false⟩ w) (hL : lens L ≤ 2000) :
    Calls Tryd.prog 11 #[.pointer (some ⟨d, 0, none⟩), .string ⟨#[102]⟩] w fun e w' => ∃ Al nl cl, e = .returned (.tuple #[sheetV k a b Al nl cl (wholeL k a b L).length 0, .int .i64 0]) ∧ SeesAll w' Al nl L ∧ nl ≤ 2000 ∧ Below w.heap.size w w' := by
  obtain ⟨S, hd, bel, hS⟩ := hd
  have hhl := headL_len (k := k) ha hb
  have htl := (titleL_len (k := k) ha hb).2
  have hwa := wraps_short hL
  have hla : (wholeL k a b L).length ≤ 2100 := by unfold wholeL; rw [List.length_append]; omega
  have hall := allL_wraps most L [] (fun l hl => by have := short_each hL l hl; unfold most; omega)
  rw [List.append_nil] at hall
  have h0 : allL [] most = ([], 0, 0) := by decide +kernel
  rw [h0] at hall
  have hg : goodN k a b (wraps L) = (wholeL k a b L).length := by unfold goodN wholeL; rw [hall, List.length_append]; simp
  have := read_ok d S [⟨fN, wholeL k a b L, N⟩] ⟨65536, acts, -1, 0, false⟩ fN ⟨fN, wholeL k a b L, N⟩ k a b (wraps L) w (T.below bel) ha hb hd (by simp) (by simp only [sumA]; omega) rfl (by simp [lookA]) rfl
  rw [hg, hall] at this
  refine this.mono ?_
  rintro e w' ⟨Al, nl, cl, vs, rfl, hown, heach, hb'⟩
  have hs := SeesAll.of_own hown heach.each
  simp only [List.append_nil] at hs
  have hln := hs.len
  have := lens_len L
  exact ⟨Al, nl, cl, rfl, hs, by omega, hb'⟩
theorem noSheetL (w0 w : World) (d : Nat) (hd : Since w0 d [] ⟨65536, 0, -1, 0, false⟩ w) :
    Calls Tryd.prog 11 #[.pointer (some ⟨d, 0, none⟩), .string ⟨#[102]⟩] w fun e w' => e = .returned (.tuple #[zeroSheet, .int .i64 2]) ∧ Since w0 d [] ⟨65536, 0, -1, 0, false⟩ w' := by
  have hd' := hd
  obtain ⟨S, hd, bel, hS⟩ := hd
  refine (read_none d S [] _ fN w hd (by simp) (by simp [sumA]) rfl (by simp [lookA])).mono ?_
  rintro e w' ⟨rfl, hb⟩
  exact ⟨rfl, hd'.after hb⟩
theorem tFields : Tryd.prog.underlying 24 = some (.struct (Tryd.prog.fieldsOf 24)) := by kernel_rfl
theorem tHeld : Tryd.prog.stoodInHeld 24 = false := by kernel_rfl
theorem title_same (k : UInt8) (a b : Nat) (W : World) :
    (binOp .eql 24 (.agg #[.int .u8 (k.toNat : Int), .int .u64 (a : Int), .int .u64 (b : Int)]) (.agg #[.int .u8 (k.toNat : Int), .int .u64 (a : Int), .int .u64 (b : Int)])).run Tryd.prog W = .ok (.bool true) W := by
  rw [run_eql_struct, run_equalIn_agg _ _ _ _ _ tFields tHeld]
  simp only [Program.fieldsOf, Tryd.underlying24]
  simp [go_sem]
end Go.Proofs.YtokfajlmephdeaaDoor.Sht
