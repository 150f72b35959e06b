/- What the law's cut leaves; and an opened file with records that are not the next events. -/
import Derived.Test.YtfdnlgigllflfaaGreatDoorBSegLaw
namespace Go.Proofs.YtfdnlgigllflfaaGreatDoor.Seg
open Go Go.RowKit Go.Proofs.YtfdnlgigllflfaaGreatDoor.Words Go.Proofs.YtfdnlgigllflfaaGreatDoor.Enc Go.Proofs.YtfdnlgigllflfaaGreatDoor.Evt Go.Proofs.YtfdnlgigllflfaaGreatDoor.Made Go.Proofs.YtfdnlgigllflfaaGreatDoor.Dsk Go.Proofs.YtfdnlgigllflfaaGreatDoor.Sht
set_option linter.unusedVariables false
set_option linter.unusedSimpArgs false

theorem take_head (H L : List UInt8) (c : Nat) : (H ++ L).take (H.length + c) = H ++ L.take c := by
  rw [List.take_append, List.take_of_length_le (by omega), Nat.add_sub_cancel_left]
/-- The law's cut. -/
theorem cut_one (NM H L : List UInt8) (N acts c : Nat) (hc : c ≤ L.length) :
    cutE ⟨65536, acts, -1, 0, false⟩ NM ((H.length + c : Nat) : Int) [⟨NM, H ++ L, N⟩] = 0 ∧ thereF ⟨65536, acts, -1, 0, false⟩ NM (cutG ((H.length + c : Nat) : Int)) [⟨NM, H ++ L, N⟩] = [⟨NM, H ++ L.take c, H.length + c⟩] := by
  have hno : ¬ ((H.length + c : Nat) : Int) < 0 := by omega
  have hle : ¬ ((H ++ L).length : Int) < ((H.length + c : Nat) : Int) := by rw [List.length_append]; omega
  have hor : ¬ (((H.length + c : Nat) : Int) < 0 ∨ ((H ++ L).length : Int) < ((H.length + c : Nat) : Int)) := by
    rintro (h | h)
    · exact hno h
    · exact hle h
  have hm : (⟨65536, acts, -1, 0, false⟩ : Hd).may = true := by simp [Hd.may]
  have hl : lookA NM [⟨NM, H ++ L, N⟩] = some ⟨NM, H ++ L, N⟩ := by simp [lookA]
  constructor
  · unfold cutE
    rw [if_pos hm, hl]
    simp only
    rw [if_neg hor]
  · unfold thereF
    rw [if_pos hm]
    simp only [upd, List.map_cons, List.map_nil, if_true, cutG]
    rw [if_neg hor, Int.toNat_natCast, take_head]

/-- A file whose records behind its events are not the next ones is cut behind its events. -/
theorem openOff (d : Nat) (S : List Nat) (x u N acts : Nat) (L : List Ev) (B1 B2 : List UInt8) (w : World) (TT : TabsOn S w) (hd : Disk w d S [⟨nameL (x : Int) u, headL 115 x u ++ wraps (L.map evL ++ [B1, B2]), N⟩] ⟨65536, acts, -1, 0, false⟩) (hx : x < 64) (hu : u < 9223372036854775808) (hR : Runs (x : Int) u L) (hL : L.length ≤ 1000) (hac : acts < 100000)
    (h1 : B1.length ≤ 1000) (h2 : B2.length ≤ 1000) (hoff : prefE (x : Int) (u + L.length) [B1, B2] = []) :
    Calls Tryz.prog 11 #[.pointer (some ⟨d, 0, none⟩), .string ⟨(nameL (x : Int) u).toArray⟩] w (AddGives S d [⟨nameL (x : Int) u, headL 115 x u ++ wraps (L.map evL), (headL 115 x u).length + (wraps (L.map evL)).length⟩] ⟨65536, acts + 1, -1, 0, false⟩ x u L.length ((headL 115 x u).length + (wraps (L.map evL)).length) L w) := by
  have hhl := headL_len (k := 115) (a := x) (b := u) (by omega) (by omega)
  have htl := (titleL_len (k := 115) (a := x) (b := u) (by omega) (by omega)).2
  have hlen : (headL 115 x u).length ≤ 50 := by omega
  have hws := runs_wraps hR
  have hmem : ∀ l ∈ L.map evL ++ [B1, B2], l.length ≤ 1000 := by
    intro l hl
    rcases List.mem_append.1 hl with h | h
    · have := runs_text hR l h; omega
    · simp at h
      rcases h with rfl | rfl <;> assumption
  have hall : allL (wraps (L.map evL ++ [B1, B2])) most = (L.map evL ++ [B1, B2], (wraps (L.map evL ++ [B1, B2])).length, 0) := by
    have := allL_wraps most (L.map evL ++ [B1, B2]) [] (fun l hl => by have := hmem l hl; unfold most; omega)
    rw [List.append_nil, allL_nil] at this
    simpa using this
  have hp := prefE_runs (x := (x : Int)) [B1, B2] hR
  rw [hoff, List.append_nil] at hp
  have hwe : wraps (L.map evL ++ [B1, B2]) = wraps (L.map evL) ++ wraps [B1, B2] := wraps_append _ _
  have hw2 : (wraps [B1, B2]).length ≤ 2100 := by
    have e1 := enc_two (n := B1.length) (by omega)
    have e2 := enc_two (n := B2.length) (by omega)
    have l1 := wrap_length B1
    have l2 := wrap_length B2
    simp [wraps]
    omega
  have hwl : (wraps (L.map evL ++ [B1, B2])).length ≤ 200000 := by rw [hwe, List.length_append]; omega
  have hce := cut_one (nameL (x : Int) u) (headL 115 x u) (wraps (L.map evL ++ [B1, B2])) N acts (wraps (L.map evL)).length (by rw [hwe, List.length_append]; omega)
  have htk : (wraps (L.map evL ++ [B1, B2])).take (wraps (L.map evL)).length = wraps (L.map evL) := by rw [hwe, List.take_left]
  have hLt : (L.map evL ++ [B1, B2]).take L.length = L.map evL := List.take_left' (by simp)
  rw [htk] at hce
  have hsum : sumA [⟨nameL (x : Int) u, headL 115 x u ++ wraps (L.map evL ++ [B1, B2]), N⟩] ≤ 500000000 := by simp only [sumA, List.length_append]; omega
  have h := openS_cut d S [⟨nameL (x : Int) u, headL 115 x u ++ wraps (L.map evL ++ [B1, B2]), N⟩] ⟨65536, acts, -1, 0, false⟩ x u ⟨nameL (x : Int) u, headL 115 x u ++ wraps (L.map evL ++ [B1, B2]), N⟩ (wraps (L.map evL ++ [B1, B2])) w TT hd hx hu hsum (hd_ok (by omega)) (by simp [Hd.may]) (by simp [lookA]) rfl
    (by rw [hall]; simp; omega) (by rw [hall]; show (wraps (L.map evL ++ [B1, B2])).length ≤ _; omega) (by rw [hall]; intro l hl; have := hmem l hl; omega) (by rw [hall]; show (prefE (x : Int) u (L.map evL ++ [B1, B2])).length < (L.map evL ++ [B1, B2]).length; rw [hp]; simp)
    (by simp only [mendF, mendH, hall, if_true, hp, hLt]; exact hce.1) (by simp only [mendH, hall, if_true]; exact hd_ok (by omega)) (by simp only [mendF, hall, if_true]; omega)
  rw [hall] at h
  simp only [hp, mendF, mendH, hall, if_true, hLt, hce.2, act_un] at h
  exact h
end Go.Proofs.YtfdnlgigllflfaaGreatDoor.Seg
