/- What the laws of layer 8 ask. -/
import Derived.Test.YtfdnlgigllflfaaGreatDoorBSegMake
import Derived.Test.YtfdnlgigllflfaaGreatDoorBEvent
import Derived.Deep.RegionWith
import Derived.Test.YtfdnlgigllflfaaGreatDoorBSegOpen
import Derived.Deep.SlicePairs
import Derived.ChangeArms
import Derived.Test.YtfdnlgigllflfaaGreatDoorBSameAll
import Derived.Test.YtfdnlgigllflfaaGreatDoorBSegRuns

/- What the laws of layer 8 ask of the program: a filled file is opened again; and a torn one. -/
namespace Go.Proofs.YtfdnlgigllflfaaGreatDoor.Seg
open Go Go.RowKit Go.Proofs.YtfdnlgigllflfaaGreatDoor.Words Go.Proofs.YtfdnlgigllflfaaGreatDoor.Enc Go.Proofs.YtfdnlgigllflfaaGreatDoor.Evt Go.Proofs.YtfdnlgigllflfaaGreatDoor.Made Go.Proofs.YtfdnlgigllflfaaGreatDoor.Dsk Go.Proofs.YtfdnlgigllflfaaGreatDoor.Sht
set_option linter.unusedVariables false
set_option linter.unusedSimpArgs false

theorem SeesP.beside {S : List Nat} {w w' : World} {A : Option Addr} {n : Nat} {l : List (Nat × Nat)} (h : SeesP w A n l) (hb : Beside S w w') (hS : ∀ k ∈ S, w.heap.size ≤ k) : SeesP w' A n l := by
  refine ⟨h.1, h.2.1, fun hn => ?_⟩
  obtain ⟨b, o, hA, hc⟩ := h.2.2 hn
  refine ⟨b, o, hA, fun j a ha => ?_⟩
  obtain ⟨h1, h2⟩ := hc j a ha
  have hlt := World.block_lt_of_cell? _ _ h1
  exact ⟨hb.cell h1 fun hm => by have := hS _ hm; simp at this hlt; omega, hb.cell h2 fun hm => by have := hS _ hm; simp at this hlt; omega⟩
theorem SeesP.below {w w' : World} {A : Option Addr} {n : Nat} {l : List (Nat × Nat)} (h : SeesP w A n l) (hb : Below w.heap.size w w') : SeesP w' A n l := h.beside (Beside.of_below hb []) fun k hk => by cases hk

theorem evsF_runs {x u : Nat} (hx : x < 64) (hu0 : 0 < u) : ∀ (l : List (Nat × Nat)) (t : Nat), u + t + l.length < 9223372036854775808 → t + l.length ≤ 100000 → Runs (x : Int) (u + t) (evsF (x : Int) u t l)
  | [], t, _, _ => trivial
  | a :: r, t, h1, h2 => by
    simp only [List.length_cons] at h1 h2
    refine ⟨⟨rfl, rfl, putE_right hx (by omega) (by omega) (by omega) (by omega), by simp [putE], putE_plain, putE_text⟩, ?_⟩
    have := evsF_runs hx hu0 r (t + 1) (by omega) (by omega)
    rw [show u + t + 1 = u + (t + 1) by omega]
    exact this
/-- A file of such events is opened whole. -/
theorem openL (d : Nat) (S : List Nat) (x u N acts : Nat) (L : List Ev) (w : World) (TT : TabsOn S w) (hd : Disk w d S [⟨nameL (x : Int) u, headL 115 x u ++ wraps (L.map evL), N⟩] ⟨65536, acts, -1, 0, false⟩) (hx : x < 64) (hu : u < 9223372036854775808) (hR : Runs (x : Int) u L) (hL : L.length ≤ 1000) (hac : acts ≤ 100000) :
    Calls Tryz.prog 11 #[.pointer (some ⟨d, 0, none⟩), .string ⟨(nameL (x : Int) u).toArray⟩] w (AddGives S d [⟨nameL (x : Int) u, headL 115 x u ++ wraps (L.map evL), N⟩] ⟨65536, acts, -1, 0, false⟩ x u L.length ((headL 115 x u).length + (wraps (L.map evL)).length) L w) := by
  have hhl := headL_len (k := 115) (a := x) (b := u) (by omega) (by omega)
  have htl := (titleL_len (k := 115) (a := x) (b := u) (by omega) (by omega)).2
  have hlen : (headL 115 x u).length ≤ 50 := by omega
  have hws := runs_wraps hR
  have hall : allL (wraps (L.map evL)) most = (L.map evL, (wraps (L.map evL)).length, 0) := by
    have := allL_wraps most (L.map evL) [] (fun l hl => by have := runs_text hR l hl; unfold most; omega)
    rw [List.append_nil, allL_nil] at this
    simpa using this
  have hp := prefE_runs (x := (x : Int)) [] hR
  rw [List.append_nil] at hp
  have hp' : prefE (x : Int) u (L.map evL) = L := by rw [hp]; simp [prefE]
  have h := openS_all d S [⟨nameL (x : Int) u, headL 115 x u ++ wraps (L.map evL), N⟩] ⟨65536, acts, -1, 0, false⟩ x u ⟨nameL (x : Int) u, headL 115 x u ++ wraps (L.map evL), N⟩ (wraps (L.map evL)) w TT hd hx hu (by simp only [sumA, List.length_append]; omega) (hd_ok hac) (by simp [Hd.may]) (by simp [lookA]) rfl (by rw [hall]; simp; omega) (by rw [hall]; show (wraps (L.map evL)).length ≤ _; omega) (by rw [hall]; intro l hl; have := runs_text hR l hl; omega) (by rw [hall, hp']; simp)
  rw [hall] at h
  simp only [hp', mendF, mendH, hall, if_true] at h
  rw [List.take_of_length_le (by simp)] at h
  exact h
end Go.Proofs.YtfdnlgigllflfaaGreatDoor.Seg

/- A torn file is opened: its first events. -/
namespace Go.Proofs.YtfdnlgigllflfaaGreatDoor.Seg
open Go Go.RowKit Go.Proofs.YtfdnlgigllflfaaGreatDoor.Words Go.Proofs.YtfdnlgigllflfaaGreatDoor.Enc Go.Proofs.YtfdnlgigllflfaaGreatDoor.Evt Go.Proofs.YtfdnlgigllflfaaGreatDoor.Made Go.Proofs.YtfdnlgigllflfaaGreatDoor.Dsk Go.Proofs.YtfdnlgigllflfaaGreatDoor.Sht
set_option linter.unusedVariables false
set_option linter.unusedSimpArgs false

theorem openTorn (d : Nat) (S : List Nat) (x u N acts c : Nat) (L : List Ev) (w : World) (TT : TabsOn S w) (hd : Disk w d S [⟨nameL (x : Int) u, headL 115 x u ++ (wraps (L.map evL)).take c, N⟩] ⟨65536, acts, -1, 0, false⟩) (hx : x < 64) (hu : u < 9223372036854775808) (hR : Runs (x : Int) u L) (hL : L.length ≤ 1000) (hac : acts < 100000) (hc : c ≤ (wraps (L.map evL)).length) :
    ∃ j N2 acts2, j ≤ L.length ∧ acts2 ≤ acts + 1 ∧ (wraps ((L.take j).map evL)).length ≤ c ∧
    Calls Tryz.prog 11 #[.pointer (some ⟨d, 0, none⟩), .string ⟨(nameL (x : Int) u).toArray⟩] w (AddGives S d [⟨nameL (x : Int) u, headL 115 x u ++ wraps ((L.take j).map evL), N2⟩] ⟨65536, acts2, -1, 0, false⟩ x u j ((headL 115 x u).length + (wraps ((L.take j).map evL)).length) (L.take j) w) := by
  have hhl := headL_len (k := 115) (a := x) (b := u) (by omega) (by omega)
  have htl := (titleL_len (k := 115) (a := x) (b := u) (by omega) (by omega)).2
  have hlen : (headL 115 x u).length ≤ 50 := by omega
  have hws := runs_wraps hR
  obtain ⟨j, E, hj, hall, hjc, _, hE0⟩ := allL_torn most (L.map evL) c (fun l hl => by have := runs_text hR l hl; unfold most; omega) hc
  rw [← List.map_take] at hall hjc hE0
  rw [List.length_map] at hj
  have hRj := runs_take j hR
  have hp := prefE_runs (x := (x : Int)) [] hRj
  rw [List.append_nil] at hp
  have hp' : prefE (x : Int) u ((L.take j).map evL) = L.take j := by rw [hp]; simp [prefE]
  have hlj : (L.take j).length = j := by rw [List.length_take]; omega
  have htk : ((wraps (L.map evL)).take c).length = c := by rw [List.length_take]; omega
  have hwj := runs_wraps hRj
  have h := openS_all d S [⟨nameL (x : Int) u, headL 115 x u ++ (wraps (L.map evL)).take c, N⟩] ⟨65536, acts, -1, 0, false⟩ x u ⟨nameL (x : Int) u, headL 115 x u ++ (wraps (L.map evL)).take c, N⟩ ((wraps (L.map evL)).take c) w TT hd hx hu (by simp only [sumA, List.length_append]; omega) (hd_ok (by omega)) (by simp [Hd.may]) (by simp [lookA]) rfl (by rw [hall]; simp; omega) (by rw [hall]; show (wraps ((L.take j).map evL)).length ≤ _; omega) (by rw [hall]; intro l hl; have := runs_text hRj l hl; omega) (by rw [hall, hp']; simp)
  have hwt : (wraps ((L.take j).map evL)) = (wraps (L.map evL)).take (wraps ((L.take j).map evL)).length := by
    have e : wraps (L.map evL) = wraps ((L.take j).map evL) ++ wraps ((L.drop j).map evL) := by rw [← wraps_append, ← List.map_append, List.take_append_drop]
    rw [e, List.take_left]
  rw [hall] at h
  simp only [hp', mendF, mendH, hall] at h
  have hfull : ((L.take j).map evL).take j = (L.take j).map evL := List.take_of_length_le (by rw [List.length_map, hlj]; exact Nat.le_refl _)
  rw [hlj, hfull] at h
  by_cases hE : E = 0
  · rw [if_pos hE, if_pos hE] at h
    have hcc := hE0 hE
    refine ⟨j, N, acts, hj, by omega, hjc, ?_⟩
    have : (wraps (L.map evL)).take c = wraps ((L.take j).map evL) := by rw [hwt, ← hcc]
    rw [this] at h
    exact h
  · rw [if_neg hE, if_neg hE, act_un (by decide)] at h
    have hg : goodN 115 x u ((wraps (L.map evL)).take c) = (headL 115 x u).length + (wraps ((L.take j).map evL)).length := by unfold goodN; rw [hall]
    refine ⟨j, (headL 115 x u).length + (wraps ((L.take j).map evL)).length, acts + 1, hj, Nat.le_refl _, hjc, ?_⟩
    have hu2 : upd (nameL (x : Int) u) (cutG (goodN 115 x u ((wraps (L.map evL)).take c) : Int)) [⟨nameL (x : Int) u, headL 115 x u ++ (wraps (L.map evL)).take c, N⟩] = [⟨nameL (x : Int) u, headL 115 x u ++ wraps ((L.take j).map evL), (headL 115 x u).length + (wraps ((L.take j).map evL)).length⟩] := by
      have hno : ¬ (((headL 115 x u).length + (wraps ((L.take j).map evL)).length : Nat) : Int) < 0 := by omega
      have hle : ¬ ((headL 115 x u ++ (wraps (L.map evL)).take c).length : Int) < (((headL 115 x u).length + (wraps ((L.take j).map evL)).length : Nat) : Int) := by rw [List.length_append, htk]; omega
      rw [hg]
      simp only [upd, List.map_cons, List.map_nil, if_true, cutG]
      rw [if_neg (by intro h; rcases h with h | h; exact hno h; exact hle h), Int.toNat_natCast]
      congr 2
      rw [List.take_append, List.take_of_length_le (by omega), Nat.add_sub_cancel_left, List.take_take, Nat.min_eq_left hjc, ← hwt]
    rw [hu2] at h
    exact h
end Go.Proofs.YtfdnlgigllflfaaGreatDoor.Seg

/- The laws of layer 8 at rows that are too long. -/
namespace Go.Proofs.YtfdnlgigllflfaaGreatDoor.Seg
open Go Go.RowKit Go.Proofs.YtfdnlgigllflfaaGreatDoor.Words Go.Proofs.YtfdnlgigllflfaaGreatDoor.Enc Go.Proofs.YtfdnlgigllflfaaGreatDoor.Evt Go.Proofs.YtfdnlgigllflfaaGreatDoor.Made Go.Proofs.YtfdnlgigllflfaaGreatDoor.Dsk Go.Proofs.YtfdnlgigllflfaaGreatDoor.Sht
set_option linter.unusedVariables false
set_option linter.unusedSimpArgs false

set_option maxRecDepth 100000 in
theorem fills_long (wb f : Nat) (A : Option Addr) (n c : Nat) (w : World) (ST : STabs w) (hn : 30 < n) :
    Calls Tryz.prog 3 #[.int .u8 (wb : Int), .int .u64 (f : Int), .slice A n c] w fun e w' => e = .returned (.bool true) ∧ Below w.heap.size w w' := by
  have h30 : decide ((30 : Int) < (n : Int)) = true := by simp; omega
  go_enter Tryz.func3, Tryz.ntmps3
  go_wp2_with fail
  refine (awake_any w ST).mono ?_
  rintro e w1 ⟨rfl, hb1⟩
  go_wp2_with fail
  refine (awake_any w1 (ST.below hb1)).mono ?_
  rintro e w2 ⟨rfl, hb2⟩
  have b2 := hb1.trans (hb2.mono hb1.size)
  go_wp2
  go_ret
  exact ⟨rfl, b2⟩
set_option maxRecDepth 100000 in
theorem mends_long8 (ct : Nat) (A : Option Addr) (n c : Nat) (K T : Nat) (w : World) (ST : STabs w) (hn : 20 < n) :
    Calls Tryz.prog 4 #[.slice A n c, .int .u16 (ct : Int), putV K T] w fun e w' => e = .returned (.bool true) ∧ Below w.heap.size w w' := by
  have h20 : decide ((20 : Int) < (n : Int)) = true := by simp; omega
  have h20' : 20 < n := hn
  unfold putV
  have hb := (Below.refl w.heap.size w).alloc (Nat.le_refl _) (.cells #[.int .u8 (K : Int), .int .u8 (T : Int)] 49)
  go_enter Tryz.func4, Tryz.ntmps4
  go_wp2_with fail
  refine (awake_any _ (ST.below hb)).mono ?_
  rintro e w1 ⟨rfl, hb1⟩
  have b1 := hb.trans (hb1.mono hb.size)
  go_wp2_with fail
  refine (awake_any w1 (ST.below b1)).mono ?_
  rintro e w2 ⟨rfl, hb2⟩
  have b2 := b1.trans (hb2.mono b1.size)
  go_wp2
  go_ret
  exact ⟨rfl, b2⟩
set_option maxRecDepth 100000 in
theorem strange_long (hw : Nat) (A : Option Addr) (n c : Nat) (B : Option Addr) (m k : Nat) (w : World) (ST : STabs w) (hn : 10 < n) :
    Calls Tryz.prog 5 #[.slice A n c, .int .u8 (hw : Int), .slice B m k] w fun e w' => e = .returned (.bool true) ∧ Below w.heap.size w w' := by
  have h10 : decide ((10 : Int) < (n : Int)) = true := by simp; omega
  have h10' : 10 < n := hn
  go_enter Tryz.func5, Tryz.ntmps5
  go_wp2_with fail
  refine (awake_any w ST).mono ?_
  rintro e w1 ⟨rfl, hb1⟩
  go_wp2_with fail
  refine (awake_any w1 (ST.below hb1)).mono ?_
  rintro e w2 ⟨rfl, hb2⟩
  have b2 := hb1.trans (hb2.mono hb1.size)
  go_wp2
  go_ret
  exact ⟨rfl, b2⟩
end Go.Proofs.YtfdnlgigllflfaaGreatDoor.Seg

/- The rows of small events that come in. -/
namespace Go.Proofs.YtfdnlgigllflfaaGreatDoor.Seg
open Go Go.RowKit Go.Proofs.YtfdnlgigllflfaaGreatDoor.Words Go.ChangeShapes Go.WideShapes
set_option linter.unusedVariables false

def toN : Value → Nat
  | .int _ z => z.toNat
  | _ => 0
theorem seesP_of {H : Type} {enc : TypeId × Value → H} {w : World} {base fuel : Nat} {a : Option Addr} {len cap : Nat} {x : DataW H × List MemPlace}
    (h : DataW.trod enc Tryz.prog w base (fun _ => true) true fuel 23 [.slice a len cap] = some x) : ∃ l, SeesP w a len l ∧ len ≤ cap ∧ cap ≤ maxLen := by
  rcases Go.Deep.open_slice_pairs Tryz.underlying23 Tryz.underlying49 (by kernel_rfl) rfl rfl (by kernel_rfl) (by kernel_rfl) h with ⟨hcs, _⟩ | ⟨ad, len', cap', m, nf, V0, V1, D0, D1, P0, P1, hcs, hb, hl, hm, hmm, hx, hc⟩
  · simp at hcs
    obtain ⟨rfl, rfl, rfl⟩ := hcs
    exact ⟨[], ⟨rfl, (fun a ha => by cases ha), fun h => absurd h (by omega)⟩, Nat.le_refl _, Nat.zero_le _⟩
  · simp at hcs
    obtain ⟨rfl, rfl, rfl⟩ := hcs
    have hm' : m = cap := by simpa using hmm
    have each : ∀ i, i < len → w.cell? (ad.add (i * 2)) = some (.int .u8 ((toN (V0 i) : Nat) : Int)) ∧ w.cell? (ad.add (i * 2 + 1)) = some (.int .u8 ((toN (V1 i) : Nat) : Int)) ∧ toN (V0 i) < 256 ∧ toN (V1 i) < 256 := by
      intro i hi
      obtain ⟨h0, h1, t0, t1⟩ := hc i (by omega)
      obtain ⟨z0, e0, f0, w0⟩ := DataW.trod_int Tryz.underlying5 t0
      obtain ⟨z1, e1, f1, w1⟩ := DataW.trod_int Tryz.underlying5 t1
      have v0 : V0 i = .int .u8 z0 := by simpa using e0
      have v1 : V1 i = .int .u8 z1 := by simpa using e1
      simp [Lit.wf, IntKind.min, IntKind.max, IntKind.signed, IntKind.bits] at w0 w1
      rw [h0, h1, v0, v1]
      simp only [toN]
      refine ⟨by congr 2; omega, by congr 2; omega, by omega, by omega⟩
    refine ⟨(List.range len).map fun i => (toN (V0 i), toN (V1 i)), ⟨by simp, fun p hp => ?_, fun hn => ?_⟩, hl, hm⟩
    · obtain ⟨i, hi, rfl⟩ := List.mem_map.1 hp
      have := each i (by simpa using hi)
      exact ⟨this.2.2.1, this.2.2.2⟩
    · obtain ⟨b, o, s⟩ := ad
      have h0 := (each 0 hn).1
      have hs0 : s = none := by simpa [Addr.add] using World.cell?_spot h0
      subst hs0
      refine ⟨b, o, rfl, fun j p hp => ?_⟩
      rw [List.getElem?_map] at hp
      by_cases hj : j < len
      · rw [List.getElem?_range hj] at hp
        simp at hp
        subst hp
        have := each j hj
        rw [Words.add_plain, Words.add_plain] at this
        exact ⟨this.1, by rw [Nat.add_assoc]; exact this.2.1⟩
      · rw [List.getElem?_eq_none (by simp; omega)] at hp
        cases hp
end Go.Proofs.YtfdnlgigllflfaaGreatDoor.Seg
