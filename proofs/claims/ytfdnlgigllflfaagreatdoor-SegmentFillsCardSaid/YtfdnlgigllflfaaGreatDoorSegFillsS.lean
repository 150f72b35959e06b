/- SegmentFills, walked. -/
import Derived.Test.YtfdnlgigllflfaaGreatDoorBSegLaw
import Derived.Test.YtfdnlgigllflfaaGreatDoorBEvent
import Derived.Test.YtfdnlgigllflfaaGreatDoorBPlain
namespace Go.Proofs.YtfdnlgigllflfaaGreatDoor.Seg
open Go Go.RowKit Go.Proofs.YtfdnlgigllflfaaGreatDoor.Words Go.Proofs.YtfdnlgigllflfaaGreatDoor.Enc Go.Proofs.YtfdnlgigllflfaaGreatDoor.Evt Go.Proofs.YtfdnlgigllflfaaGreatDoor.Made Go.Proofs.YtfdnlgigllflfaaGreatDoor.Dsk Go.Proofs.YtfdnlgigllflfaaGreatDoor.Sht
set_option linter.unusedVariables false
set_option linter.unusedSimpArgs false

theorem evsF_get (x : Int) (u : Nat) : ∀ (l : List (Nat × Nat)) (t j : Nat), (evsF x u t l)[j]? = (l[j]?).map fun a => putE a.1 a.2 x (u + (t + j)) (t + j + 1)
  | [], t, j => by simp [evsF]
  | a :: r, t, 0 => by simp [evsF]
  | a :: r, t, j + 1 => by
    simp only [evsF, List.getElem?_cons_succ, evsF_get x u r (t + 1) j]
    rw [show t + 1 + j = t + (j + 1) by omega]

set_option maxRecDepth 100000 in
set_option maxHeartbeats 2000000 in
theorem fills_short (wb f : Nat) (A : Option Addr) (n c : Nat) (l : List (Nat × Nat)) (w : World) (T : Chk.Tabs w) (ST : STabs w) (hP : SeesP w A n l) (hn : n ≤ 30) (hwb : wb < 256) (hf : f < 18446744073709551616) :
    Calls Tryz.prog 3 #[.int .u8 (wb : Int), .int .u64 (f : Int), .slice A n c] w fun e w' => e = .returned (.bool true) ∧ Below w.heap.size w w' := by
  have h30 : ¬ 30 < n := by omega
  have hln := hP.1
  obtain ⟨x, hx⟩ : ∃ x, x = wb % 64 := ⟨_, rfl⟩
  obtain ⟨u, hu⟩ : ∃ u, u = 1 + f % 1152921504606846976 := ⟨_, rfl⟩
  have hx64 : x < 64 := by omega
  have hu0 : 0 < u := by omega
  have hu2 : u < 4611686018427387904 := by omega
  have c1 : (wb : Int) % 64 = (x : Int) := by omega
  have c2 : 1 + (f : Int) % 1152921504606846976 = (u : Int) := by omega
  have hX := Lib.hid hx
  have hU := Lib.hid hu
  clear hx hu
  have hhl := headL_len (k := 115) (a := x) (b := u) (by omega) (by omega)
  have htl := (titleL_len (k := 115) (a := x) (b := u) (by omega) (by omega)).2
  have hH50 : (headL 115 x u).length ≤ 50 := by omega
  clear hhl htl
  go_enter Tryz.func3, Tryz.ntmps3
  go_wp2_with fail
  refine (awake_any w ST).mono ?_
  rintro e w1 ⟨rfl, hb1⟩
  go_wp2_with fail
  refine (newC 65536 w1).mono ?_
  rintro e w2 ⟨d, S2, rfl, hd2, hS2, hb2⟩
  have b2 := hb1.trans (hb2.mono hb1.size)
  have hS2w : ∀ k ∈ S2, w.heap.size ≤ k := fun k hk => Nat.le_trans hb1.size (hS2 k hk)
  have TT2 : TabsOn S2 w2 := TabsOn.of T ST b2 hS2w
  go_wp2_with fail
  refine (fill_any d S2 x u A n c l w2 TT2 hd2 (fun W hW => hP.below (Below.beside b2 hW b2.size hS2w)) hn hx64 hu0 hu2).mono ?_
  rintro e w3 ⟨A3, S3, N3, rfl, hd3, hb3, hs3, hse3⟩
  have b3 := Below.beside b2 hb3 b2.size hS2w
  have hS3w : ∀ k ∈ S3, w.heap.size ≤ k := fun k hk => by
    rcases hs3 k hk with h | h
    · exact hS2w k h
    · exact Nat.le_trans b2.size h
  have hruns := evsF_runs hx64 hu0 l 0 (by omega) (by omega)
  rw [Nat.add_zero] at hruns
  have hLl := evsF_len (x : Int) u l 0
  obtain ⟨L, hL⟩ : ∃ L, L = evsF (x : Int) u 0 l := ⟨_, rfl⟩
  have HL := Lib.hid hL
  rw [← hL] at hd3 hse3 hruns hLl ⊢
  clear hL
  rw [hln] at hse3 hd3 hLl ⊢
  have hws := runs_wraps hruns
  rw [hLl] at hws
  have hname := fun W hT => name_any (x : Int) u (by omega) (by omega) (by omega) W hT
  have hnl := name_len (n := x) (u := u) (by omega)
  have hopen := fun W hT hd' => openL d S3 x u N3 (2 + n) L W hT hd' hx64 (by omega) hruns (by omega) (by omega)
  rw [hLl] at hopen
  have hread := fun W hd' => readC d S3 [⟨nameL (x : Int) u, headL 115 x u ++ wraps (L.map evL), N3⟩] ⟨65536, 2 + n, -1, 0, false⟩ (nameL (x : Int) u) W hd' (by omega) (by simp only [sumA, List.length_append]; omega)
  have hrb := read_bytes (h := ⟨65536, 2 + n, -1, 0, false⟩) (s := nameL (x : Int) u) (files := [⟨nameL (x : Int) u, headL 115 x u ++ wraps (L.map evL), N3⟩]) (f := ⟨nameL (x : Int) u, headL 115 x u ++ wraps (L.map evL), N3⟩) rfl (by simp [lookA])
  rw [hrb.1, hrb.2] at hread
  unfold Tells at hread
  clear hrb
  generalize hZ : (headL 115 x u).length + (wraps (L.map evL)).length = Z at hopen ⊢
  have hFL : (headL 115 x u ++ wraps (L.map evL)).length = Z := by rw [List.length_append]; exact hZ
  simp only [hFL] at hread
  have HZ := Lib.hid hZ
  have HLn := Lib.hid hLl
  clear hZ hLl hFL
  have hbox := (Below.refl w3.heap.size w3).alloc (Nat.le_refl _) (.cells #[.int .i64 (x : Int), .int .u64 (u : Int), .slice A3 n n, .int .i64 (Z : Int)] 29)
  have g9 := heap_alloc_new w3 (.cells #[.int .i64 (x : Int), .int .u64 (u : Int), .slice A3 n n, .int .i64 (Z : Int)] 29)
  have hd4 := hd3.below hbox
  have hse4 := hse3.below hbox
  have b4 := b3.trans (hbox.mono b3.size)
  have hlt3 : ∀ k ∈ S3, k < w3.heap.size := hd3.lt
  unfold segV
  go_upto_region 7 with fail
  generalize w3.alloc (.cells #[.int .i64 (x : Int), .int .u64 (u : Int), .slice A3 n n, .int .i64 (Z : Int)] 29) = w4 at hbox g9 hd4 hse4 b4 ⊢
  generalize w3.heap.size = b9 at g9 hlt3 ⊢
  clear hd3 hse3 hbox b3 hb3 hs3 hd2 hb2 TT2 b2 hb1
  have hn9 : b9 ∉ S3 := fun hm => by have := hlt3 _ hm; omega
  go_wp2_with fail
  refine (hname w4 (ST.below b4)).mono ?_
  rintro e w5 ⟨rfl, hb5⟩
  have g9' := (hb5.block b9 (Array.getElem?_eq_some_iff.1 g9).1).trans g9
  have hd5 := hd4.below hb5
  have hse5 := hse4.below hb5
  have b5 := b4.trans (hb5.mono b4.size)
  clear hd4 hse4 hb5 g9 hname
  go_wp2_with fail
  refine (hread w5 hd5).mono ?_
  rintro e w6 ⟨A6, c6, rfl, hown6, hb6⟩
  have g9 := (hb6.block b9 (Array.getElem?_eq_some_iff.1 g9').1).trans g9'
  have hd6 := hd5.below hb6
  have hse6 := hse5.below hb6
  have b6 := b5.trans (hb6.mono b5.size)
  have hp6 := Sees.of_own hown6
  have hout6 : Out S3 A6 Z := Out.of_own hown6 fun k hk => hd5.lt k hk
  clear hd5 hse5 hb6 g9' hread hown6
  go_wp2_with fail
  refine (hopen w6 (TabsOn.of T ST b6 hS3w) hd6).mono ?_
  rintro e w7 ⟨A7, S7, rfl, hd7, hb7, hs7, hse7⟩
  have g9' := (hb7.block b9 (Array.getElem?_eq_some_iff.1 g9).1 hn9).trans g9
  have hp7 := hp6.beside hb7 hout6
  have hse7' := hse6.next hb7 hs7
  have b7 := Below.beside b6 hb7 b6.size hS3w
  have hbox := (Below.refl w7.heap.size w7).alloc (Nat.le_refl _) (.cells #[.int .i64 (x : Int), .int .u64 (u : Int), .slice A7 n n, .int .i64 (Z : Int)] 29)
  have g14 := heap_alloc_new w7 (.cells #[.int .i64 (x : Int), .int .u64 (u : Int), .slice A7 n n, .int .i64 (Z : Int)] 29)
  have g9 := (hbox.block b9 (Array.getElem?_eq_some_iff.1 g9').1).trans g9'
  have hp8 := hp7.below hbox
  have hse8 := hse7.below hbox
  have hse8' := hse7'.below hbox
  have b8 := b7.trans (hbox.mono b7.size)
  have c3 : IntKind.u64.wrap (x : Int) = (x : Int) := by rw [IntKind.wrap_u64]; omega
  have hhead := fun W hT => head_any 115 x u W hT (by omega) (by omega)
  unfold titleV at hhead
  simp only [show ((115 : UInt8).toNat : Int) = 115 from rfl] at hhead
  unfold segV
  go_upto_region 12 with fail
  generalize w7.alloc (.cells #[.int .i64 (x : Int), .int .u64 (u : Int), .slice A7 n n, .int .i64 (Z : Int)] 29) = w8 at hbox g14 g9 hp8 hse8 hse8' b8 ⊢
  generalize w7.heap.size = b14 at g14 ⊢
  clear hd6 hse6 hb7 hs7 hse7 hse7' hd7 hp6 hp7 hout6 g9' b6 b7 hbox hopen
  go_wp2_with fail
  refine (hhead w8 (T.below b8)).mono ?_
  rintro e w9 ⟨A9, c9, rfl, hown9, hb9⟩
  have HB9 := Lib.hid hb9
  have HO9 := Lib.hid hown9
  have HW8 := Lib.hid b8
  have HRU := Lib.hid hruns
  have HPP := Lib.hid hP
  obtain ⟨i, hi, hz, hsz, hby⟩ := info_parts info8
  clear hb9 hown9 hhead b8 hruns hP
  go_wp2_with fail
  go_loopw [16, 17] (fun s i W => ∃ (j : Nat) (Aw : Option Addr) (nw cw : Nat), s = .slice Aw nw cw ∧ i = .int .i64 (j : Int) ∧ j ≤ n ∧ Hid (W.ownsRow w8.heap.size 5 1 (.slice Aw nw cw) nw (cs (headL 115 x u ++ wraps ((L.take j).map evL)))) ∧ Hid (Below w8.heap.size w8 W)) (fun _ i _ => n - (intOf i).toNat)
  case atStart => exact ⟨0, A9, _, c9, rfl, rfl, Nat.zero_le _, Lib.hid (by simpa [wraps] using HO9.out), HB9⟩
  case round =>
    obtain ⟨j, Aw, nw, cw, rfl, rfl, hj, HO, HB⟩ := hrel
    by_cases hlt : j < n
    · have bW := HW8.out.trans (HB.out.mono HW8.out.size)
      obtain ⟨hlP, h256, hcells⟩ := HPP.out.below bW
      obtain ⟨bp, op, rfl, hcj⟩ := hcells (by omega)
      obtain ⟨K, Tt, hKT⟩ : ∃ K T, l[j]? = some (K, T) := ⟨(l[j]'(by omega)).1, (l[j]'(by omega)).2, by rw [List.getElem?_eq_getElem (by omega)]⟩
      obtain ⟨hK, hTt⟩ : K < 256 ∧ Tt < 256 := h256 (K, Tt) (List.mem_of_getElem? hKT)
      obtain ⟨kp0, kp1⟩ := hcj j (K, Tt) hKT
      have hgj : L[j]? = some (putE K Tt (x : Int) (u + j) (j + 1)) := by rw [HL.out, evsF_get, hKT]; simp
      have hjn : (j : Int) < (n : Int) := by omega
      have hj0 : (0 : Int) ≤ (j : Int) := by omega
      have hw1 : IntKind.u64.wrap (j : Int) = (j : Int) := by rw [IntKind.wrap_u64]; omega
      have hw2 : IntKind.u64.wrap ((u : Int) + (j : Int)) = (u : Int) + (j : Int) := by rw [IntKind.wrap_u64]; omega
      have hw3 : IntKind.i64.wrap ((j : Int) + 1) = (j : Int) + 1 := by rw [IntKind.wrap_i64]; omega
      have hw4 : IntKind.u64.wrap ((j : Int) + 1) = (j : Int) + 1 := by rw [IntKind.wrap_u64]; omega
      have HEV := fun W => event_any K Tt (x : Int) (u + j) (j + 1) W hK hTt
      simp only [putV, show ((u + j : Nat) : Int) = (u : Int) + (j : Int) from rfl, show ((j + 1 : Nat) : Int) = (j : Int) + 1 from rfl] at HEV
      have hrt := putE_right (K := K) (T := Tt) (x := x) (seq := u + j) (time := j + 1) hx64 (by omega) (by omega) (by omega) (by omega)
      have HG := Lib.hid hgj
      clear hgj hKT hcj h256 hcells hlP
      go_wp2_with fail
      refine (HEV _).mono ?_
      rintro e v1 ⟨Ae, ne, ce, rfl, hes, hec, hec2, hef, heb⟩
      go_wp2_with fail
      refine (refEncode_any _ Ae ne ce v1 hes (by simp [putE]) hrt).mono ?_
      rintro e v2 ⟨A2, c2', rfl, hown2, hbv2⟩
      have hes2 := Sees.of_own hown2
      have hlen2 := (ev_short (K := K) (T := Tt) (x := x) (seq := u + j) (time := j + 1) hx64 (by omega) (by omega) (by omega) (by omega)).1
      generalize hEL : evL (putE K Tt (x : Int) (u + j) (j + 1)) = EL at hown2 hes2 hlen2 ⊢
      go_wp2_with fail
      refine (refWrap_any A2 EL.length c2' EL v2 hes2 (by omega)).mono ?_
      rintro e v3 ⟨A3', c3', rfl, hown3, hbv3⟩
      have hes3 := Sees.of_own hown3
      have hbv : Below wr.heap.size wr v3 := (heb.trans (hbv2.mono heb.size)).trans (hbv3.mono (Nat.le_trans heb.size hbv2.size))
      have hOv := Own.below HO.out hbv (Nat.le_refl _)
      have hBv := HB.out.trans (hbv.mono HB.out.size)
      have hszv := hBv.size
      have hnw : nw ≤ 100000 := by
        have h1 := HO.out.1
        rw [cs_length, List.length_append] at h1
        have h2 := runs_wraps (runs_take j HRU.out)
        rw [List.length_take] at h2
        omega
      have hnv : (enc EL.length).length + EL.length + 4 ≤ 100000 := by have := enc_ten (n := EL.length) (by omega); omega
      generalize (enc EL.length).length + EL.length + 4 = nv at hes3 hnv ⊢
      clear hown2 hown3 hbv2 hbv3 heb hes hes2
      go_wp2_with (first | (at_builtin; refine wpList_app rfl _ _ 33 rfl w8.heap.size 5 i (.int .u8 0) Tryz.underlying33 hi hz hsz hby rfl Aw nw cw _ rfl hOv A3' nv c3' _ rfl hes3 ?d1 ?d2 ?_))
      case d1 => omega
      case d2 => exact hszv
      intro A' c' v4 hown4 hb4
      go_wp2
      go_roundw
      case rel =>
        refine ⟨j + 1, A', _, c', rfl, rfl, by omega, Lib.hid ?_, Lib.hid (hBv.trans hb4)⟩
        have htk : L.take (j + 1) = L.take j ++ [putE K Tt (x : Int) (u + j) (j + 1)] := by rw [List.take_add_one, HG.out]; rfl
        have he : wraps ((L.take (j + 1)).map evL) = wraps ((L.take j).map evL) ++ wrap EL := by rw [htk, List.map_append, wraps_append, List.map_cons, List.map_nil, hEL]; simp [wraps]
        rw [he]
        simpa [List.append_assoc, List.map_take] using hown4
      case measure => simp [intOf]; omega
    · have hjn : n = j := by omega
      subst hjn
      have hB := HB.out
      have k9 := (hB.block b9 (Array.getElem?_eq_some_iff.1 g9).1).trans g9
      have k14 := (hB.block b14 (Array.getElem?_eq_some_iff.1 g14).1).trans g14
      have hse9 := hse8.below hB
      have hse9' := hse8'.below hB
      have hp9 := hp8.below hB
      have hwant := Sees.of_own HO.out
      have hLn := HLn.out
      rw [List.take_of_length_le (by omega)] at hwant
      have hnwZ : nw = Z := by have := hwant.1; rw [List.length_append, HZ.out] at this; omega
      subst hnwZ
      generalize headL 115 x u ++ wraps (L.map evL) = FL at hp9 hwant
      obtain ⟨FS, hFS⟩ : ∃ FS : ByteArray, FS = ⟨FL.toArray⟩ := ⟨_, rfl⟩
      have hsame := fun W (hW : Below wr.heap.size wr W) => sameAll_any S7 S7 A3 A7 n n n L W (hse9'.below hW) (hse9.below hW) (runs_mem HRU.out) (by omega)
      have STR := Lib.hid (fun W (hW : Below wr.heap.size wr W) => (⟨by rw [hFS]; exact (hp9.below hW).string c6 Tryz.underlying33 Tryz.underlying5 Tryz.underlying9, by rw [hFS]; exact (hwant.below hW).string cw Tryz.underlying33 Tryz.underlying5 Tryz.underlying9⟩ : (convert 33 9 (.slice A6 nw c6)).run Tryz.prog W = .ok (.string FS) W ∧ (convert 33 9 (.slice Aw nw cw)).run Tryz.prog W = .ok (.string FS) W))
      have c4 : IntKind.u64.wrap (n : Int) = (n : Int) := by rw [IntKind.wrap_u64]; omega
      have c5 : IntKind.u64.wrap ((u : Int) + (n : Int)) = (u : Int) + (n : Int) := by rw [IntKind.wrap_u64]; omega
      obtain ⟨s0, s1, s2, s3⟩ := b4cells k9
      obtain ⟨r0, r1, r2, r3⟩ := b4cells k14
      have HK9 := Lib.hid k9
      have HK14 := Lib.hid k14
      clear k9 k14 hse9 hse9' hp9 hwant hse8 hse8' hp8 g9 g14 hB hLn
      go_wp2_with fail
      refine (hsame _ (Below.refl _ _)).mono ?_
      rintro e v1 ⟨rfl, hv1⟩
      have k9 := (hv1.block b9 (Array.getElem?_eq_some_iff.1 HK9.out).1).trans HK9.out
      have k14 := (hv1.block b14 (Array.getElem?_eq_some_iff.1 HK14.out).1).trans HK14.out
      obtain ⟨str1, str2⟩ := STR.out v1 hv1
      clear s0 s1 s2 s3 r0 r1 r2 r3 hsame
      obtain ⟨s0, s1, s2, s3⟩ := b4cells k9
      obtain ⟨r0, r1, r2, r3⟩ := b4cells k14
      have HN := fun W => next_any (x : Int) u A3 n n nw W (by omega)
      unfold segV at HN
      go_wp2_with fail
      refine (HN _).mono ?_
      rintro e v2 ⟨rfl, hv2⟩
      have k14' := (hv2.block b14 (Array.getElem?_eq_some_iff.1 k14).1).trans k14
      clear s0 s1 s2 s3 r0 r1 r2 r3
      obtain ⟨r0, r1, r2, r3⟩ := b4cells k14'
      have BF := Lib.hid (HW8.out.trans ((HB.out.trans ((hv1.mono HB.out.size).trans (hv2.mono (Nat.le_trans HB.out.size hv1.size)))).mono HW8.out.size))
      clear k9 k14 k14' hv1 hv2
      go_wp2
      go_ret
      exact ⟨by first | rfl | simp, BF.out⟩
theorem fills_law (wb f : Nat) (A : Option Addr) (n c : Nat) (l : List (Nat × Nat)) (w : World) (T : Chk.Tabs w) (ST : STabs w) (hP : SeesP w A n l) (hwb : wb < 256) (hf : f < 18446744073709551616) :
    Calls Tryz.prog 3 #[.int .u8 (wb : Int), .int .u64 (f : Int), .slice A n c] w fun e w' => e = .returned (.bool true) ∧ Below w.heap.size w w' := by
  by_cases h : 30 < n
  · exact fills_long wb f A n c w ST h
  · exact fills_short wb f A n c l w T ST hP (by omega) hwb hf
end Go.Proofs.YtfdnlgigllflfaaGreatDoor.Seg
