/- feed: the segments that are no longer needed are removed; Fold. -/
import Derived.Test.YtkphklmgbdljiaaGreatDoorFdDel
import Derived.Test.YtkphklmgbdljiaaGreatDoorFdSync
namespace Go.Proofs.YtkphklmgbdljiaaGreatDoor.Fd
open Go Go.RowKit Go.Proofs.YtkphklmgbdljiaaGreatDoor.Words Go.Proofs.YtkphklmgbdljiaaGreatDoor.Enc Go.Proofs.YtkphklmgbdljiaaGreatDoor.Evt Go.Proofs.YtkphklmgbdljiaaGreatDoor.Made Go.Proofs.YtkphklmgbdljiaaGreatDoor.Dsk Go.Proofs.YtkphklmgbdljiaaGreatDoor.Sht Go.Proofs.YtkphklmgbdljiaaGreatDoor.Seg
set_option linter.unusedVariables false
set_option linter.unusedSimpArgs false

/-- How many parts at the beginning have no events after the floor, but the last. -/
def goneN (floor : Nat) : List Part → Nat
  | [] => 0
  | [_] => 0
  | p :: q :: r => if p.u + p.L.length - 1 ≤ floor then 1 + goneN floor (q :: r) else 0
theorem goneN_lt (floor : Nat) : ∀ P : List Part, P ≠ [] → goneN floor P < P.length
  | [], h => absurd rfl h
  | [_], _ => by simp [goneN]
  | p :: q :: r, _ => by
    have := goneN_lt floor (q :: r) (by simp)
    simp only [goneN, List.length_cons] at *
    split <;> omega
theorem goneN_in (floor : Nat) : ∀ (P : List Part) (j : Nat) (p : Part), j < goneN floor P → P[j]? = some p → p.u + p.L.length - 1 ≤ floor
  | [], j, p, h, _ => by simp [goneN] at h
  | [_], j, p, h, _ => by simp [goneN] at h
  | p :: q :: r, j, s, h, hs => by
    simp only [goneN] at h
    split at h
    · rename_i hp
      rcases j with _ | j
      · simp at hs; subst hs; exact hp
      · exact goneN_in floor (q :: r) j s (by omega) (by simpa using hs)
    · omega
theorem goneN_out (floor : Nat) : ∀ (P : List Part) (p : Part), goneN floor P + 1 < P.length → P[goneN floor P]? = some p → floor < p.u + p.L.length - 1
  | [], p, h, _ => by simp [goneN] at h
  | [_], p, h, _ => by simp [goneN] at h
  | p :: q :: r, s, h, hs => by
    simp only [goneN] at h hs
    split at h
    · rename_i hp
      rw [if_pos hp] at hs
      have := goneN_out floor (q :: r) s (by simp at h ⊢; omega) (by rw [Nat.add_comm] at hs; simpa using hs)
      exact this
    · rename_i hp
      rw [if_neg hp] at hs
      simp at hs
      subst hs
      omega
theorem drop_first (x : Nat) (p : Part) (P : List Part) (h : Rise (p :: P)) : dropF (nameL (x : Int) p.u) ((p :: P).map (Part.file x)) = P.map (Part.file x) := by
  have h1 := List.pairwise_cons.1 h.1
  unfold dropF
  rw [List.map_cons, List.filter_cons, if_neg (by simp [Part.file])]
  rw [List.filter_eq_self]
  intro f hf
  obtain ⟨q, hq, rfl⟩ := List.mem_map.1 hf
  have := h1.1 q hq
  simp only [decide_eq_true_eq]
  intro he
  have := nameL_inj (h.2 q (List.mem_cons_of_mem _ hq)) (h.2 p (by simp)) he
  omega
theorem rise_drop {P : List Part} (h : Rise P) (k : Nat) : Rise (P.drop k) := ⟨h.1.sublist (List.drop_sublist k P), fun p hp => h.2 p (List.mem_of_mem_drop hp)⟩
theorem sum_drop (x : Nat) (P : List Part) (k : Nat) : ((P.drop k).map (Part.z x)).sum ≤ (P.map (Part.z x)).sum := by
  conv => rhs; rw [← List.take_append_drop k P, List.map_append, List.sum_append]
  omega

set_option maxRecDepth 100000 in
set_option maxHeartbeats 2000000 in
theorem drop_at [Inhabited XS] (d f x : Nat) (sz : Int) (floor time : Nat) (R : List SegS) (safe acts : Nat) (A : Option Addr) (c : Nat) (S : List Nat) (w : World) (F : FeedAt w d f x sz floor time R safe A c S (hdA acts)) (T : TabsOn S w) (hR : Rise (R.map SegS.p)) (hx : x < 64) (hn : R.length ≤ 1000) (hac : acts ≤ 40000) (hsf : safe ≤ 1000) (hsum : ((R.map SegS.p).map (Part.z x)).sum ≤ 1000000)
    (hL : ∀ r ∈ R, 0 < r.p.L.length ∧ r.p.u + r.p.L.length < 100000) :
    Calls Tryz.prog 33 #[.pointer (some ⟨f, 0, none⟩)] w fun e w' => e = .returned (.int .i64 0) ∧ ∃ S' c', FeedAt w' d f x sz floor time (R.drop (goneN floor (R.map SegS.p))) (safe - goneN floor (R.map SegS.p)) A c' S' (hdA (acts + goneN floor (R.map SegS.p))) ∧ Beside (S ++ f :: blk A) w w' ∧ ∀ k ∈ S', k ∈ S ∨ w.heap.size ≤ k := by
  have hgl := goneN_lt floor (R.map SegS.p)
  have hgi := goneN_in floor (R.map SegS.p)
  have hgo := goneN_out floor (R.map SegS.p)
  obtain ⟨K, hK⟩ : ∃ K, K = goneN floor (R.map SegS.p) := ⟨_, rfl⟩
  rw [← hK] at hgl hgi hgo ⊢
  have hKl : K ≤ R.length := by
    by_cases h : R = []
    · rw [hK, h]; simp [goneN]
    · have := hgl (by simpa using h); simp at this; omega
  have HF := Lib.hid F
  have HK := Lib.hid hK
  have HGL := Lib.hid hgl
  have HGI := Lib.hid hgi
  have HGO := Lib.hid hgo
  have HR := Lib.hid hR
  have HL := Lib.hid hL
  have hlt := F.lt
  have HLT := Lib.hid hlt
  obtain ⟨n, hn0⟩ : ∃ n, n = R.length := ⟨_, rfl⟩
  have HN := Lib.hid hn0
  clear F hK hgl hgi hgo hR hL hlt hn0
  go_enter Tryz.func33, Tryz.ntmps33
  go_wp2
  go_loopw [3] (fun v wr => ∃ (j : Nat) (S' : List Nat), v = .int .i64 (j : Int) ∧ j ≤ K ∧ Hid (Disk wr d S' ((R.drop j).map fun r => r.p.file x) (hdA (acts + j))) ∧ Hid (Beside S w wr) ∧ Hid (∀ k ∈ S', k ∈ S ∨ w.heap.size ≤ k)) (fun v _ => K - (intOf v).toNat)
  case atStart => exact ⟨0, S, rfl, Nat.zero_le _, Lib.hid HF.out.disk, Lib.hid (Beside.refl _ _), Lib.hid fun k hk => .inl hk⟩
  case round =>
    obtain ⟨j, S', rfl, hj, HD, HB, HS⟩ := hrel
    have F := HF.out
    have hbl := blk_lt F
    have boxW := (HB.out.block f (hbl f (by simp)).1 (hbl f (by simp)).2).trans F.box
    have rowW := own_kept F.row fun g hg => HB.out.block g (hbl g (by simp [hg])).1 (hbl g (by simp [hg])).2
    rw [← HN.out] at boxW rowW
    have hfW : f < wr.heap.size := (Array.getElem?_eq_some_iff.1 boxW).1
    have CELLS := Lib.hid (fun W (hW : Below wr.heap.size wr W) => (hW.block f hfW).trans boxW)
    have c5 : wr.cell? ⟨f, 5, none⟩ = some (.slice A n c) := by rw [cell_of_row wr f _ _ _ _ boxW]; rfl
    have hwn : IntKind.i64.wrap ((n : Int) - 1) = (n : Int) - 1 := by have := HN.out; rw [IntKind.wrap_i64]; omega
    have HBX := Lib.hid boxW
    have HRW := Lib.hid rowW
    -- a part of the row
    have PART : ∀ r, R[j]? = some r → ∃ g, A = some ⟨g, 0, none⟩ ∧ ∀ W : World, W.heap[g]? = wr.heap[g]? → W.cell? ⟨g, j * 4, none⟩ = some (.int .i64 (x : Int)) ∧ W.cell? ⟨g, j * 4 + 1, none⟩ = some (.int .u64 (r.p.u : Int)) ∧ W.cell? ⟨g, j * 4 + 2, none⟩ = some (.slice r.A r.p.L.length r.p.L.length) ∧ W.cell? ⟨g, j * 4 + 3, none⟩ = some (.int .i64 (r.p.z x : Int)) := by
      intro r hr
      have hjl : j < R.length := (List.getElem?_eq_some_iff.1 hr).1
      obtain ⟨g, hA, _⟩ := own_at8 rowW (by have := HN.out; omega)
      refine ⟨g, hA, fun W hW => ?_⟩
      have hc : ∀ k v, k < 4 → (r.cells x)[k]? = some v → W.cell? ⟨g, j * 4 + k, none⟩ = some v := by
        intro k v hk hv
        rcases rowW.2 with ⟨hv0, h0⟩ | ⟨g', cap, cur, hv0, _, hh, _, _, _, ht⟩
        · have := HN.out; omega
        · injection hv0 with h1
          rw [hA] at h1
          injection h1 with h1
          injection h1 with h1
          subst h1
          rw [cell_of_row W g _ _ _ _ (hW.trans hh)]
          have h4 := rowsS_get x R j k r hr hk
          rw [hv, ← ht, List.getElem?_take] at h4
          split at h4
          · simpa using h4
          · cases h4
      exact ⟨hc 0 _ (by omega) rfl, hc 1 _ (by omega) rfl, hc 2 _ (by omega) rfl, hc 3 _ (by omega) rfl⟩
    have TW : STabs wr := (T wr HB.out).2
    have CF : ∀ W, Below wr.heap.size wr W → W.heap[f]? = some (.cells (Fd.cells d (x : Int) sz floor time (.slice A n c) (safe : Int)) 60 (0, 0)) := CELLS.out
    have hS'l : ∀ k ∈ S', k < wr.heap.size := HD.out.lt
    have hf' : f ∉ S' := fun hm => (HS.out f hm).elim (hbl f (by simp)).2 (fun h => by have := (hbl f (by simp)).1; omega)
    have hg' : ∀ g ∈ blk A, g ∉ S' ∧ g < wr.heap.size := fun g hg => ⟨fun hm => (HS.out g hm).elim (hbl g (by simp [hg])).2 (fun h => by have := (hbl g (by simp [hg])).1; omega), by have := (hbl g (by simp [hg])).1; have := HB.out.size; omega⟩
    by_cases hjK : j < K
    · have hjR : j < R.length := by omega
      obtain ⟨r, hr⟩ : ∃ r, R[j]? = some r := ⟨_, List.getElem?_eq_getElem hjR⟩
      obtain ⟨g, hA, hcl⟩ := PART r hr
      subst hA
      obtain ⟨k0, k1, k2, k3⟩ := hcl wr rfl
      have hPj : (R.map SegS.p)[j]? = some r.p := by rw [List.getElem?_map, hr]; rfl
      have hfl := HGI.out j r.p hjK hPj
      obtain ⟨hl0, hl1⟩ := HL.out r (List.mem_of_getElem? hr)
      have hgn := HGL.out (by intro h; rw [List.map_eq_nil_iff] at h; rw [h] at hjR; simp at hjR)
      rw [List.length_map] at hgn
      have hc1 : (j : Int) < (n : Int) - 1 := by have := HN.out; omega
      have hjn : j < n := by have := HN.out; omega
      have hdf : decide (floor < r.p.u + r.p.L.length - 1) = false := by simp; omega
      have hru := HR.out.2 _ (List.mem_map_of_mem (List.mem_of_getElem? hr))
      have hgg := hg' g (by simp [blk])
      have ABOVE := Lib.hid (above_any f floor x r.p.u r.A r.p.L.length (r.p.z x) wr (fun W hW => by rw [cell_of_row W f _ _ _ _ (CF W hW)]; rfl) hl0 (by omega))
      have REM : ∀ W, Below wr.heap.size wr W → Hid (Calls Tryz.prog 46 #[.pointer (some ⟨d, 0, none⟩), .string ⟨(nameL (x : Int) r.p.u).toArray⟩] W fun e w' => e = .returned (.int .i64 0) ∧ ∃ S'', Disk w' d S'' ((R.drop (j + 1)).map fun r => r.p.file x) (hdA (acts + (j + 1))) ∧ Beside S' W w' ∧ ∀ k ∈ S'', k ∈ S' ∨ W.heap.size ≤ k) := fun W hW => Lib.hid (by
        have hdr : R.drop j = r :: R.drop (j + 1) := by
          have := List.getElem?_eq_some_iff.1 hr
          rw [List.drop_eq_getElem_cons hjR, this.2]
        have hsumj := sum_drop x (R.map SegS.p) j
        have hrs := rise_drop HR.out j
        rw [← List.map_drop] at hsumj hrs
        have hc := removeC d S' _ (hdA (acts + j)) (nameL (x : Int) r.p.u) W (HD.out.below hW) (hdA_fits (by omega)) (by have := name_len (n := x) (u := r.p.u) (by omega); omega) (by rw [sumA_files]; omega)
        rw [files_map, hdr, List.map_cons] at hc
        rw [hdr, List.map_cons] at hrs
        refine hc.mono ?_
        rintro e w' ⟨rfl, S'', hd2, hb2, hk2⟩
        refine ⟨?_, S'', ?_, hb2, hk2⟩
        · unfold thereE
          rw [hdA_may, if_pos rfl, look_part hrs (by simp)]
          rfl
        · unfold removeF at hd2
          rw [hdA_may, if_pos rfl, drop_first x _ _ hrs, hdA_act] at hd2
          rw [files_map]
          exact hd2)
      have NAME : ∀ W, Below wr.heap.size wr W → Hid (Calls Tryz.prog 32 #[segV (x : Int) r.p.u r.A r.p.L.length r.p.L.length (r.p.z x)] W fun e w' => e = .returned (.string ⟨(nameL (x : Int) r.p.u).toArray⟩) ∧ Below W.heap.size W w') := fun W hW => Lib.hid (nameOf_any x r.p.u r.A r.p.L.length r.p.L.length (r.p.z x) W (TW.below hW) hx hru)
      unfold segV at NAME ABOVE
      have HCL := Lib.hid hcl
      have hHK := hjK
      clear hcl PART hfl hPj hgn TW hjR hr
      go_wp2_with fail
      refine ABOVE.out.mono ?_
      rintro e w1 ⟨rfl, hb1⟩
      rw [hdf]
      have HB1 := Lib.hid hb1
      have c0 : w1.cell? ⟨f, 0, none⟩ = some (.pointer (some ⟨d, 0, none⟩)) := by rw [cell_of_row w1 f _ _ _ _ (CF w1 hb1)]; rfl
      have c5' : w1.cell? ⟨f, 5, none⟩ = some (.slice (some ⟨g, 0, none⟩) n c) := by rw [cell_of_row w1 f _ _ _ _ (CF w1 hb1)]; rfl
      obtain ⟨q0, q1, q2, q3⟩ := HCL.out w1 (hb1.block g hgg.2)
      have N1 : ∀ W, Below w1.heap.size w1 W → Calls Tryz.prog 32 #[.agg #[.int .i64 (x : Int), .int .u64 (r.p.u : Int), .slice r.A r.p.L.length r.p.L.length, .int .i64 (r.p.z x : Int)]] W fun e w' => e = .returned (.string ⟨(nameL (x : Int) r.p.u).toArray⟩) ∧ Hid (Below w1.heap.size w1 w') ∧ w'.cell? ⟨f, 0, none⟩ = some (.pointer (some ⟨d, 0, none⟩)) ∧ w'.cell? ⟨f, 5, none⟩ = some (.slice (some ⟨g, 0, none⟩) n c) ∧ w'.cell? ⟨g, j * 4, none⟩ = some (.int .i64 (x : Int)) ∧ w'.cell? ⟨g, j * 4 + 1, none⟩ = some (.int .u64 (r.p.u : Int)) ∧ w'.cell? ⟨g, j * 4 + 2, none⟩ = some (.slice r.A r.p.L.length r.p.L.length) ∧ w'.cell? ⟨g, j * 4 + 3, none⟩ = some (.int .i64 (r.p.z x : Int)) := fun W hW => by
        refine (NAME W (HB1.out.trans (hW.mono HB1.out.size))).out.mono ?_
        rintro e w' ⟨rfl, hb⟩
        have hb' := hW.trans (hb.mono hW.size)
        have hbb := HB1.out.trans (hb'.mono HB1.out.size)
        exact ⟨rfl, Lib.hid hb', by rw [cell_of_row w' f _ _ _ _ (CF w' hbb)]; rfl, by rw [cell_of_row w' f _ _ _ _ (CF w' hbb)]; rfl, HCL.out w' (hbb.block g hgg.2)⟩
      have R1 : ∀ W, Below w1.heap.size w1 W → Calls Tryz.prog 46 #[.pointer (some ⟨d, 0, none⟩), .string ⟨(nameL (x : Int) r.p.u).toArray⟩] W fun e w' => e = .returned (.int .i64 0) ∧ Hid (∃ S'', Disk w' d S'' ((R.drop (j + 1)).map fun r => r.p.file x) (hdA (acts + (j + 1))) ∧ Beside S' wr w' ∧ ∀ k ∈ S'', k ∈ S' ∨ wr.heap.size ≤ k) ∧ w'.cell? ⟨f, 0, none⟩ = some (.pointer (some ⟨d, 0, none⟩)) ∧ w'.cell? ⟨f, 5, none⟩ = some (.slice (some ⟨g, 0, none⟩) n c) ∧ w'.cell? ⟨g, j * 4, none⟩ = some (.int .i64 (x : Int)) ∧ w'.cell? ⟨g, j * 4 + 1, none⟩ = some (.int .u64 (r.p.u : Int)) ∧ w'.cell? ⟨g, j * 4 + 2, none⟩ = some (.slice r.A r.p.L.length r.p.L.length) ∧ w'.cell? ⟨g, j * 4 + 3, none⟩ = some (.int .i64 (r.p.z x : Int)) := fun W hW => by
        have hbb := HB1.out.trans (hW.mono HB1.out.size)
        refine (REM W hbb).out.mono ?_
        rintro e w' ⟨rfl, S'', hD, hb, hk⟩
        have hbx := (hb.block f (by have := hbb.size; omega) hf').trans (CF W hbb)
        exact ⟨rfl, Lib.hid ⟨S'', hD, (Beside.of_below hbb S').trans hb fun k hk => .inl hk, fun k hk' => (hk k hk').imp id (fun h => Nat.le_trans hbb.size h)⟩, by rw [cell_of_row w' f _ _ _ _ hbx]; rfl, by rw [cell_of_row w' f _ _ _ _ hbx]; rfl, HCL.out w' ((hb.block g (by have := hbb.size; have := hgg.2; omega) hgg.1).trans (hbb.block g hgg.2))⟩
      clear hb1 NAME REM k0 k1 k2 k3 c5
      go_wp2_with fail
      go_region_held3 (fun w' => w'.cell? ⟨f, 0, none⟩ = some (.pointer (some ⟨d, 0, none⟩)) ∧ w'.cell? ⟨f, 5, none⟩ = some (.slice (some ⟨g, 0, none⟩) n c) ∧ w'.cell? ⟨g, j * 4, none⟩ = some (.int .i64 (x : Int)) ∧ w'.cell? ⟨g, j * 4 + 1, none⟩ = some (.int .u64 (r.p.u : Int)) ∧ w'.cell? ⟨g, j * 4 + 2, none⟩ = some (.slice r.A r.p.L.length r.p.L.length) ∧ w'.cell? ⟨g, j * 4 + 3, none⟩ = some (.int .i64 (r.p.z x : Int))) (go_keep)
        (first
          | (go_at_call 32
             refine (N1 _ ?h0).mono ?_
             case h0 => first | exact Below.refl _ _ | exact (Below.refl _ _).drew
             rintro e w6 ⟨rfl, HN1x, c0, c5', q0, q1, q2, q3⟩)
          | (go_at_call 46
             refine (R1 _ ?h1).mono ?_
             case h1 => exact HN1x.out
             rintro e w7 ⟨rfl, HN2, c0, c5', q0, q1, q2, q3⟩))
      obtain ⟨S'', hD7, hb7, hk7⟩ := HN2.out
      have HD7 := Lib.hid hD7
      have HB7 := Lib.hid hb7
      have HK7 := Lib.hid hk7
      clear hD7 hb7 hk7 c0 c5' q0 q1 q2 q3 HN2 HN1x
      have hj1000 : j ≤ 1000 := by omega
      go_wp2
      go_roundw
      case rel =>
        refine ⟨j + 1, S'', by first | rfl | simp, by omega, HD7, Lib.hid (HB.out.trans HB7.out HS.out), Lib.hid fun k hk => ?_⟩
        rcases HK7.out k hk with h | h
        · exact HS.out k h
        · exact .inr (Nat.le_trans HB.out.size h)
      case measure => simp [intOf]; omega
    · have hjk : K = j := by omega
      subst hjk
      have hKn : K ≤ n := by have := HN.out; omega
      have hcap : n ≤ c := (own_cap8 rowW).1
      have fA : f ∉ blk A := fun h => (F.aS f h).2 rfl
      have DEL : ∀ W, Below wr.heap.size wr W → Hid (Calls Tryz.prog 53 #[.slice A n c, .int .i64 0, .int .i64 (K : Int)] W fun e w' => e = .returned (.slice A (n - K) c) ∧ w'.ownsRow 0 65 4 (.slice A (n - K) c) (n - K) (rowsS x (R.drop K)) ∧ Beside (blk A) W w') := fun W hW => Lib.hid (by
        have hrW := own_kept HRW.out fun g hg => hW.block g (hg' g hg).2
        by_cases hK0 : K = 0
        · rw [hK0]
          refine (delete_zero A n c W hcap).mono ?_
          rintro e w' ⟨rfl, rfl⟩
          exact ⟨rfl, hrW, Beside.refl _ _⟩
        · have hne : R.map SegS.p ≠ [] := by
            intro h
            rw [List.map_eq_nil_iff] at h
            have := HN.out
            rw [h] at this
            simp at this
            omega
          have hKl2 := HGL.out hne
          rw [List.length_map, ← HN.out] at hKl2
          obtain ⟨g, hA, _⟩ := own_at8 hrW (by omega)
          rw [hA] at hrW ⊢
          refine (delete_pos x g n c K R 0 W hrW HN.out.symm (by omega) hKl2).mono ?_
          rintro e w' ⟨rfl, h1, h2⟩
          exact ⟨rfl, h1, h2⟩)
      have FIN : ∀ (W1 w2 : World), Below wr.heap.size wr W1 → w2.ownsRow 0 65 4 (.slice A (n - K) c) (n - K) (rowsS x (R.drop K)) → Beside (blk A) W1 w2 → ∃ S2 c', FeedAt ((w2.setCell ⟨f, 5, none⟩ (.slice A (n - K) c)).setCell ⟨f, 6, none⟩ (.int .i64 ((safe - K : Nat) : Int))) d f x sz floor time (R.drop K) (safe - K) A c' S2 (hdA (acts + K)) ∧ Beside (S ++ f :: blk A) w ((w2.setCell ⟨f, 5, none⟩ (.slice A (n - K) c)).setCell ⟨f, 6, none⟩ (.int .i64 ((safe - K : Nat) : Int))) ∧ ∀ k ∈ S2, k ∈ S ∨ w.heap.size ≤ k := by
        intro W1 w2 hW1 hown hb2
        have hb3 : Beside [f] w2 ((w2.setCell ⟨f, 5, none⟩ (.slice A (n - K) c)).setCell ⟨f, 6, none⟩ (.int .i64 ((safe - K : Nat) : Int))) := ((Beside.refl [f] w2).setCell (p := ⟨f, 5, none⟩) (by simp) _).trans ((Beside.refl [f] _).setCell (p := ⟨f, 6, none⟩) (by simp) _) fun k hk => .inl hk
        have box2 := (hb2.block f (by have := hW1.size; omega) fA).trans (CF W1 hW1)
        have box3 := heapSame (i := 6) (v := .int .i64 ((safe - K : Nat) : Int)) (heapSame (i := 5) (v := .slice A (n - K) c) box2)
        have hln : (R.drop K).length = n - K := by rw [List.length_drop, ← HN.out]
        have hB12 : Beside (blk A) wr w2 := (Beside.of_below hW1 _).trans hb2 fun k hk => .inl hk
        have hB13 : Beside (f :: blk A) wr ((w2.setCell ⟨f, 5, none⟩ (.slice A (n - K) c)).setCell ⟨f, 6, none⟩ (.int .i64 ((safe - K : Nat) : Int))) := (hB12.wider fun k hk => .inl (by simp [hk])).trans hb3 (fun k hk => by simp at hk; subst hk; exact .inl (by simp))
        have hBT : Beside (S ++ f :: blk A) w ((w2.setCell ⟨f, 5, none⟩ (.slice A (n - K) c)).setCell ⟨f, 6, none⟩ (.int .i64 ((safe - K : Nat) : Int))) := (HB.out.wider fun k hk => .inl (List.mem_append.2 (.inl hk))).trans hB13 (fun k hk => .inl (List.mem_append.2 (.inr hk)))
        refine ⟨S', c, ⟨HD.out.beside hB13 (fun k hk hm => ?_), ?_, ?_, fun r hr => ?_, hf', fun g hg => ⟨(hg' g hg).1, (F.aS g hg).2⟩, fun k hk => Nat.lt_of_lt_of_le (F.xl k hk) hBT.size⟩, hBT, HS.out⟩
        · rcases List.mem_cons.1 hk with rfl | h
          · exact hf' hm
          · exact (hg' k h).1 hm
        · rw [hln]; exact box3.trans rfl
        · rw [hln]; exact own_kept hown fun g hg => hb3.block g (own_blk hown g hg).2 (fun h => by simp at h; subst h; exact fA hg)
        · exact (F.evs r (List.mem_of_mem_drop hr)).next (B' := S' ++ bx f A) (hBT.wider fun k hk => .inl (bx_in hk)) (fun k hk => by
            rcases List.mem_append.1 hk with hk | hk
            · exact (HS.out k hk).imp (fun h => List.mem_append.2 (.inl h)) id
            · exact .inl (List.mem_append.2 (.inr hk)))
      have hw1 : IntKind.i64.wrap ((safe : Int) - (K : Int)) = (safe : Int) - (K : Int) := by rw [IntKind.wrap_i64]; omega
      have hmx : max (0 : Int) ((safe : Int) - (K : Int)) = ((safe - K : Nat) : Int) := by omega
      obtain ⟨s', hs'⟩ : ∃ s', s' = safe - K := ⟨_, rfl⟩
      rw [← hs'] at hmx FIN
      have HS' := Lib.hid hs'
      clear hs'
      by_cases hKn1 : K + 1 < n
      · have hjR : K < R.length := by have := HN.out; omega
        obtain ⟨r, hr⟩ : ∃ r, R[K]? = some r := ⟨_, List.getElem?_eq_getElem hjR⟩
        obtain ⟨g, hA, hcl⟩ := PART r hr
        obtain ⟨AA, hAA⟩ : ∃ AA, AA = A := ⟨_, rfl⟩
        rw [hA] at hAA
        obtain ⟨k0, k1, k2, k3⟩ := hcl wr rfl
        have hPj : (R.map SegS.p)[K]? = some r.p := by rw [List.getElem?_map, hr]; rfl
        have hfl := HGO.out r.p (by rw [List.length_map]; have := HN.out; omega) hPj
        obtain ⟨hl0, hl1⟩ := HL.out r (List.mem_of_getElem? hr)
        have hc1 : (K : Int) < (n : Int) - 1 := by omega
        have hjn : K < n := by omega
        have hdf : decide (floor < r.p.u + r.p.L.length - 1) = true := by simp; omega
        have ABOVE := Lib.hid (above_any f floor x r.p.u r.A r.p.L.length (r.p.z x) wr (fun W hW => by rw [cell_of_row W f _ _ _ _ (CF W hW)]; rfl) hl0 (by omega))
        unfold segV at ABOVE
        clear hcl PART hfl hPj hr hjR
        subst hA
        clear hAA AA
        have c5 : wr.cell? ⟨f, 5, none⟩ = some (.slice (some ⟨g, 0, none⟩) n c) := by rw [cell_of_row wr f _ _ _ _ boxW]; rfl
        go_wp2_with fail
        refine ABOVE.out.mono ?_
        rintro e w1 ⟨rfl, hb1⟩
        rw [hdf]
        have HBW1 := Lib.hid hb1
        have c5' : w1.cell? ⟨f, 5, none⟩ = some (.slice (some ⟨g, 0, none⟩) n c) := by rw [cell_of_row w1 f _ _ _ _ (CF w1 hb1)]; rfl
        clear hb1 c5 k0 k1 k2 k3
        go_wp2_with fail
        refine (DEL _ HBW1.out).out.mono ?_
        rintro e w2 ⟨rfl, hown2, hb2⟩
        have box2 := (hb2.block f (by have := HBW1.out.size; omega) fA).trans (CF _ HBW1.out)
        have hb6 : w2.cell? ⟨f, 6, none⟩ = some (.int .i64 (safe : Int)) := by rw [cell_of_row w2 f _ _ _ _ box2]; rfl
        have hb5 : w2.cell? ⟨f, 5, none⟩ = some (.slice (some ⟨g, 0, none⟩) n c) := by rw [cell_of_row w2 f _ _ _ _ box2]; rfl
        have y5 : w2.frozen? ⟨f, 5, none⟩ = false := frozen_row0 box2
        have y6 : w2.frozen? ⟨f, 6, none⟩ = false := frozen_row0 box2
        have FN := Lib.hid (FIN _ w2 HBW1.out hown2 hb2)
        clear hown2 hb2 box2
        go_wp2
        go_ret
        rw [← HS'.out]
        exact ⟨rfl, FN.out⟩
      · have hc1 : ¬ (K : Int) < (n : Int) - 1 := by omega
        have HBW1 := Lib.hid (Below.refl wr.heap.size wr)
        clear PART
        go_wp2_with fail
        refine (DEL _ HBW1.out).out.mono ?_
        rintro e w2 ⟨rfl, hown2, hb2⟩
        have box2 := (hb2.block f (by have := HBW1.out.size; omega) fA).trans (CF _ HBW1.out)
        have hb6 : w2.cell? ⟨f, 6, none⟩ = some (.int .i64 (safe : Int)) := by rw [cell_of_row w2 f _ _ _ _ box2]; rfl
        have hb5 : w2.cell? ⟨f, 5, none⟩ = some (.slice A n c) := by rw [cell_of_row w2 f _ _ _ _ box2]; rfl
        have y5 : w2.frozen? ⟨f, 5, none⟩ = false := frozen_row0 box2
        have y6 : w2.frozen? ⟨f, 6, none⟩ = false := frozen_row0 box2
        have FN := Lib.hid (FIN _ w2 HBW1.out hown2 hb2)
        clear hown2 hb2 box2
        go_wp2
        go_ret
        rw [← HS'.out]
        exact ⟨rfl, FN.out⟩
end Go.Proofs.YtkphklmgbdljiaaGreatDoor.Fd
