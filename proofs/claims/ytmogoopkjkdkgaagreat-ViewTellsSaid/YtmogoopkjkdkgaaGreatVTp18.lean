/- Order: the document's lists of events by writers: Feeds. Order: the law OrderCounts. Order: the document's lists are good ones; no two of their events stand at one place. Layer 15: the law's events, in the order of all: each is taken. -/
import Derived.Deep.Cut
import Derived.Deep.CutRange
import Derived.StillTailTactics
import Derived.Deep.RegionHeld
import Derived.Deep.RegionLaw
import Derived.Deep.AppendLies
import Derived.Test.YtmogoopkjkdkgaaGreatVTp05
import Derived.Test.YtmogoopkjkdkgaaGreatVTp15
import Derived.Test.YtmogoopkjkdkgaaGreatVTp16
import Derived.Test.YtmogoopkjkdkgaaGreatVTp17
namespace Go.Proofs.YtmogoopkjkdkgaaGreat.Ord
open Go Go.RowKit Go.Proofs.YtmogoopkjkdkgaaGreat.Words Go.Proofs.YtmogoopkjkdkgaaGreat.Enc Go.Proofs.YtmogoopkjkdkgaaGreat.Evt Go.Proofs.YtmogoopkjkdkgaaGreat.Seg
set_option linter.unusedVariables false
set_option linter.unusedSimpArgs false

set_option maxRecDepth 100000 in
set_option maxHeartbeats 8000000 in
theorem feeds_any (A : Option Addr) (n c wn : Nat) (l : List Nat) (w : World) (h : SeesH w A n l) (hn : n ≤ 60) (hw0 : 1 ≤ wn) (hw : wn ≤ 6) :
    Calls Tryz.prog 7 #[.slice A n c, .int .i64 (wn : Int)] w fun e w' => ∃ L T, e = .returned (.slice (some ⟨w.heap.size, 0, none⟩) wn wn) ∧ FeedsAt w.heap.size w.heap.size (w.heap.size + 1) wn w n (4 * n) L T w' := by
  have hsf := store_float Tryz.prog
  have M1 := make_ll w wn (by omega)
  have M2 := make_us (w.alloc (.cells ((List.replicate wn (⟨none, 0, []⟩ : HV)).map HV.val).toArray 24)) wn (by omega)
  rw [World.size_alloc] at M2
  have F0 := feeds_start w wn
  obtain ⟨u0, hu0⟩ : ∃ u, u = w.alloc (.cells ((List.replicate wn (⟨none, 0, []⟩ : HV)).map HV.val).toArray 24) := ⟨_, rfl⟩
  rw [← hu0] at M1 M2 F0
  obtain ⟨u, hu⟩ : ∃ u, u = u0.alloc (.cells (u64s (List.replicate wn 0)).toArray 28) := ⟨_, rfl⟩
  rw [← hu] at M2 F0
  have HF0 := Lib.hid F0
  have HH := Lib.hid h
  clear F0 hu hu0 h
  have hwz : ¬ (wn : Int) = 0 := by omega
  have hwz2 : ((wn : Int) == 0) = false := by rw [beq_eq_false_iff_ne]; omega
  generalize hB : w.heap.size = B at *
  have HB := Lib.hid hB
  clear hB
  go_enter Tryz.func7, Tryz.ntmps7
  go_wp2_with fail
  go_loopw [7] (fun iv W => ∃ (i : Nat) (L : List HV) (T : List Nat), iv = .int .i64 (i : Int) ∧ i ≤ n ∧ Hid (FeedsAt B B (B + 1) wn w i (4 * i) L T W)) (fun iv _ => n - (intOf iv).toNat)
  case atStart => exact ⟨0, _, _, rfl, Nat.zero_le _, HF0⟩
  case round =>
    obtain ⟨i, L, T, rfl, hi, HR⟩ := hrel
    by_cases hlt : i < n
    · have hil : i < l.length := by rw [HH.out.len]; exact hlt
      obtain ⟨hb, ho, rfl, hcell⟩ := (HH.out.below (HR.out.below.mono (by have := HB.out; omega))).row (by omega)
      have hx := hcell i l[i] (List.getElem?_eq_getElem hil)
      have hxf := HH.out.few _ (List.getElem_mem hil)
      generalize l[i] = x at hx hxf
      have zi : (i : Int) < (n : Int) := by omega
      have zi0 : (0 : Int) ≤ (i : Int) := by omega
      have zi60 : (i : Int) < 60 := by omega
      clear hcell hil
      have hwk : x % wn < wn := Nat.mod_lt _ (by omega)
      obtain ⟨wk, hwke⟩ : ∃ wk, wk = x % wn := ⟨_, rfl⟩
      have hrm : (x : Int) % (wn : Int) = (wk : Int) := by rw [hwke]; simp
      rw [← hwke] at hwk
      have hT := HR.out.lenT
      have hL := HR.out.lenL
      have clb := cell_of_row wr (B + 1) wk _ _ _ HR.out.last
      have fz := frozen_row0 (i := wk) HR.out.last
      obtain ⟨t, ht⟩ : ∃ t, T[wk]? = some t := ⟨_, List.getElem?_eq_getElem (by omega)⟩
      have clb2 : wr.cell? ⟨B + 1, wk, none⟩ = some (.int .u64 (t : Int)) := by
        rw [clb, List.getElem?_toArray]; unfold u64s; rw [List.getElem?_map, ht]; rfl
      have htb := HR.out.time t (List.mem_of_getElem? ht)
      have zwk : (wk : Int) < (wn : Int) := by omega
      have zwk0 : (0 : Int) ≤ (wk : Int) := by omega
      have zt : (t : Int) ≤ 240 := by omega
      have zx : (x : Int) < 65536 := by omega
      have HWK := Lib.hid hwke
      clear hwke clb hT hL
      go_upto_region 7 with fail
      go_still_tail 14, (by kernel_rfl)
      change wpList _ _ _ _ _ wr.drew
      go_upto_region 8 with fail
      have htn : (t : Int) + (1 + (x : Int) / 16 % 4) = ((t + (1 + x / 16 % 4) : Nat) : Int) := by omega
      rw [htn]
      obtain ⟨tn, htne⟩ : ∃ tn, tn = t + (1 + x / 16 % 4) := ⟨_, rfl⟩
      rw [← htne]
      have FT := HR.out.tick (k := wk) (t' := tn) (by omega) (fun _ x a hxL ha => (HR.out.far hxL ha).1) ht (by omega) (4 * (i + 1)) (by omega) (by omega)
      have hcu : ((wr.setCell ⟨B + 1, wk, none⟩ (.int .u64 (tn : Int))).drew).cell? ⟨hb, ho + i, none⟩ = some (.int .u16 (x : Int)) := by
        have hbB : hb < B := by
          obtain ⟨b', o', e, q⟩ := HH.out.row (by omega)
          cases e
          have := World.block_lt_of_cell? _ _ (q 0 _ (List.getElem?_eq_getElem (by rw [HH.out.len]; omega)))
          rw [← HB.out]; exact this
        rw [(((Below.refl B wr).setCell (p := ⟨B + 1, wk, none⟩) (by simp) _).drew).cell hbB]
        exact hx
      obtain ⟨W1, hW1⟩ : ∃ W1, W1 = (wr.setCell ⟨B + 1, wk, none⟩ (.int .u64 (tn : Int))).drew := ⟨_, rfl⟩
      rw [← hW1] at FT hcu ⊢
      obtain ⟨hv, hhv⟩ : ∃ hv, L[wk]? = some hv := ⟨_, List.getElem?_eq_getElem (by rw [HR.out.lenL]; exact hwk)⟩
      have hco : W1.cell? ⟨B, wk, none⟩ = some hv.val := by
        rw [cell_of_row W1 B wk _ _ _ FT.out, List.getElem?_toArray, List.getElem?_map, hhv]; rfl
      have hcl : W1.cell? ⟨B + 1, wk, none⟩ = some (.int .u64 (tn : Int)) := by
        rw [cell_of_row W1 (B + 1) wk _ _ _ FT.last, List.getElem?_toArray]
        unfold u64s
        rw [List.getElem?_map, List.getElem?_set_self (by rw [HR.out.lenT]; exact hwk)]; rfl
      have hsl : hv.S.length ≤ i := by
        rw [← HR.out.few]
        unfold flat
        exact Nat.le_trans (Nat.le_refl _) (by
          have : hv ∈ L := List.mem_of_getElem? hhv
          obtain ⟨s, t, e⟩ := List.append_of_mem this
          rw [e, List.flatMap_append, List.length_append, List.flatMap_cons, List.length_append]
          omega)
      unfold HV.val at hco
      obtain ⟨sl, hsle⟩ : ∃ sl, sl = hv.S.length := ⟨_, rfl⟩
      rw [← hsle] at hco hsl
      obtain ⟨xa, hxa⟩ : ∃ xa, xa = hv.A := ⟨_, rfl⟩
      obtain ⟨xc, hxc⟩ : ∃ xc, xc = hv.c := ⟨_, rfl⟩
      rw [← hxa, ← hxc] at hco
      have HFT := Lib.hid (And.intro FT (And.intro htne (And.intro hsle (And.intro hxa (And.intro hxc (And.intro hhv ht))))))
      have HWR := Lib.hid (And.intro hW1 htb)
      have hxn : x < 65536 := by omega
      have hk1 := fun W => key_run12 W x hxn
      have hk3 := fun o => key_run13 W1 x hxn o
      unfold keyV at hk1 hk3
      clear FT htne hsle hxa hxc hhv ht hW1 htn htb clb2 fz hx
      have hal : ∀ (a : Addr) (v : Value) (o : Obj), W1.cell? a = some v → (W1.alloc o).cell? a = some v := fun a v o hc => by
        rw [((Below.refl W1.heap.size W1).alloc (Nat.le_refl _) o).cell (World.block_lt_of_cell? _ _ hc)]; exact hc
      have hal2 : ∀ (a : Addr) (v : Value) (o o' : Obj), W1.cell? a = some v → ((W1.alloc o).alloc o').cell? a = some v := fun a v o o' hc => by
        rw [(((Below.refl W1.heap.size W1).alloc (Nat.le_refl _) o).alloc (by simp) o').cell (World.block_lt_of_cell? _ _ hc)]; exact hc
      have hcu1 := fun o => hal _ _ o hcu
      have hco1 := fun o => hal _ _ o hco
      have hcl1 := fun o => hal _ _ o hcl
      have hcu2 := fun o o' => hal2 _ _ o o' hcu
      have hco2 := fun o o' => hal2 _ _ o o' hco
      have hcl2 := fun o o' => hal2 _ _ o o' hcl
      have hkd : ∀ o : Obj, (W1.alloc o).heap.size = W1.heap.size + 1 := fun o => World.size_alloc _ _
      have hk2 := fun o => hk1 (W1.alloc o)
      have hk0 := hk1 W1
      simp only [hkd] at hk2
      clear hal hal2 hk1 hkd
      go_cut [9] from 45 to 75 (fun s9 wx => ∃ (b9 kd : Nat) (key : ByteArray), s9 = .pointer (some ⟨b9, 0, none⟩) ∧ 1 ≤ kd ∧ kd ≤ 4 ∧ Hid (key.size = 1 ∧ Below W1.heap.size W1 wx ∧ W1.heap.size ≤ b9 ∧ wx.heap[b9]? = some (.cells #[.int .i64 (wk : Int), .int .u64 ((sl + 1 : Nat) : Int), .int .u64 (tn : Int), .int .u8 (kd : Int), .string key, .slice none 0 0, .float .f64 0, .int .i64 0] 32 (0, 0))))
      case first =>
        obtain ⟨kd, hkd1, hkd4, hkde⟩ := kindV_eq x hxn
        have hsq := seqV_eq sl (by omega)
        have HKD := Lib.hid (And.intro hkde hsq)
        clear hkde hsq
        go_region_held (fun w' => w'.cell? ⟨hb, ho + i, none⟩ = some (.int .u16 (x : Int)) ∧ w'.cell? ⟨B, wk, none⟩ = some (.slice xa sl xc) ∧ w'.cell? ⟨B + 1, wk, none⟩ = some (.int .u64 (tn : Int))) (go_keep) (fail)
        all_goals (first | go_meet | (go_wp2_with fail; go_meet))
        all_goals
          refine ⟨_, kd, (⟨#[97 + UInt8.ofNat (x / 256 % 4)]⟩ : ByteArray), rfl, hkd1, hkd4, Lib.hid ⟨rfl, ?_, ?_, ?_⟩⟩
        all_goals first
          | exact (((Below.refl W1.heap.size W1).alloc (Nat.le_refl _) _).alloc (by simp) _).drew
          | exact Nat.le_refl W1.heap.size
          | exact Nat.le_succ W1.heap.size
          | (rw [← HKD.out.1, ← HKD.out.2]; exact (Below.heap_alloc _ _ _ (by simp)).trans (heap_alloc_new W1 _))
          | (rw [← HKD.out.1, ← HKD.out.2, ← World.size_alloc W1 (.cells #[.int .u8 (IntKind.u8.wrap (97 + (IntKind.u8.wrap (IntKind.u16.wrap ((x : Int) / 256))).tmod 4))] 5)]; exact heap_alloc_new _ _)
      case rest =>
        obtain ⟨wz, rfl⟩ : ∃ wz : World, wz = wc := ⟨_, rfl⟩
        obtain ⟨b9, kd, key, rfl, hkd1, hkd4, HC⟩ := hcut
        obtain ⟨hkey, hbw, hb9, hrow⟩ := HC.out
        obtain ⟨m0, m1, m2, m3, m4, m5, m6, m7⟩ := box8 hrow
        have hf5 : wz.frozen? ⟨b9, 5, none⟩ = false := frozen_row0 hrow
        have hf6 : wz.frozen? ⟨b9, 6, none⟩ = false := frozen_row0 hrow
        have HKY := Lib.hid (And.intro hkey (And.intro hbw (And.intro hb9 hrow)))
        obtain ⟨ie, hie, hze, hsze, hbye⟩ := info_parts infoEv
        obtain ⟨qf, hqf2, hqf⟩ := quo4_run i (by omega)
        have HQF := Lib.hid hqf2
        clear hqf2
        have hBW : B ≤ W1.heap.size := by have := (Array.getElem?_eq_some_iff.1 HFT.out.1.out).1; omega
        have HBW := Lib.hid hBW
        have hnew9 : b9 ≠ B ∧ b9 ≠ B + 1 := by
          have h1 := (Array.getElem?_eq_some_iff.1 HFT.out.1.out).1
          have h2 := (Array.getElem?_eq_some_iff.1 HFT.out.1.last).1
          omega
        have FINAL : ∀ (Wy : World) (e9 : EvS), (e9.e.writer = wk ∧ e9.e.time = tn ∧ 1 ≤ tn ∧ e9.e.seq = sl + 1 ∧ sl + 1 ≤ 60 ∧ 1 ≤ e9.e.kind ∧ e9.e.kind ≤ 4 ∧ e9.e.key.size = 1 ∧ (e9.e.kind ≠ 1 → e9.e.text = []) ∧ e9.e.node = 0 ∧ e9.e.num < 18446744073709551616) → Below W1.heap.size W1 Wy → TextBox B Wy e9 →
            Wy.cell? ⟨B, wk, none⟩ = some (.slice xa sl xc) ∧ ∀ (W w10 : World) (g' cap' : Nat), Below Wy.heap.size Wy W → w10.ownsRow B 32 8 (.slice (some ⟨g', 0, none⟩) (sl + 1) cap') (sl + 1) (rowsL hv.S ++ e9.cells) → W.grownBy w10 (Value.slice xa sl xc).ownBlock → ((Value.slice xa sl xc).ownBlock = some g' ∨ Wy.heap.size ≤ g') →
              w10.cell? ⟨B, wk, none⟩ = some (.slice xa sl xc) ∧ w10.frozen? ⟨B, wk, none⟩ = false ∧ Hid (FeedsAt B B (B + 1) wn w (i + 1) (4 * (i + 1)) (L.set wk ⟨some ⟨g', 0, none⟩, cap', hv.S ++ [e9]⟩) (T.set wk tn) (w10.setCell ⟨B, wk, none⟩ (.slice (some ⟨g', 0, none⟩) (sl + 1) cap'))) := fun Wy e9 hf hWy htx => by
          obtain ⟨FT, htne, hsle, hxa, hxc, hhv, ht⟩ := HFT.out
          have hcell : ∀ W2 : World, W2.heap[B]? = some (.cells (L.map HV.val).toArray 24 (0, 0)) → W2.cell? ⟨B, wk, none⟩ = some (.slice xa sl xc) := fun W2 h2 => by
            rw [cell_of_row W2 B wk _ _ _ h2, List.getElem?_toArray, List.getElem?_map, hhv, hxa, hsle, hxc]; rfl
          have hTt : (T.set wk tn)[wk]? = some tn := List.getElem?_set_self (by rw [HR.out.lenT]; exact hwk)
          refine ⟨hcell Wy ((hWy.block B (Array.getElem?_eq_some_iff.1 FT.out).1).trans FT.out), fun W w10 g' cap' hW hown hg hat => ?_⟩
          have hWW := hWy.trans (hW.mono hWy.size)
          have hol : ∀ e' ∈ hv.S, e'.e.time < tn := fun e' he' => by
            have := ((HR.out.good wk t hv hhv ht).each e' he').2.2.1
            omega
          rw [hxa, hxc, hsle] at hg hat
          rw [hsle] at hown hf
          obtain ⟨q1, q2⟩ := FT.put (by omega) hhv hTt e9 hWW (htx.below hW) hf hol hown hg (hat.imp_right fun h => Nat.le_trans hWy.size h)
          rw [← hsle] at q2
          exact ⟨hcell w10 q1, frozen_row0 q1, Lib.hid q2⟩
        have hrw : W1.ownsRow B 32 8 (.slice xa sl xc) sl (rowsL hv.S) := by
          obtain ⟨FT, htne, hsle, hxa, hxc, hhv, ht⟩ := HFT.out
          rw [hxa, hxc, hsle]
          exact FT.own hv (List.mem_of_getElem? hhv)
        obtain ⟨xs, hxs⟩ : ∃ xs, xs = rowsL hv.S := ⟨_, rfl⟩
        rw [← hxs] at hrw FINAL
        have HROW := Lib.hid hrw
        have htn1 : 1 ≤ tn := by have := HFT.out.2.1; omega
        have hmx : sl + 1 ≤ maxLen := by unfold maxLen; omega
        have hn2 : (sl + 1) * 88 ≤ 140737488355328 := by omega
        clear hbw hb9 hrow hkey hcu hco hcl hcu1 hco1 hcl1 hcu2 hco2 hcl2 hk2 hk0 hk3 HC hxs hrw
        by_cases k1 : kd = 1
        · subst k1
          replace m3 : wz.cell? ⟨b9, 3, none⟩ = some (.int .u8 (1 : Int)) := m3
          clear hqf hkd1 hkd4
          have ha5 : ∀ o : Obj, (wz.alloc o).cell? ⟨b9, 5, none⟩ = some (.slice none 0 0) := fun o => by rw [((Below.refl wz.heap.size wz).alloc (Nat.le_refl _) o).cell (World.block_lt_of_cell? _ _ m5)]; exact m5
          have ha3 : ∀ o : Obj, (wz.alloc o).cell? ⟨b9, 3, none⟩ = some (.int .u8 (1 : Int)) := fun o => by rw [((Below.refl wz.heap.size wz).alloc (Nat.le_refl _) o).cell (World.block_lt_of_cell? _ _ m3)]; exact m3
          have hz5 : ∀ o : Obj, (wz.alloc o).frozen? ⟨b9, 5, none⟩ = false := fun o => frozen_row0 ((Below.heap_alloc _ _ _ (World.block_lt_of_cell? _ _ m5)).trans HKY.out.2.2.2)
          have hw8 : IntKind.u8.wrap (i : Int) = (i : Int) := by simp [IntKind.wrap, IntKind.bits, IntKind.signed]; omega
          have htb9 : TextBox B ((wz.alloc (.cells #[.int .u8 (i : Int)] 5)).setCell ⟨b9, 5, none⟩ (.slice (some ⟨wz.heap.size, 0, none⟩) 1 1)) (⟨⟨(wk : Int), sl + 1, tn, 1, key, [UInt8.ofNat i], 0, 0⟩, some ⟨wz.heap.size, 0, none⟩, 1, 1⟩ : EvS) := by
            have hlt9 := World.block_lt_of_cell? _ _ m5
            have hu : (UInt8.ofNat i).toNat = i := by rw [UInt8.toNat_ofNat']; omega
            refine .inr ⟨wz.heap.size, UInt8.ofNat i, rfl, rfl, rfl, rfl, ?_, Nat.le_trans HBW.out HKY.out.2.1.size⟩
            rw [heapOther (show wz.heap.size ≠ b9 by simp at hlt9; omega), hu]
            exact heap_alloc_new wz _
          have HTB := Lib.hid htb9
          clear htb9
          go_upto_region 13 with fail
          clear ha5 ha3 hz5 hw8
          obtain ⟨Wy, hWy⟩ : ∃ Wy, Wy = (wz.alloc (.cells #[.int .u8 (i : Int)] 5)).setCell ⟨b9, 5, none⟩ (.slice (some ⟨wz.heap.size, 0, none⟩) 1 1) := ⟨_, rfl⟩
          have hyb : Below W1.heap.size W1 Wy := by rw [hWy]; exact (HKY.out.2.1.alloc HKY.out.2.1.size _).setCell (p := ⟨b9, 5, none⟩) HKY.out.2.2.1 _
          have hyr : Wy.heap[b9]? = some (.cells #[.int .i64 (wk : Int), .int .u64 ((sl + 1 : Nat) : Int), .int .u64 (tn : Int), .int .u8 (1 : Int), .string key, .slice (some ⟨wz.heap.size, 0, none⟩) 1 1, .float .f64 0, .int .i64 0] 32 (0, 0)) := by rw [hWy, heapSame ((Below.heap_alloc _ _ _ (World.block_lt_of_cell? _ _ m5)).trans HKY.out.2.2.2)]; rfl
          have htx : TextBox B Wy (⟨⟨(wk : Int), sl + 1, tn, 1, key, [UInt8.ofNat i], 0, 0⟩, some ⟨wz.heap.size, 0, none⟩, 1, 1⟩ : EvS) := by rw [hWy]; exact HTB.out
          rw [← hWy]
          clear hWy hf5 hf6 m0 m1 m2 m3 m4 m5 m6 m7
          obtain ⟨cobW, hFIN⟩ := FINAL Wy (⟨⟨(wk : Int), sl + 1, tn, 1, key, [UInt8.ofNat i], 0, 0⟩, some ⟨wz.heap.size, 0, none⟩, 1, 1⟩ : EvS) ⟨rfl, rfl, by omega, rfl, by show sl + 1 ≤ 60; omega, by show 1 ≤ 1; omega, by show 1 ≤ 4; omega, HKY.out.1, fun h => absurd rfl h, rfl, by show 0 < 18446744073709551616; omega⟩ hyb htx
          obtain ⟨m0, m1, m2, m3, m4, m5, m6, m7⟩ := box8 hyr
          have HFIN := Lib.hid hFIN
          have h2 : ∀ o : Obj, (Wy.alloc o).cell? ⟨B, wk, none⟩ = some (.slice xa sl xc) := fun o => by rw [((Below.refl Wy.heap.size Wy).alloc (Nat.le_refl _) o).cell (World.block_lt_of_cell? _ _ cobW)]; exact cobW
          have ROW : ∀ W, Below Wy.heap.size Wy W → W.ownsRow B 32 8 (.slice xa sl xc) sl xs := fun W hW => own_below8 (own_below8 HROW.out hyb (Nat.le_refl _)) hW (Nat.le_refl _)
          have hBy : B ≤ Wy.heap.size := Nat.le_trans HBW.out hyb.size
          clear hyb hyr htx hFIN
          go_region_law
            (first
             | (refine step_append_lies _ rfl (.tmp 100) (.tmp 102) 24 rfl B 32 ie zeroEV 8 88 Tryz.underlying24 hie hze hsze hbye rfl (by decide) (.slice xa sl xc) sl xs (by simp [Act.eval, Act.put]) (ROW _ (by first | exact (Below.refl _ _).alloc (Nat.le_refl _) _ | exact (Below.refl _ _).drew.alloc (Nat.le_refl _) _ | exact ((Below.refl _ _).alloc (Nat.le_refl _) _).drew)) ⟨Wy.heap.size, 0, none⟩ 1 1 (#[.int .i64 (wk : Int), .int .u64 ((sl + 1 : Nat) : Int), .int .u64 (tn : Int), .int .u8 (1 : Int), .string key, .slice (some ⟨wz.heap.size, 0, none⟩) 1 1, .float .f64 0, .int .i64 0] : Array Value).toList (by simp [Act.eval, Act.put]) rfl (World.news_of_block (by first | exact heap_alloc_new _ _ | exact heap_alloc_new Wy _)) (by simp [Value.oneCell']) (by decide) hmx hn2 (by simp; omega) _ rfl ?_
                intro g' cap' w10 hown10 hgrow hat hlt10
                obtain ⟨c5x, y5x, FN⟩ := HFIN.out _ w10 g' cap' (by first | exact (Below.refl _ _).alloc (Nat.le_refl _) _ | exact (Below.refl _ _).drew.alloc (Nat.le_refl _) _ | exact ((Below.refl _ _).alloc (Nat.le_refl _) _).drew) hown10 hgrow (hat.imp_right fun e => by rw [e]; simp)
                clear hown10 hgrow hat hlt10))
          all_goals go_wp2
          all_goals go_roundw
          all_goals first | exact ⟨i + 1, _, _, rfl, by omega, FN⟩ | exact ⟨⟨i + 1, _, _, rfl, by omega, FN⟩, by simp only [intOf]; omega⟩ | (simp only [intOf]; omega)

        · have k1' : ((kd : Int) == 1) = false := by rw [beq_eq_false_iff_ne]; omega
          by_cases k4 : kd = 4
          · subst k4
            go_upto_region 13 with fail
            obtain ⟨Wy, hWy⟩ : ∃ Wy, Wy = wz := ⟨_, rfl⟩
            have hyb : Below W1.heap.size W1 Wy := by rw [hWy]; exact HKY.out.2.1
            have hyr : Wy.heap[b9]? = some (.cells #[.int .i64 (wk : Int), .int .u64 ((sl + 1 : Nat) : Int), .int .u64 (tn : Int), .int .u8 (4 : Int), .string key, .slice none 0 0, .float .f64 0, .int .i64 0] 32 (0, 0)) := by rw [hWy]; exact HKY.out.2.2.2
            have htx : TextBox B Wy (⟨⟨(wk : Int), sl + 1, tn, 4, key, [], 0, 0⟩, none, 0, 0⟩ : EvS) := by rw [hWy]; exact .inl ⟨rfl, rfl, rfl, rfl⟩
            rw [← hWy]
            clear hWy hf5 hf6 m0 m1 m2 m3 m4 m5 m6 m7
            obtain ⟨cobW, hFIN⟩ := FINAL Wy (⟨⟨(wk : Int), sl + 1, tn, 4, key, [], 0, 0⟩, none, 0, 0⟩ : EvS) ⟨rfl, rfl, by omega, rfl, by show sl + 1 ≤ 60; omega, by show 1 ≤ 4; omega, by show 4 ≤ 4; omega, HKY.out.1, fun _ => rfl, rfl, by show 0 < 18446744073709551616; omega⟩ hyb htx
            obtain ⟨m0, m1, m2, m3, m4, m5, m6, m7⟩ := box8 hyr
            have HFIN := Lib.hid hFIN
            have h2 : ∀ o : Obj, (Wy.alloc o).cell? ⟨B, wk, none⟩ = some (.slice xa sl xc) := fun o => by rw [((Below.refl Wy.heap.size Wy).alloc (Nat.le_refl _) o).cell (World.block_lt_of_cell? _ _ cobW)]; exact cobW
            have ROW : ∀ W, Below Wy.heap.size Wy W → W.ownsRow B 32 8 (.slice xa sl xc) sl xs := fun W hW => own_below8 (own_below8 HROW.out hyb (Nat.le_refl _)) hW (Nat.le_refl _)
            have hBy : B ≤ Wy.heap.size := Nat.le_trans HBW.out hyb.size
            clear hyb hyr htx hFIN
            go_region_law
              (first
               | (refine step_append_lies _ rfl (.tmp 100) (.tmp 102) 24 rfl B 32 ie zeroEV 8 88 Tryz.underlying24 hie hze hsze hbye rfl (by decide) (.slice xa sl xc) sl xs (by simp [Act.eval, Act.put]) (ROW _ (by first | exact (Below.refl _ _).alloc (Nat.le_refl _) _ | exact (Below.refl _ _).drew.alloc (Nat.le_refl _) _ | exact ((Below.refl _ _).alloc (Nat.le_refl _) _).drew)) ⟨Wy.heap.size, 0, none⟩ 1 1 (#[.int .i64 (wk : Int), .int .u64 ((sl + 1 : Nat) : Int), .int .u64 (tn : Int), .int .u8 (4 : Int), .string key, .slice none 0 0, .float .f64 0, .int .i64 0] : Array Value).toList (by simp [Act.eval, Act.put]) rfl (World.news_of_block (by first | exact heap_alloc_new _ _ | exact heap_alloc_new Wy _)) (by simp [Value.oneCell']) (by decide) hmx hn2 (by simp; omega) _ rfl ?_
                  intro g' cap' w10 hown10 hgrow hat hlt10
                  obtain ⟨c5x, y5x, FN⟩ := HFIN.out _ w10 g' cap' (by first | exact (Below.refl _ _).alloc (Nat.le_refl _) _ | exact (Below.refl _ _).drew.alloc (Nat.le_refl _) _ | exact ((Below.refl _ _).alloc (Nat.le_refl _) _).drew) hown10 hgrow (hat.imp_right fun e => by rw [e]; simp)
                  clear hown10 hgrow hat hlt10))
            all_goals go_wp2
            all_goals go_roundw
            all_goals first | exact ⟨i + 1, _, _, rfl, by omega, FN⟩ | exact ⟨⟨i + 1, _, _, rfl, by omega, FN⟩, by simp only [intOf]; omega⟩ | (simp only [intOf]; omega)

          · by_cases k2 : kd = 2
            · subst k2
              replace m3 : wz.cell? ⟨b9, 3, none⟩ = some (.int .u8 (2 : Int)) := m3
              clear hkd1 hkd4 k1 k4 k1'
              go_upto_region 13 with fail
              obtain ⟨Wy, hWy⟩ : ∃ Wy, Wy = wz.setCell ⟨b9, 6, none⟩ (.float .f64 qf) := ⟨_, rfl⟩
              have hyb : Below W1.heap.size W1 Wy := by rw [hWy]; exact HKY.out.2.1.setCell (p := ⟨b9, 6, none⟩) HKY.out.2.2.1 _
              have hyr : Wy.heap[b9]? = some (.cells #[.int .i64 (wk : Int), .int .u64 ((sl + 1 : Nat) : Int), .int .u64 (tn : Int), .int .u8 (2 : Int), .string key, .slice none 0 0, .float .f64 qf, .int .i64 0] 32 (0, 0)) := by rw [hWy]; rw [heapSame HKY.out.2.2.2]; rfl
              have htx : TextBox B Wy (⟨⟨(wk : Int), sl + 1, tn, 2, key, [], qf, 0⟩, none, 0, 0⟩ : EvS) := by rw [hWy]; exact .inl ⟨rfl, rfl, rfl, rfl⟩
              rw [← hWy]
              clear hWy hf5 hf6 m0 m1 m2 m3 m4 m5 m6 m7
              obtain ⟨cobW, hFIN⟩ := FINAL Wy (⟨⟨(wk : Int), sl + 1, tn, 2, key, [], qf, 0⟩, none, 0, 0⟩ : EvS) ⟨rfl, rfl, by omega, rfl, by show sl + 1 ≤ 60; omega, by show 1 ≤ 2; omega, by show 2 ≤ 4; omega, HKY.out.1, fun _ => rfl, rfl, HQF.out⟩ hyb htx
              obtain ⟨m0, m1, m2, m3, m4, m5, m6, m7⟩ := box8 hyr
              have HFIN := Lib.hid hFIN
              have h2 : ∀ o : Obj, (Wy.alloc o).cell? ⟨B, wk, none⟩ = some (.slice xa sl xc) := fun o => by rw [((Below.refl Wy.heap.size Wy).alloc (Nat.le_refl _) o).cell (World.block_lt_of_cell? _ _ cobW)]; exact cobW
              have ROW : ∀ W, Below Wy.heap.size Wy W → W.ownsRow B 32 8 (.slice xa sl xc) sl xs := fun W hW => own_below8 (own_below8 HROW.out hyb (Nat.le_refl _)) hW (Nat.le_refl _)
              have hBy : B ≤ Wy.heap.size := Nat.le_trans HBW.out hyb.size
              clear hyb hyr htx hFIN
              go_region_law
                (first
                 | (refine step_append_lies _ rfl (.tmp 100) (.tmp 102) 24 rfl B 32 ie zeroEV 8 88 Tryz.underlying24 hie hze hsze hbye rfl (by decide) (.slice xa sl xc) sl xs (by simp [Act.eval, Act.put]) (ROW _ (by first | exact (Below.refl _ _).alloc (Nat.le_refl _) _ | exact (Below.refl _ _).drew.alloc (Nat.le_refl _) _ | exact ((Below.refl _ _).alloc (Nat.le_refl _) _).drew)) ⟨Wy.heap.size, 0, none⟩ 1 1 (#[.int .i64 (wk : Int), .int .u64 ((sl + 1 : Nat) : Int), .int .u64 (tn : Int), .int .u8 (2 : Int), .string key, .slice none 0 0, .float .f64 qf, .int .i64 0] : Array Value).toList (by simp [Act.eval, Act.put]) rfl (World.news_of_block (by first | exact heap_alloc_new _ _ | exact heap_alloc_new Wy _)) (by simp [Value.oneCell']) (by decide) hmx hn2 (by simp; omega) _ rfl ?_
                    intro g' cap' w10 hown10 hgrow hat hlt10
                    obtain ⟨c5x, y5x, FN⟩ := HFIN.out _ w10 g' cap' (by first | exact (Below.refl _ _).alloc (Nat.le_refl _) _ | exact (Below.refl _ _).drew.alloc (Nat.le_refl _) _ | exact ((Below.refl _ _).alloc (Nat.le_refl _) _).drew) hown10 hgrow (hat.imp_right fun e => by rw [e]; simp)
                    clear hown10 hgrow hat hlt10))
              all_goals go_wp2
              all_goals go_roundw
              all_goals first | exact ⟨i + 1, _, _, rfl, by omega, FN⟩ | exact ⟨⟨i + 1, _, _, rfl, by omega, FN⟩, by simp only [intOf]; omega⟩ | (simp only [intOf]; omega)

            · have k3 : kd = 3 := by omega
              subst k3
              replace m3 : wz.cell? ⟨b9, 3, none⟩ = some (.int .u8 (3 : Int)) := m3
              clear hkd1 hkd4 k1 k4 k2 k1'
              go_upto_region 13 with fail
              obtain ⟨Wy, hWy⟩ : ∃ Wy, Wy = wz.setCell ⟨b9, 6, none⟩ (.float .f64 qf) := ⟨_, rfl⟩
              have hyb : Below W1.heap.size W1 Wy := by rw [hWy]; exact HKY.out.2.1.setCell (p := ⟨b9, 6, none⟩) HKY.out.2.2.1 _
              have hyr : Wy.heap[b9]? = some (.cells #[.int .i64 (wk : Int), .int .u64 ((sl + 1 : Nat) : Int), .int .u64 (tn : Int), .int .u8 (3 : Int), .string key, .slice none 0 0, .float .f64 qf, .int .i64 0] 32 (0, 0)) := by rw [hWy]; rw [heapSame HKY.out.2.2.2]; rfl
              have htx : TextBox B Wy (⟨⟨(wk : Int), sl + 1, tn, 3, key, [], qf, 0⟩, none, 0, 0⟩ : EvS) := by rw [hWy]; exact .inl ⟨rfl, rfl, rfl, rfl⟩
              rw [← hWy]
              clear hWy hf5 hf6 m0 m1 m2 m3 m4 m5 m6 m7
              obtain ⟨cobW, hFIN⟩ := FINAL Wy (⟨⟨(wk : Int), sl + 1, tn, 3, key, [], qf, 0⟩, none, 0, 0⟩ : EvS) ⟨rfl, rfl, by omega, rfl, by show sl + 1 ≤ 60; omega, by show 1 ≤ 3; omega, by show 3 ≤ 4; omega, HKY.out.1, fun _ => rfl, rfl, HQF.out⟩ hyb htx
              obtain ⟨m0, m1, m2, m3, m4, m5, m6, m7⟩ := box8 hyr
              have HFIN := Lib.hid hFIN
              have h2 : ∀ o : Obj, (Wy.alloc o).cell? ⟨B, wk, none⟩ = some (.slice xa sl xc) := fun o => by rw [((Below.refl Wy.heap.size Wy).alloc (Nat.le_refl _) o).cell (World.block_lt_of_cell? _ _ cobW)]; exact cobW
              have ROW : ∀ W, Below Wy.heap.size Wy W → W.ownsRow B 32 8 (.slice xa sl xc) sl xs := fun W hW => own_below8 (own_below8 HROW.out hyb (Nat.le_refl _)) hW (Nat.le_refl _)
              have hBy : B ≤ Wy.heap.size := Nat.le_trans HBW.out hyb.size
              clear hyb hyr htx hFIN
              go_region_law
                (first
                 | (refine step_append_lies _ rfl (.tmp 100) (.tmp 102) 24 rfl B 32 ie zeroEV 8 88 Tryz.underlying24 hie hze hsze hbye rfl (by decide) (.slice xa sl xc) sl xs (by simp [Act.eval, Act.put]) (ROW _ (by first | exact (Below.refl _ _).alloc (Nat.le_refl _) _ | exact (Below.refl _ _).drew.alloc (Nat.le_refl _) _ | exact ((Below.refl _ _).alloc (Nat.le_refl _) _).drew)) ⟨Wy.heap.size, 0, none⟩ 1 1 (#[.int .i64 (wk : Int), .int .u64 ((sl + 1 : Nat) : Int), .int .u64 (tn : Int), .int .u8 (3 : Int), .string key, .slice none 0 0, .float .f64 qf, .int .i64 0] : Array Value).toList (by simp [Act.eval, Act.put]) rfl (World.news_of_block (by first | exact heap_alloc_new _ _ | exact heap_alloc_new Wy _)) (by simp [Value.oneCell']) (by decide) hmx hn2 (by simp; omega) _ rfl ?_
                    intro g' cap' w10 hown10 hgrow hat hlt10
                    obtain ⟨c5x, y5x, FN⟩ := HFIN.out _ w10 g' cap' (by first | exact (Below.refl _ _).alloc (Nat.le_refl _) _ | exact (Below.refl _ _).drew.alloc (Nat.le_refl _) _ | exact ((Below.refl _ _).alloc (Nat.le_refl _) _).drew) hown10 hgrow (hat.imp_right fun e => by rw [e]; simp)
                    clear hown10 hgrow hat hlt10))
              all_goals go_wp2
              all_goals go_roundw
              all_goals first | exact ⟨i + 1, _, _, rfl, by omega, FN⟩ | exact ⟨⟨i + 1, _, _, rfl, by omega, FN⟩, by simp only [intOf]; omega⟩ | (simp only [intOf]; omega)

    · have hin : i = n := by omega
      subst hin
      have hz60 : ¬ ((i : Int) < (i : Int)) := by omega
      go_wp2
      go_ret
      exact ⟨rfl, L, T, HR.out⟩
end Go.Proofs.YtmogoopkjkdkgaaGreat.Ord
namespace Go.Proofs.YtmogoopkjkdkgaaGreat.Ord
open Go Go.RowKit Go.Proofs.YtmogoopkjkdkgaaGreat.Words Go.Proofs.YtmogoopkjkdkgaaGreat.Enc Go.Proofs.YtmogoopkjkdkgaaGreat.Evt Go.Proofs.YtmogoopkjkdkgaaGreat.Seg
set_option linter.unusedVariables false
set_option linter.unusedSimpArgs false

theorem feeds_lists {B0 lb wn i m ob : Nat} {w0 W : World} {L : List HV} {T : List Nat} (h : FeedsAt B0 ob lb wn w0 i m L T W) (hi : i ≤ 60) :
    Lists W.heap.size W (some ⟨ob, 0, none⟩) L ∧ (∀ x ∈ L, Rises x.S) ∧ (∀ x ∈ L, x.S.length ≤ 60) ∧ L.length = wn := by
  refine ⟨⟨fun hn => ⟨ob, 0, (Array.getElem?_eq_some_iff.1 h.out).1, rfl, fun k x hx => ?_⟩, fun x hx => ⟨?_, fun h0 => ?_⟩⟩, fun x hx => ?_, fun x hx => ?_, h.lenL⟩
  · rw [Nat.zero_add, cell_of_row W ob _ _ _ _ h.out, List.getElem?_toArray, List.getElem?_map, hx]; rfl
  · exact own_cap8 (h.own x hx)
  · obtain ⟨g, hg, _⟩ := own_at8 (h.own x hx) h0
    have hr := RawEv.of_own (h.own x hx) h0
    obtain ⟨b, o, hA, hc⟩ := hr
    refine ⟨b, o, ?_, hA, hc⟩
    have h1 : 0 < (rowsL x.S).length := by rw [rowsL_len]; omega
    have := World.block_lt_of_cell? _ _ (hc 0 _ (List.getElem?_eq_getElem h1))
    simpa using this
  · obtain ⟨k, hk, rfl⟩ := List.getElem_of_mem hx
    obtain ⟨t, ht⟩ : ∃ t, T[k]? = some t := ⟨_, List.getElem?_eq_getElem (by rw [h.lenT, ← h.lenL]; exact hk)⟩
    exact (h.good k _ _ (List.getElem?_eq_getElem hk) ht).rise.imp fun h => .inl h
  · have h2 : x.S.length ≤ (flat L).length := by
      obtain ⟨s, t, e⟩ := List.append_of_mem hx
      unfold flat
      rw [e, List.flatMap_append, List.length_append, List.flatMap_cons, List.length_append]
      omega
    rw [h.few] at h2
    omega

end Go.Proofs.YtmogoopkjkdkgaaGreat.Ord
namespace Go.Proofs.YtmogoopkjkdkgaaGreat.Ord
open Go Go.RowKit Go.Proofs.YtmogoopkjkdkgaaGreat.Words Go.Proofs.YtmogoopkjkdkgaaGreat.Enc Go.Proofs.YtmogoopkjkdkgaaGreat.Evt Go.Proofs.YtmogoopkjkdkgaaGreat.Seg
set_option linter.unusedVariables false
set_option linter.unusedSimpArgs false

theorem textLow_of {B : Nat} {W : World} {e : EvS} (h : TextBox B W e) : TextLow W.heap.size W e := by
  rcases h with ⟨h1, h2, h3, h4⟩ | ⟨tb, u, h1, h2, h3, h4, h5, h6⟩
  · refine ⟨?_, by omega, fun h => absurd h (by omega)⟩
    rw [h1, h4]
    exact ⟨rfl, fun h => absurd h (by omega)⟩
  · refine ⟨?_, by omega, fun _ a ha => ?_⟩
    · rw [h1, h2, h4]
      refine ⟨rfl, fun _ => ⟨tb, 0, rfl, fun j v hv => ?_⟩⟩
      rw [Nat.zero_add, cell_of_row W tb j _ _ _ h5]
      match j, hv with
      | 0, hv => simp at hv; subst hv; rfl
    · rw [h1] at ha; cases ha
      exact (Array.getElem?_eq_some_iff.1 h5).1
theorem feeds_good {B0 lb wn i m ob : Nat} {w0 W : World} {L : List HV} {T : List Nat} (h : FeedsAt B0 ob lb wn w0 i m L T W) (hi : i ≤ 60) (hw : wn ≤ 1000) : GoodLists W.heap.size W (some ⟨ob, 0, none⟩) L := by
  obtain ⟨h1, h2, h3, h4⟩ := feeds_lists h hi
  refine ⟨h1, h2, by omega, by rw [h.few]; omega, fun r hr => ?_⟩
  obtain ⟨x, hx, hrx⟩ := List.mem_flatMap.1 hr
  exact textLow_of (h.text x hx r hrx)
theorem pair_eq {S : List EvS} (h : S.Pairwise fun a b => a.e.time < b.e.time) {a b : EvS} (ha : a ∈ S) (hb : b ∈ S) (ht : a.e.time = b.e.time) : a = b := by
  induction S with
  | nil => cases ha
  | cons c S ih =>
    obtain ⟨h1, h2⟩ := List.pairwise_cons.1 h
    rcases List.mem_cons.1 ha with e1 | ha'
    · rcases List.mem_cons.1 hb with e2 | hb'
      · rw [e1, e2]
      · have := h1 b hb'; rw [← e1] at this; omega
    · rcases List.mem_cons.1 hb with e2 | hb'
      · have := h1 a ha'; rw [← e2] at this; omega
      · exact ih h2 ha' hb'
/-- Two events of the lists that stand at one place are one. -/
theorem feeds_anti {B0 lb wn i m ob : Nat} {w0 W : World} {L : List HV} {T : List Nat} (h : FeedsAt B0 ob lb wn w0 i m L T W) (a b : EvS) (ha : a ∈ flat L) (hb : b ∈ flat L) (h1 : evLe a b) (h2 : evLe b a) : a = b := by
  obtain ⟨x, hx, hax⟩ := List.mem_flatMap.1 ha
  obtain ⟨y, hy, hby⟩ := List.mem_flatMap.1 hb
  obtain ⟨j, hj, rfl⟩ := List.getElem_of_mem hx
  obtain ⟨k, hk, rfl⟩ := List.getElem_of_mem hy
  obtain ⟨s, hs⟩ : ∃ s, T[j]? = some s := ⟨_, List.getElem?_eq_getElem (by rw [h.lenT, ← h.lenL]; exact hj)⟩
  obtain ⟨t, ht⟩ : ∃ t, T[k]? = some t := ⟨_, List.getElem?_eq_getElem (by rw [h.lenT, ← h.lenL]; exact hk)⟩
  have g1 := h.good j s _ (List.getElem?_eq_getElem hj) hs
  have g2 := h.good k t _ (List.getElem?_eq_getElem hk) ht
  have e1 := (g1.each a hax).1
  have e2 := (g2.each b hby).1
  have hjk : j = k := by unfold evLe at h1 h2; omega
  subst hjk
  exact pair_eq g1.rise hax hby (by unfold evLe at h1 h2; omega)
end Go.Proofs.YtmogoopkjkdkgaaGreat.Ord
namespace Go.Proofs.YtmogoopkjkdkgaaGreat.Vw
open Go Go.RowKit Go.Proofs.YtmogoopkjkdkgaaGreat.Words Go.Proofs.YtmogoopkjkdkgaaGreat.Enc Go.Proofs.YtmogoopkjkdkgaaGreat.Q Go.Proofs.YtmogoopkjkdkgaaGreat.Evt Go.Proofs.YtmogoopkjkdkgaaGreat.Seg Go.Proofs.YtmogoopkjkdkgaaGreat.Ord
set_option linter.unusedVariables false
set_option linter.unusedSimpArgs false

section
variable {B0 ob lb wn i m : Nat} {w0 W : World} {L : List HV} {T : List Nat} {R : List EvS}
theorem flat_filter_no : ∀ (L : List HV) (k : Nat) (p : EvS → Bool), (∀ (j : Nat) (x : HV) (e : EvS), L[j]? = some x → e ∈ x.S → p e = true → False) → (flat L).filter p = []
  | [], _, _, _ => rfl
  | x :: r, k, p, h => by
    show (x.S ++ flat r).filter p = []
    rw [List.filter_append, flat_filter_no r k p (fun j y e hy he hp => h (j + 1) y e (by simpa using hy) he hp), List.append_nil]
    rw [List.filter_eq_nil_iff]
    intro e he hp
    exact h 0 x e rfl he hp
/-- Of all lists those of one writer are one list. -/
theorem flat_of : ∀ (L : List HV) (b k : Nat) (x : HV), (∀ (j : Nat) (y : HV) (e : EvS), L[j]? = some y → e ∈ y.S → e.e.writer = ((b + j : Nat) : Int)) → L[k]? = some x → (flat L).filter (fun e => decide (e.e.writer = ((b + k : Nat) : Int))) = x.S
  | [], _, _, _, _, h => by simp at h
  | y :: r, b, 0, x, hw, h => by
    simp at h
    subst h
    show (y.S ++ flat r).filter _ = y.S
    rw [List.filter_append, flat_filter_no r 0 _ (fun j z e hz he hp => by
      have h1 := hw (j + 1) z e (by simpa using hz) he
      simp at hp
      omega), List.append_nil, List.filter_eq_self]
    intro e he
    have := hw 0 y e rfl he
    simp [this]
  | y :: r, b, k + 1, x, hw, h => by
    show (y.S ++ flat r).filter _ = x.S
    rw [List.filter_append]
    have h0 : y.S.filter (fun e => decide (e.e.writer = ((b + (k + 1) : Nat) : Int))) = [] := by
      rw [List.filter_eq_nil_iff]
      intro e he hp
      have := hw 0 y e rfl he
      simp at hp
      omega
    rw [h0, List.nil_append]
    have := flat_of r (b + 1) k x (fun j z e hz he => by have := hw (j + 1) z e (by simpa using hz) he; rw [this]; congr 1; omega) (by simpa using h)
    rw [show b + (k + 1) = b + 1 + k by omega]
    exact this
theorem feeds_good_at (h : FeedsAt B0 ob lb wn w0 i m L T W) {k : Nat} {x : HV} (hx : L[k]? = some x) : ∃ t, t ≤ m ∧ ListOf k t x := by
  have hk : k < L.length := (List.getElem?_eq_some_iff.1 hx).1
  have hkT : k < T.length := by rw [h.lenT, ← h.lenL]; exact hk
  exact ⟨T[k], h.time _ (List.getElem_mem _), h.good k _ x hx (List.getElem?_eq_getElem hkT)⟩
theorem feeds_filter (h : FeedsAt B0 ob lb wn w0 i m L T W) (hp : R.Perm (flat L)) (hs : Rises R) {k : Nat} {x : HV} (hx : L[k]? = some x) : R.filter (fun e => decide (e.e.writer = (k : Int))) = x.S := by
  have hw : ∀ (j : Nat) (y : HV) (e : EvS), L[j]? = some y → e ∈ y.S → e.e.writer = ((0 + j : Nat) : Int) := fun j y e hy he => by
    obtain ⟨t, _, hg⟩ := feeds_good_at h hy
    rw [(hg.each e he).1, Nat.zero_add]
  have hf := flat_of L 0 k x hw hx
  rw [Nat.zero_add] at hf
  obtain ⟨t, _, hg⟩ := feeds_good_at h hx
  have hpf := hp.filter (fun e => decide (e.e.writer = (k : Int)))
  rw [hf] at hpf
  refine List.Perm.eq_of_pairwise (le := evLe) (fun a b ha hb h1 h2 => feeds_anti h a b (hp.mem_iff.1 (List.mem_filter.1 ha).1) (hp.mem_iff.1 (List.mem_filter.1 (hpf.mem_iff.2 hb)).1) h1 h2) (hs.filter _) (hg.rise.imp fun {a b} hab => .inl hab) hpf
theorem feeds_none (h : FeedsAt B0 ob lb wn w0 i m L T W) (hp : R.Perm (flat L)) {k : Int} (hk : ∀ j : Nat, j < wn → k ≠ (j : Int)) : R.filter (fun e => decide (e.e.writer = k)) = [] := by
  rw [List.filter_eq_nil_iff]
  intro e he hpe
  have hm := hp.mem_iff.1 he
  obtain ⟨x, hx, hex⟩ := List.mem_flatMap.1 hm
  obtain ⟨j, hj, rfl⟩ := List.getElem_of_mem hx
  obtain ⟨t, _, hg⟩ := feeds_good_at h (List.getElem?_eq_getElem hj)
  have h1 := (hg.each e hex).1
  simp at hpe
  exact hk j (by rw [← h.lenL]; exact hj) (by rw [← hpe, h1])
theorem feeds_ahead (h : FeedsAt B0 ob lb wn w0 i m L T W) (hp : R.Perm (flat L)) (hs : Rises R) : R.Pairwise fun a b => ahead a.e b.e := by
  rw [List.pairwise_iff_forall_sublist]
  intro a b hab
  have hle : evLe a b := List.pairwise_iff_forall_sublist.1 hs hab
  rcases hle with h1 | ⟨h1, h2⟩
  · exact .inl h1
  · by_cases h3 : a.e.writer < b.e.writer
    · exact .inr ⟨h1, h3⟩
    · have h4 : a.e.writer = b.e.writer := by omega
      have hbm := hp.mem_iff.1 (hab.subset (by simp) : b ∈ R)
      obtain ⟨x, hx, hbx⟩ := List.mem_flatMap.1 hbm
      obtain ⟨j, hj, rfl⟩ := List.getElem_of_mem hx
      obtain ⟨t, _, hg⟩ := feeds_good_at h (List.getElem?_eq_getElem hj)
      have h5 := (hg.each b hbx).1
      have hsub := hab.filter (fun e => decide (e.e.writer = (j : Int)))
      rw [feeds_filter h hp hs (List.getElem?_eq_getElem hj)] at hsub
      have he : [a, b].filter (fun e => decide (e.e.writer = (j : Int))) = [a, b] := by simp [h4, h5]
      rw [he] at hsub
      have := List.pairwise_iff_forall_sublist.1 hg.rise hsub
      exact .inl this
theorem feeds_flows (h : FeedsAt B0 ob lb wn w0 i m L T W) (hr : ∀ r ∈ flat L, Right r.e) (hp : R.Perm (flat L)) (hs : Rises R) (n : Nat) : Flows (Fol.newF n) (R.map EvS.e) := by
  refine flows_new n (P := fun k => (R.filter (fun e => decide (e.e.writer = k))).map EvS.e) ?_ ?_ ?_ ?_
  · rw [List.pairwise_map]; exact feeds_ahead h hp hs
  · intro e he
    obtain ⟨r, hr1, rfl⟩ := List.mem_map.1 he
    exact hr r (hp.mem_iff.1 hr1)
  · intro k
    rw [List.filter_map]
    rfl
  · intro k j e hj
    by_cases hk : ∃ q : Nat, q < wn ∧ k = (q : Int)
    · obtain ⟨q, hq, rfl⟩ := hk
      have hql : q < L.length := by rw [h.lenL]; exact hq
      rw [feeds_filter h hp hs (List.getElem?_eq_getElem hql), List.getElem?_map] at hj
      obtain ⟨t, _, hg⟩ := feeds_good_at h (List.getElem?_eq_getElem hql)
      cases hx : L[q].S[j]? with
      | none => rw [hx] at hj; cases hj
      | some y => rw [hx] at hj; cases hj; exact hg.seq j y hx
    · rw [feeds_none h hp (k := k) (fun q hq e1 => hk ⟨q, hq, e1⟩)] at hj
      simp at hj
end
end Go.Proofs.YtmogoopkjkdkgaaGreat.Vw
