/- Layer 16: the document's lists of events by writers, of any numbers: the first sixty count. Layer 16: the law's vector: at most 64 numbers, up to the end. -/
import Derived.Deep.Cut
import Derived.Deep.CutRange
import Derived.StillTailTactics
import Derived.Deep.RegionHeld
import Derived.Deep.RegionLaw
import Derived.Deep.AppendLies
import Derived.Laws.OwnMore
import Derived.Laws.AppendOwn
import Derived.Test.YthdflbpmabcjlaaDoorLTp06
import Derived.Test.YthdflbpmabcjlaaDoorLTp09
namespace Go.Proofs.YthdflbpmabcjlaaDoor.Ord
open Go Go.RowKit Go.Proofs.YthdflbpmabcjlaaDoor.Words Go.Proofs.YthdflbpmabcjlaaDoor.Enc Go.Proofs.YthdflbpmabcjlaaDoor.Evt Go.Proofs.YthdflbpmabcjlaaDoor.Seg
set_option linter.unusedVariables false
set_option linter.unusedSimpArgs false

set_option maxRecDepth 100000 in
set_option maxHeartbeats 8000000 in
theorem feeds_all (A : Option Addr) (n c wn N : Nat) (l : List Nat) (w : World) (h : SeesH w A n l) (hN : N = min n 60) (hw0 : 1 ≤ wn) (hw : wn ≤ 6) :
    Calls Tryd.prog 18 #[.slice A n c, .int .i64 (wn : Int)] w fun e w' => ∃ L T, e = .returned (.slice (some ⟨w.heap.size, 0, none⟩) wn wn) ∧ FeedsAt w.heap.size w.heap.size (w.heap.size + 1) wn w N (4 * N) L T w' := by
  have HNE := Lib.hid hN
  have hn : N ≤ 60 := by omega
  have hNn : N ≤ n := by omega
  clear hN
  have hsf := store_float Tryd.prog
  have M1 := make_ll w wn (by omega)
  have M2 := make_us (w.alloc (.cells ((List.replicate wn (⟨none, 0, []⟩ : HV)).map HV.val).toArray 34)) wn (by omega)
  rw [World.size_alloc] at M2
  have F0 := feeds_start w wn
  obtain ⟨u0, hu0⟩ : ∃ u, u = w.alloc (.cells ((List.replicate wn (⟨none, 0, []⟩ : HV)).map HV.val).toArray 34) := ⟨_, rfl⟩
  rw [← hu0] at M1 M2 F0
  obtain ⟨u, hu⟩ : ∃ u, u = u0.alloc (.cells (u64s (List.replicate wn 0)).toArray 22) := ⟨_, rfl⟩
  rw [← hu] at M2 F0
  have HF0 := Lib.hid F0
  have HH := Lib.hid h
  clear F0 hu hu0 h
  have hwz : ¬ (wn : Int) = 0 := by omega
  have hwz2 : ((wn : Int) == 0) = false := by rw [beq_eq_false_iff_ne]; omega
  generalize hB : w.heap.size = B at *
  have HB := Lib.hid hB
  clear hB
  go_enter Tryd.func18, Tryd.ntmps18
  go_wp2_with fail
  go_loopw [7] (fun iv W => ∃ (i : Nat) (L : List HV) (T : List Nat), iv = .int .i64 (i : Int) ∧ i ≤ N ∧ Hid (FeedsAt B B (B + 1) wn w i (4 * i) L T W)) (fun iv _ => N - (intOf iv).toNat)
  case atStart => exact ⟨0, _, _, rfl, Nat.zero_le _, HF0⟩
  case round =>
    obtain ⟨i, L, T, rfl, hi, HR⟩ := hrel
    by_cases hlt : i < N
    · have hil : i < l.length := by rw [HH.out.len]; omega
      obtain ⟨hb, ho, rfl, hcell⟩ := (HH.out.below (HR.out.below.mono (by have := HB.out; omega))).row (by omega)
      have hx := hcell i l[i] (List.getElem?_eq_getElem hil)
      have hxf := HH.out.few _ (List.getElem_mem hil)
      generalize l[i] = x at hx hxf
      have zi : (i : Int) < (n : Int) := by omega
      have zi0 : (0 : Int) ≤ (i : Int) := by omega
      have zi60 : (i : Int) < 60 := by omega
      clear hcell hil
      have hwk : x % wn < wn := Nat.mod_lt _ (by omega)
      obtain ⟨wk, hwke⟩ : ∃ wk, wk = x % wn := ⟨_, rfl⟩
      have hrm : (x : Int) % (wn : Int) = (wk : Int) := by rw [hwke]; simp
      rw [← hwke] at hwk
      have hT := HR.out.lenT
      have hL := HR.out.lenL
      have clb := cell_of_row wr (B + 1) wk _ _ _ HR.out.last
      have fz := frozen_row0 (i := wk) HR.out.last
      obtain ⟨t, ht⟩ : ∃ t, T[wk]? = some t := ⟨_, List.getElem?_eq_getElem (by omega)⟩
      have clb2 : wr.cell? ⟨B + 1, wk, none⟩ = some (.int .u64 (t : Int)) := by
        rw [clb, List.getElem?_toArray]; unfold u64s; rw [List.getElem?_map, ht]; rfl
      have htb := HR.out.time t (List.mem_of_getElem? ht)
      have zwk : (wk : Int) < (wn : Int) := by omega
      have zwk0 : (0 : Int) ≤ (wk : Int) := by omega
      have zt : (t : Int) ≤ 240 := by omega
      have zx : (x : Int) < 65536 := by omega
      have HWK := Lib.hid hwke
      clear hwke clb hT hL
      go_upto_region 7 with fail
      go_still_tail 14, (by kernel_rfl)
      change wpList _ _ _ _ _ wr.drew
      go_upto_region 8 with fail
      have htn : (t : Int) + (1 + (x : Int) / 16 % 4) = ((t + (1 + x / 16 % 4) : Nat) : Int) := by omega
      rw [htn]
      obtain ⟨tn, htne⟩ : ∃ tn, tn = t + (1 + x / 16 % 4) := ⟨_, rfl⟩
      rw [← htne]
      have FT := HR.out.tick (k := wk) (t' := tn) (by omega) (fun _ x a hxL ha => (HR.out.far hxL ha).1) ht (by omega) (4 * (i + 1)) (by omega) (by omega)
      have hcu : ((wr.setCell ⟨B + 1, wk, none⟩ (.int .u64 (tn : Int))).drew).cell? ⟨hb, ho + i, none⟩ = some (.int .u16 (x : Int)) := by
        have hbB : hb < B := by
          obtain ⟨b', o', e, q⟩ := HH.out.row (by omega)
          cases e
          have := World.block_lt_of_cell? _ _ (q 0 _ (List.getElem?_eq_getElem (by rw [HH.out.len]; omega)))
          rw [← HB.out]; exact this
        rw [(((Below.refl B wr).setCell (p := ⟨B + 1, wk, none⟩) (by simp) _).drew).cell hbB]
        exact hx
      obtain ⟨W1, hW1⟩ : ∃ W1, W1 = (wr.setCell ⟨B + 1, wk, none⟩ (.int .u64 (tn : Int))).drew := ⟨_, rfl⟩
      rw [← hW1] at FT hcu ⊢
      obtain ⟨hv, hhv⟩ : ∃ hv, L[wk]? = some hv := ⟨_, List.getElem?_eq_getElem (by rw [HR.out.lenL]; exact hwk)⟩
      have hco : W1.cell? ⟨B, wk, none⟩ = some hv.val := by
        rw [cell_of_row W1 B wk _ _ _ FT.out, List.getElem?_toArray, List.getElem?_map, hhv]; rfl
      have hcl : W1.cell? ⟨B + 1, wk, none⟩ = some (.int .u64 (tn : Int)) := by
        rw [cell_of_row W1 (B + 1) wk _ _ _ FT.last, List.getElem?_toArray]
        unfold u64s
        rw [List.getElem?_map, List.getElem?_set_self (by rw [HR.out.lenT]; exact hwk)]; rfl
      have hsl : hv.S.length ≤ i := by
        rw [← HR.out.few]
        unfold flat
        exact Nat.le_trans (Nat.le_refl _) (by
          have : hv ∈ L := List.mem_of_getElem? hhv
          obtain ⟨s, t, e⟩ := List.append_of_mem this
          rw [e, List.flatMap_append, List.length_append, List.flatMap_cons, List.length_append]
          omega)
      unfold HV.val at hco
      obtain ⟨sl, hsle⟩ : ∃ sl, sl = hv.S.length := ⟨_, rfl⟩
      rw [← hsle] at hco hsl
      obtain ⟨xa, hxa⟩ : ∃ xa, xa = hv.A := ⟨_, rfl⟩
      obtain ⟨xc, hxc⟩ : ∃ xc, xc = hv.c := ⟨_, rfl⟩
      rw [← hxa, ← hxc] at hco
      have HFT := Lib.hid (And.intro FT (And.intro htne (And.intro hsle (And.intro hxa (And.intro hxc (And.intro hhv ht))))))
      have HWR := Lib.hid (And.intro hW1 htb)
      have hxn : x < 65536 := by omega
      have hk1 := fun W => key_run12 W x hxn
      have hk3 := fun o => key_run13 W1 x hxn o
      unfold keyV at hk1 hk3
      clear FT htne hsle hxa hxc hhv ht hW1 htn htb clb2 fz hx
      have hal : ∀ (a : Addr) (v : Value) (o : Obj), W1.cell? a = some v → (W1.alloc o).cell? a = some v := fun a v o hc => by
        rw [((Below.refl W1.heap.size W1).alloc (Nat.le_refl _) o).cell (World.block_lt_of_cell? _ _ hc)]; exact hc
      have hal2 : ∀ (a : Addr) (v : Value) (o o' : Obj), W1.cell? a = some v → ((W1.alloc o).alloc o').cell? a = some v := fun a v o o' hc => by
        rw [(((Below.refl W1.heap.size W1).alloc (Nat.le_refl _) o).alloc (by simp) o').cell (World.block_lt_of_cell? _ _ hc)]; exact hc
      have hcu1 := fun o => hal _ _ o hcu
      have hco1 := fun o => hal _ _ o hco
      have hcl1 := fun o => hal _ _ o hcl
      have hcu2 := fun o o' => hal2 _ _ o o' hcu
      have hco2 := fun o o' => hal2 _ _ o o' hco
      have hcl2 := fun o o' => hal2 _ _ o o' hcl
      have hkd : ∀ o : Obj, (W1.alloc o).heap.size = W1.heap.size + 1 := fun o => World.size_alloc _ _
      have hk2 := fun o => hk1 (W1.alloc o)
      have hk0 := hk1 W1
      simp only [hkd] at hk2
      clear hal hal2 hk1 hkd
      go_cut [9] from 45 to 75 (fun s9 wx => ∃ (b9 kd : Nat) (key : ByteArray), s9 = .pointer (some ⟨b9, 0, none⟩) ∧ 1 ≤ kd ∧ kd ≤ 4 ∧ Hid (key.size = 1 ∧ Below W1.heap.size W1 wx ∧ W1.heap.size ≤ b9 ∧ wx.heap[b9]? = some (.cells #[.int .i64 (wk : Int), .int .u64 ((sl + 1 : Nat) : Int), .int .u64 (tn : Int), .int .u8 (kd : Int), .string key, .slice none 0 0, .float .f64 0, .int .i64 0] 52 (0, 0))))
      case first =>
        obtain ⟨kd, hkd1, hkd4, hkde⟩ := kindV_eq x hxn
        have hsq := seqV_eq sl (by omega)
        have HKD := Lib.hid (And.intro hkde hsq)
        clear hkde hsq
        go_region_held (fun w' => w'.cell? ⟨hb, ho + i, none⟩ = some (.int .u16 (x : Int)) ∧ w'.cell? ⟨B, wk, none⟩ = some (.slice xa sl xc) ∧ w'.cell? ⟨B + 1, wk, none⟩ = some (.int .u64 (tn : Int))) (go_keep) (fail)
        all_goals (first | go_meet | (go_wp2_with fail; go_meet))
        all_goals
          refine ⟨_, kd, (⟨#[97 + UInt8.ofNat (x / 256 % 4)]⟩ : ByteArray), rfl, hkd1, hkd4, Lib.hid ⟨rfl, ?_, ?_, ?_⟩⟩
        all_goals first
          | exact (((Below.refl W1.heap.size W1).alloc (Nat.le_refl _) _).alloc (by simp) _).drew
          | exact Nat.le_refl W1.heap.size
          | exact Nat.le_succ W1.heap.size
          | (rw [← HKD.out.1, ← HKD.out.2]; exact (Below.heap_alloc _ _ _ (by simp)).trans (heap_alloc_new W1 _))
          | (rw [← HKD.out.1, ← HKD.out.2, ← World.size_alloc W1 (.cells #[.int .u8 (IntKind.u8.wrap (97 + (IntKind.u8.wrap (IntKind.u16.wrap ((x : Int) / 256))).tmod 4))] 5)]; exact heap_alloc_new _ _)
      case rest =>
        obtain ⟨wz, rfl⟩ : ∃ wz : World, wz = wc := ⟨_, rfl⟩
        obtain ⟨b9, kd, key, rfl, hkd1, hkd4, HC⟩ := hcut
        obtain ⟨hkey, hbw, hb9, hrow⟩ := HC.out
        obtain ⟨m0, m1, m2, m3, m4, m5, m6, m7⟩ := box8 hrow
        have hf5 : wz.frozen? ⟨b9, 5, none⟩ = false := frozen_row0 hrow
        have hf6 : wz.frozen? ⟨b9, 6, none⟩ = false := frozen_row0 hrow
        have HKY := Lib.hid (And.intro hkey (And.intro hbw (And.intro hb9 hrow)))
        obtain ⟨ie, hie, hze, hsze, hbye⟩ := info_parts infoEv
        obtain ⟨qf, hqf2, hqf⟩ := quo4_run i (by omega)
        have HQF := Lib.hid hqf2
        clear hqf2
        have hBW : B ≤ W1.heap.size := by have := (Array.getElem?_eq_some_iff.1 HFT.out.1.out).1; omega
        have HBW := Lib.hid hBW
        have hnew9 : b9 ≠ B ∧ b9 ≠ B + 1 := by
          have h1 := (Array.getElem?_eq_some_iff.1 HFT.out.1.out).1
          have h2 := (Array.getElem?_eq_some_iff.1 HFT.out.1.last).1
          omega
        have FINAL : ∀ (Wy : World) (e9 : EvS), (e9.e.writer = wk ∧ e9.e.time = tn ∧ 1 ≤ tn ∧ e9.e.seq = sl + 1 ∧ sl + 1 ≤ 60 ∧ 1 ≤ e9.e.kind ∧ e9.e.kind ≤ 4 ∧ e9.e.key.size = 1 ∧ (e9.e.kind ≠ 1 → e9.e.text = []) ∧ e9.e.node = 0 ∧ e9.e.num < 18446744073709551616) → Below W1.heap.size W1 Wy → TextBox B Wy e9 →
            Wy.cell? ⟨B, wk, none⟩ = some (.slice xa sl xc) ∧ ∀ (W w10 : World) (g' cap' : Nat), Below Wy.heap.size Wy W → w10.ownsRow B 52 8 (.slice (some ⟨g', 0, none⟩) (sl + 1) cap') (sl + 1) (rowsL hv.S ++ e9.cells) → W.grownBy w10 (Value.slice xa sl xc).ownBlock → ((Value.slice xa sl xc).ownBlock = some g' ∨ Wy.heap.size ≤ g') →
              w10.cell? ⟨B, wk, none⟩ = some (.slice xa sl xc) ∧ w10.frozen? ⟨B, wk, none⟩ = false ∧ Hid (FeedsAt B B (B + 1) wn w (i + 1) (4 * (i + 1)) (L.set wk ⟨some ⟨g', 0, none⟩, cap', hv.S ++ [e9]⟩) (T.set wk tn) (w10.setCell ⟨B, wk, none⟩ (.slice (some ⟨g', 0, none⟩) (sl + 1) cap'))) := fun Wy e9 hf hWy htx => by
          obtain ⟨FT, htne, hsle, hxa, hxc, hhv, ht⟩ := HFT.out
          have hcell : ∀ W2 : World, W2.heap[B]? = some (.cells (L.map HV.val).toArray 34 (0, 0)) → W2.cell? ⟨B, wk, none⟩ = some (.slice xa sl xc) := fun W2 h2 => by
            rw [cell_of_row W2 B wk _ _ _ h2, List.getElem?_toArray, List.getElem?_map, hhv, hxa, hsle, hxc]; rfl
          have hTt : (T.set wk tn)[wk]? = some tn := List.getElem?_set_self (by rw [HR.out.lenT]; exact hwk)
          refine ⟨hcell Wy ((hWy.block B (Array.getElem?_eq_some_iff.1 FT.out).1).trans FT.out), fun W w10 g' cap' hW hown hg hat => ?_⟩
          have hWW := hWy.trans (hW.mono hWy.size)
          have hol : ∀ e' ∈ hv.S, e'.e.time < tn := fun e' he' => by
            have := ((HR.out.good wk t hv hhv ht).each e' he').2.2.1
            omega
          rw [hxa, hxc, hsle] at hg hat
          rw [hsle] at hown hf
          obtain ⟨q1, q2⟩ := FT.put (by omega) hhv hTt e9 hWW (htx.below hW) hf hol hown hg (hat.imp_right fun h => Nat.le_trans hWy.size h)
          rw [← hsle] at q2
          exact ⟨hcell w10 q1, frozen_row0 q1, Lib.hid q2⟩
        have hrw : W1.ownsRow B 52 8 (.slice xa sl xc) sl (rowsL hv.S) := by
          obtain ⟨FT, htne, hsle, hxa, hxc, hhv, ht⟩ := HFT.out
          rw [hxa, hxc, hsle]
          exact FT.own hv (List.mem_of_getElem? hhv)
        obtain ⟨xs, hxs⟩ : ∃ xs, xs = rowsL hv.S := ⟨_, rfl⟩
        rw [← hxs] at hrw FINAL
        have HROW := Lib.hid hrw
        have htn1 : 1 ≤ tn := by have := HFT.out.2.1; omega
        have hmx : sl + 1 ≤ maxLen := by unfold maxLen; omega
        have hn2 : (sl + 1) * 88 ≤ 140737488355328 := by omega
        clear hbw hb9 hrow hkey hcu hco hcl hcu1 hco1 hcl1 hcu2 hco2 hcl2 hk2 hk0 hk3 HC hxs hrw
        by_cases k1 : kd = 1
        · subst k1
          replace m3 : wz.cell? ⟨b9, 3, none⟩ = some (.int .u8 (1 : Int)) := m3
          clear hqf hkd1 hkd4
          have ha5 : ∀ o : Obj, (wz.alloc o).cell? ⟨b9, 5, none⟩ = some (.slice none 0 0) := fun o => by rw [((Below.refl wz.heap.size wz).alloc (Nat.le_refl _) o).cell (World.block_lt_of_cell? _ _ m5)]; exact m5
          have ha3 : ∀ o : Obj, (wz.alloc o).cell? ⟨b9, 3, none⟩ = some (.int .u8 (1 : Int)) := fun o => by rw [((Below.refl wz.heap.size wz).alloc (Nat.le_refl _) o).cell (World.block_lt_of_cell? _ _ m3)]; exact m3
          have hz5 : ∀ o : Obj, (wz.alloc o).frozen? ⟨b9, 5, none⟩ = false := fun o => frozen_row0 ((Below.heap_alloc _ _ _ (World.block_lt_of_cell? _ _ m5)).trans HKY.out.2.2.2)
          have hw8 : IntKind.u8.wrap (i : Int) = (i : Int) := by simp [IntKind.wrap, IntKind.bits, IntKind.signed]; omega
          have htb9 : TextBox B ((wz.alloc (.cells #[.int .u8 (i : Int)] 5)).setCell ⟨b9, 5, none⟩ (.slice (some ⟨wz.heap.size, 0, none⟩) 1 1)) (⟨⟨(wk : Int), sl + 1, tn, 1, key, [UInt8.ofNat i], 0, 0⟩, some ⟨wz.heap.size, 0, none⟩, 1, 1⟩ : EvS) := by
            have hlt9 := World.block_lt_of_cell? _ _ m5
            have hu : (UInt8.ofNat i).toNat = i := by rw [UInt8.toNat_ofNat']; omega
            refine .inr ⟨wz.heap.size, UInt8.ofNat i, rfl, rfl, rfl, rfl, ?_, Nat.le_trans HBW.out HKY.out.2.1.size⟩
            rw [heapOther (show wz.heap.size ≠ b9 by simp at hlt9; omega), hu]
            exact heap_alloc_new wz _
          have HTB := Lib.hid htb9
          clear htb9
          go_upto_region 13 with fail
          clear ha5 ha3 hz5 hw8
          obtain ⟨Wy, hWy⟩ : ∃ Wy, Wy = (wz.alloc (.cells #[.int .u8 (i : Int)] 5)).setCell ⟨b9, 5, none⟩ (.slice (some ⟨wz.heap.size, 0, none⟩) 1 1) := ⟨_, rfl⟩
          have hyb : Below W1.heap.size W1 Wy := by rw [hWy]; exact (HKY.out.2.1.alloc HKY.out.2.1.size _).setCell (p := ⟨b9, 5, none⟩) HKY.out.2.2.1 _
          have hyr : Wy.heap[b9]? = some (.cells #[.int .i64 (wk : Int), .int .u64 ((sl + 1 : Nat) : Int), .int .u64 (tn : Int), .int .u8 (1 : Int), .string key, .slice (some ⟨wz.heap.size, 0, none⟩) 1 1, .float .f64 0, .int .i64 0] 52 (0, 0)) := by rw [hWy, heapSame ((Below.heap_alloc _ _ _ (World.block_lt_of_cell? _ _ m5)).trans HKY.out.2.2.2)]; rfl
          have htx : TextBox B Wy (⟨⟨(wk : Int), sl + 1, tn, 1, key, [UInt8.ofNat i], 0, 0⟩, some ⟨wz.heap.size, 0, none⟩, 1, 1⟩ : EvS) := by rw [hWy]; exact HTB.out
          rw [← hWy]
          clear hWy hf5 hf6 m0 m1 m2 m3 m4 m5 m6 m7
          obtain ⟨cobW, hFIN⟩ := FINAL Wy (⟨⟨(wk : Int), sl + 1, tn, 1, key, [UInt8.ofNat i], 0, 0⟩, some ⟨wz.heap.size, 0, none⟩, 1, 1⟩ : EvS) ⟨rfl, rfl, by omega, rfl, by show sl + 1 ≤ 60; omega, by show 1 ≤ 1; omega, by show 1 ≤ 4; omega, HKY.out.1, fun h => absurd rfl h, rfl, by show 0 < 18446744073709551616; omega⟩ hyb htx
          obtain ⟨m0, m1, m2, m3, m4, m5, m6, m7⟩ := box8 hyr
          have HFIN := Lib.hid hFIN
          have h2 : ∀ o : Obj, (Wy.alloc o).cell? ⟨B, wk, none⟩ = some (.slice xa sl xc) := fun o => by rw [((Below.refl Wy.heap.size Wy).alloc (Nat.le_refl _) o).cell (World.block_lt_of_cell? _ _ cobW)]; exact cobW
          have ROW : ∀ W, Below Wy.heap.size Wy W → W.ownsRow B 52 8 (.slice xa sl xc) sl xs := fun W hW => own_below8 (own_below8 HROW.out hyb (Nat.le_refl _)) hW (Nat.le_refl _)
          have hBy : B ≤ Wy.heap.size := Nat.le_trans HBW.out hyb.size
          clear hyb hyr htx hFIN
          go_region_law
            (first
             | (refine step_append_lies _ rfl (.tmp 100) (.tmp 102) 34 rfl B 52 ie zeroEV 8 88 Tryd.underlying34 hie hze hsze hbye rfl (by decide) (.slice xa sl xc) sl xs (by simp [Act.eval, Act.put]) (ROW _ (by first | exact (Below.refl _ _).alloc (Nat.le_refl _) _ | exact (Below.refl _ _).drew.alloc (Nat.le_refl _) _ | exact ((Below.refl _ _).alloc (Nat.le_refl _) _).drew)) ⟨Wy.heap.size, 0, none⟩ 1 1 (#[.int .i64 (wk : Int), .int .u64 ((sl + 1 : Nat) : Int), .int .u64 (tn : Int), .int .u8 (1 : Int), .string key, .slice (some ⟨wz.heap.size, 0, none⟩) 1 1, .float .f64 0, .int .i64 0] : Array Value).toList (by simp [Act.eval, Act.put]) rfl (World.news_of_block (by first | exact heap_alloc_new _ _ | exact heap_alloc_new Wy _)) (by simp [Value.oneCell']) (by decide) hmx hn2 (by simp; omega) _ rfl ?_
                intro g' cap' w10 hown10 hgrow hat hlt10
                obtain ⟨c5x, y5x, FN⟩ := HFIN.out _ w10 g' cap' (by first | exact (Below.refl _ _).alloc (Nat.le_refl _) _ | exact (Below.refl _ _).drew.alloc (Nat.le_refl _) _ | exact ((Below.refl _ _).alloc (Nat.le_refl _) _).drew) hown10 hgrow (hat.imp_right fun e => by rw [e]; simp)
                clear hown10 hgrow hat hlt10))
          all_goals go_wp2
          all_goals go_roundw
          all_goals first | exact ⟨i + 1, _, _, rfl, by omega, FN⟩ | exact ⟨⟨i + 1, _, _, rfl, by omega, FN⟩, by simp only [intOf]; omega⟩ | (simp only [intOf]; omega)

        · have k1' : ((kd : Int) == 1) = false := by rw [beq_eq_false_iff_ne]; omega
          by_cases k4 : kd = 4
          · subst k4
            go_upto_region 13 with fail
            obtain ⟨Wy, hWy⟩ : ∃ Wy, Wy = wz := ⟨_, rfl⟩
            have hyb : Below W1.heap.size W1 Wy := by rw [hWy]; exact HKY.out.2.1
            have hyr : Wy.heap[b9]? = some (.cells #[.int .i64 (wk : Int), .int .u64 ((sl + 1 : Nat) : Int), .int .u64 (tn : Int), .int .u8 (4 : Int), .string key, .slice none 0 0, .float .f64 0, .int .i64 0] 52 (0, 0)) := by rw [hWy]; exact HKY.out.2.2.2
            have htx : TextBox B Wy (⟨⟨(wk : Int), sl + 1, tn, 4, key, [], 0, 0⟩, none, 0, 0⟩ : EvS) := by rw [hWy]; exact .inl ⟨rfl, rfl, rfl, rfl⟩
            rw [← hWy]
            clear hWy hf5 hf6 m0 m1 m2 m3 m4 m5 m6 m7
            obtain ⟨cobW, hFIN⟩ := FINAL Wy (⟨⟨(wk : Int), sl + 1, tn, 4, key, [], 0, 0⟩, none, 0, 0⟩ : EvS) ⟨rfl, rfl, by omega, rfl, by show sl + 1 ≤ 60; omega, by show 1 ≤ 4; omega, by show 4 ≤ 4; omega, HKY.out.1, fun _ => rfl, rfl, by show 0 < 18446744073709551616; omega⟩ hyb htx
            obtain ⟨m0, m1, m2, m3, m4, m5, m6, m7⟩ := box8 hyr
            have HFIN := Lib.hid hFIN
            have h2 : ∀ o : Obj, (Wy.alloc o).cell? ⟨B, wk, none⟩ = some (.slice xa sl xc) := fun o => by rw [((Below.refl Wy.heap.size Wy).alloc (Nat.le_refl _) o).cell (World.block_lt_of_cell? _ _ cobW)]; exact cobW
            have ROW : ∀ W, Below Wy.heap.size Wy W → W.ownsRow B 52 8 (.slice xa sl xc) sl xs := fun W hW => own_below8 (own_below8 HROW.out hyb (Nat.le_refl _)) hW (Nat.le_refl _)
            have hBy : B ≤ Wy.heap.size := Nat.le_trans HBW.out hyb.size
            clear hyb hyr htx hFIN
            go_region_law
              (first
               | (refine step_append_lies _ rfl (.tmp 100) (.tmp 102) 34 rfl B 52 ie zeroEV 8 88 Tryd.underlying34 hie hze hsze hbye rfl (by decide) (.slice xa sl xc) sl xs (by simp [Act.eval, Act.put]) (ROW _ (by first | exact (Below.refl _ _).alloc (Nat.le_refl _) _ | exact (Below.refl _ _).drew.alloc (Nat.le_refl _) _ | exact ((Below.refl _ _).alloc (Nat.le_refl _) _).drew)) ⟨Wy.heap.size, 0, none⟩ 1 1 (#[.int .i64 (wk : Int), .int .u64 ((sl + 1 : Nat) : Int), .int .u64 (tn : Int), .int .u8 (4 : Int), .string key, .slice none 0 0, .float .f64 0, .int .i64 0] : Array Value).toList (by simp [Act.eval, Act.put]) rfl (World.news_of_block (by first | exact heap_alloc_new _ _ | exact heap_alloc_new Wy _)) (by simp [Value.oneCell']) (by decide) hmx hn2 (by simp; omega) _ rfl ?_
                  intro g' cap' w10 hown10 hgrow hat hlt10
                  obtain ⟨c5x, y5x, FN⟩ := HFIN.out _ w10 g' cap' (by first | exact (Below.refl _ _).alloc (Nat.le_refl _) _ | exact (Below.refl _ _).drew.alloc (Nat.le_refl _) _ | exact ((Below.refl _ _).alloc (Nat.le_refl _) _).drew) hown10 hgrow (hat.imp_right fun e => by rw [e]; simp)
                  clear hown10 hgrow hat hlt10))
            all_goals go_wp2
            all_goals go_roundw
            all_goals first | exact ⟨i + 1, _, _, rfl, by omega, FN⟩ | exact ⟨⟨i + 1, _, _, rfl, by omega, FN⟩, by simp only [intOf]; omega⟩ | (simp only [intOf]; omega)

          · by_cases k2 : kd = 2
            · subst k2
              replace m3 : wz.cell? ⟨b9, 3, none⟩ = some (.int .u8 (2 : Int)) := m3
              clear hkd1 hkd4 k1 k4 k1'
              go_upto_region 13 with fail
              obtain ⟨Wy, hWy⟩ : ∃ Wy, Wy = wz.setCell ⟨b9, 6, none⟩ (.float .f64 qf) := ⟨_, rfl⟩
              have hyb : Below W1.heap.size W1 Wy := by rw [hWy]; exact HKY.out.2.1.setCell (p := ⟨b9, 6, none⟩) HKY.out.2.2.1 _
              have hyr : Wy.heap[b9]? = some (.cells #[.int .i64 (wk : Int), .int .u64 ((sl + 1 : Nat) : Int), .int .u64 (tn : Int), .int .u8 (2 : Int), .string key, .slice none 0 0, .float .f64 qf, .int .i64 0] 52 (0, 0)) := by rw [hWy]; rw [heapSame HKY.out.2.2.2]; rfl
              have htx : TextBox B Wy (⟨⟨(wk : Int), sl + 1, tn, 2, key, [], qf, 0⟩, none, 0, 0⟩ : EvS) := by rw [hWy]; exact .inl ⟨rfl, rfl, rfl, rfl⟩
              rw [← hWy]
              clear hWy hf5 hf6 m0 m1 m2 m3 m4 m5 m6 m7
              obtain ⟨cobW, hFIN⟩ := FINAL Wy (⟨⟨(wk : Int), sl + 1, tn, 2, key, [], qf, 0⟩, none, 0, 0⟩ : EvS) ⟨rfl, rfl, by omega, rfl, by show sl + 1 ≤ 60; omega, by show 1 ≤ 2; omega, by show 2 ≤ 4; omega, HKY.out.1, fun _ => rfl, rfl, HQF.out⟩ hyb htx
              obtain ⟨m0, m1, m2, m3, m4, m5, m6, m7⟩ := box8 hyr
              have HFIN := Lib.hid hFIN
              have h2 : ∀ o : Obj, (Wy.alloc o).cell? ⟨B, wk, none⟩ = some (.slice xa sl xc) := fun o => by rw [((Below.refl Wy.heap.size Wy).alloc (Nat.le_refl _) o).cell (World.block_lt_of_cell? _ _ cobW)]; exact cobW
              have ROW : ∀ W, Below Wy.heap.size Wy W → W.ownsRow B 52 8 (.slice xa sl xc) sl xs := fun W hW => own_below8 (own_below8 HROW.out hyb (Nat.le_refl _)) hW (Nat.le_refl _)
              have hBy : B ≤ Wy.heap.size := Nat.le_trans HBW.out hyb.size
              clear hyb hyr htx hFIN
              go_region_law
                (first
                 | (refine step_append_lies _ rfl (.tmp 100) (.tmp 102) 34 rfl B 52 ie zeroEV 8 88 Tryd.underlying34 hie hze hsze hbye rfl (by decide) (.slice xa sl xc) sl xs (by simp [Act.eval, Act.put]) (ROW _ (by first | exact (Below.refl _ _).alloc (Nat.le_refl _) _ | exact (Below.refl _ _).drew.alloc (Nat.le_refl _) _ | exact ((Below.refl _ _).alloc (Nat.le_refl _) _).drew)) ⟨Wy.heap.size, 0, none⟩ 1 1 (#[.int .i64 (wk : Int), .int .u64 ((sl + 1 : Nat) : Int), .int .u64 (tn : Int), .int .u8 (2 : Int), .string key, .slice none 0 0, .float .f64 qf, .int .i64 0] : Array Value).toList (by simp [Act.eval, Act.put]) rfl (World.news_of_block (by first | exact heap_alloc_new _ _ | exact heap_alloc_new Wy _)) (by simp [Value.oneCell']) (by decide) hmx hn2 (by simp; omega) _ rfl ?_
                    intro g' cap' w10 hown10 hgrow hat hlt10
                    obtain ⟨c5x, y5x, FN⟩ := HFIN.out _ w10 g' cap' (by first | exact (Below.refl _ _).alloc (Nat.le_refl _) _ | exact (Below.refl _ _).drew.alloc (Nat.le_refl _) _ | exact ((Below.refl _ _).alloc (Nat.le_refl _) _).drew) hown10 hgrow (hat.imp_right fun e => by rw [e]; simp)
                    clear hown10 hgrow hat hlt10))
              all_goals go_wp2
              all_goals go_roundw
              all_goals first | exact ⟨i + 1, _, _, rfl, by omega, FN⟩ | exact ⟨⟨i + 1, _, _, rfl, by omega, FN⟩, by simp only [intOf]; omega⟩ | (simp only [intOf]; omega)

            · have k3 : kd = 3 := by omega
              subst k3
              replace m3 : wz.cell? ⟨b9, 3, none⟩ = some (.int .u8 (3 : Int)) := m3
              clear hkd1 hkd4 k1 k4 k2 k1'
              go_upto_region 13 with fail
              obtain ⟨Wy, hWy⟩ : ∃ Wy, Wy = wz.setCell ⟨b9, 6, none⟩ (.float .f64 qf) := ⟨_, rfl⟩
              have hyb : Below W1.heap.size W1 Wy := by rw [hWy]; exact HKY.out.2.1.setCell (p := ⟨b9, 6, none⟩) HKY.out.2.2.1 _
              have hyr : Wy.heap[b9]? = some (.cells #[.int .i64 (wk : Int), .int .u64 ((sl + 1 : Nat) : Int), .int .u64 (tn : Int), .int .u8 (3 : Int), .string key, .slice none 0 0, .float .f64 qf, .int .i64 0] 52 (0, 0)) := by rw [hWy]; rw [heapSame HKY.out.2.2.2]; rfl
              have htx : TextBox B Wy (⟨⟨(wk : Int), sl + 1, tn, 3, key, [], qf, 0⟩, none, 0, 0⟩ : EvS) := by rw [hWy]; exact .inl ⟨rfl, rfl, rfl, rfl⟩
              rw [← hWy]
              clear hWy hf5 hf6 m0 m1 m2 m3 m4 m5 m6 m7
              obtain ⟨cobW, hFIN⟩ := FINAL Wy (⟨⟨(wk : Int), sl + 1, tn, 3, key, [], qf, 0⟩, none, 0, 0⟩ : EvS) ⟨rfl, rfl, by omega, rfl, by show sl + 1 ≤ 60; omega, by show 1 ≤ 3; omega, by show 3 ≤ 4; omega, HKY.out.1, fun _ => rfl, rfl, HQF.out⟩ hyb htx
              obtain ⟨m0, m1, m2, m3, m4, m5, m6, m7⟩ := box8 hyr
              have HFIN := Lib.hid hFIN
              have h2 : ∀ o : Obj, (Wy.alloc o).cell? ⟨B, wk, none⟩ = some (.slice xa sl xc) := fun o => by rw [((Below.refl Wy.heap.size Wy).alloc (Nat.le_refl _) o).cell (World.block_lt_of_cell? _ _ cobW)]; exact cobW
              have ROW : ∀ W, Below Wy.heap.size Wy W → W.ownsRow B 52 8 (.slice xa sl xc) sl xs := fun W hW => own_below8 (own_below8 HROW.out hyb (Nat.le_refl _)) hW (Nat.le_refl _)
              have hBy : B ≤ Wy.heap.size := Nat.le_trans HBW.out hyb.size
              clear hyb hyr htx hFIN
              go_region_law
                (first
                 | (refine step_append_lies _ rfl (.tmp 100) (.tmp 102) 34 rfl B 52 ie zeroEV 8 88 Tryd.underlying34 hie hze hsze hbye rfl (by decide) (.slice xa sl xc) sl xs (by simp [Act.eval, Act.put]) (ROW _ (by first | exact (Below.refl _ _).alloc (Nat.le_refl _) _ | exact (Below.refl _ _).drew.alloc (Nat.le_refl _) _ | exact ((Below.refl _ _).alloc (Nat.le_refl _) _).drew)) ⟨Wy.heap.size, 0, none⟩ 1 1 (#[.int .i64 (wk : Int), .int .u64 ((sl + 1 : Nat) : Int), .int .u64 (tn : Int), .int .u8 (3 : Int), .string key, .slice none 0 0, .float .f64 qf, .int .i64 0] : Array Value).toList (by simp [Act.eval, Act.put]) rfl (World.news_of_block (by first | exact heap_alloc_new _ _ | exact heap_alloc_new Wy _)) (by simp [Value.oneCell']) (by decide) hmx hn2 (by simp; omega) _ rfl ?_
                    intro g' cap' w10 hown10 hgrow hat hlt10
                    obtain ⟨c5x, y5x, FN⟩ := HFIN.out _ w10 g' cap' (by first | exact (Below.refl _ _).alloc (Nat.le_refl _) _ | exact (Below.refl _ _).drew.alloc (Nat.le_refl _) _ | exact ((Below.refl _ _).alloc (Nat.le_refl _) _).drew) hown10 hgrow (hat.imp_right fun e => by rw [e]; simp)
                    clear hown10 hgrow hat hlt10))
              all_goals go_wp2
              all_goals go_roundw
              all_goals first | exact ⟨i + 1, _, _, rfl, by omega, FN⟩ | exact ⟨⟨i + 1, _, _, rfl, by omega, FN⟩, by simp only [intOf]; omega⟩ | (simp only [intOf]; omega)

    · obtain rfl : i = N := by omega
      by_cases hni : i < n
      · obtain rfl : i = 60 := by have := HNE.out; omega
        have hd1 : (60 : Int) < (n : Int) := by omega
        clear HNE hlt hi hn hNn hni
        go_wp2
        go_ret
        first | exact ⟨rfl, L, T, HR.out⟩ | exact ⟨L, T, rfl, HR.out⟩
      · obtain rfl : i = n := by omega
        have hz60 : ¬ ((i : Int) < (i : Int)) := by omega
        clear HNE hlt hi hNn hni
        go_wp2
        go_ret
        exact ⟨rfl, L, T, HR.out⟩
theorem feeds_lie {B0 lb wn i m ob : Nat} {w0 W : World} {L : List HV} {T : List Nat} (h : FeedsAt B0 ob lb wn w0 i m L T W) :
    Lists W.heap.size W (some ⟨ob, 0, none⟩) L := by
  refine ⟨fun hn => ⟨ob, 0, (Array.getElem?_eq_some_iff.1 h.out).1, rfl, fun k x hx => ?_⟩, fun x hx => ⟨?_, fun h0 => ?_⟩⟩
  · rw [Nat.zero_add, cell_of_row W ob _ _ _ _ h.out, List.getElem?_toArray, List.getElem?_map, hx]; rfl
  · exact own_cap8 (h.own x hx)
  · obtain ⟨g, hg, _⟩ := own_at8 (h.own x hx) h0
    have hr := RawEv.of_own (h.own x hx) h0
    obtain ⟨b, o, hA, hc⟩ := hr
    refine ⟨b, o, ?_, hA, hc⟩
    have h1 : 0 < (rowsL x.S).length := by rw [rowsL_len]; omega
    have := World.block_lt_of_cell? _ _ (hc 0 _ (List.getElem?_eq_getElem h1))
    simpa using this
theorem feeds_ev {B0 lb wn i m ob : Nat} {w0 W : World} {L : List HV} {T : List Nat} (h : FeedsAt B0 ob lb wn w0 i m L T W) (hw : wn ≤ 6) (hm : m ≤ 1000) {e : EvS} (he : e ∈ flat L) :
    Right e.e ∧ e.e.num < 18446744073709551616 ∧ (evL e.e).length ≤ 2000 ∧ TextBox B0 W e := by
  obtain ⟨x, hx, hex⟩ := List.mem_flatMap.1 he
  obtain ⟨k, hk, rfl⟩ := List.getElem_of_mem hx
  have hkT : k < T.length := by rw [h.lenT, ← h.lenL]; exact hk
  have hg := h.good k T[k] L[k] (List.getElem?_eq_getElem hk) (List.getElem?_eq_getElem hkT)
  obtain ⟨h1, h2, h3, h4, h5, h6, h7, h8, h9, h10, h11⟩ := hg.each e hex
  have ht := h.time _ (List.getElem_mem hkT)
  have hkw : k < wn := by rw [← h.lenL]; exact hk
  have htb := h.text _ hx e hex
  have htl : e.e.text.length ≤ 1 := by
    rcases htb with ⟨-, -, -, q⟩ | ⟨tb, u, -, -, -, q, -, -⟩ <;> rw [q] <;> simp
  have hr : Right e.e := by
    rw [← right_iff]
    unfold rightE
    rw [if_neg (by omega), if_neg (by omega), if_neg (by omega), if_neg (by omega), if_neg (by omega)]
  refine ⟨hr, h11, ?_, htb⟩
  have := evL_len hr
  omega
theorem box_sees {B : Nat} {W : World} {e : EvS} (h : TextBox B W e) : Sees W e.A e.n e.e.text := by
  rcases h with ⟨h1, h2, h3, h4⟩ | ⟨tb, u, h1, h2, h3, h4, h5, h6⟩
  · rw [h1, h3, h4]; exact Sees.nil _ _
  · rw [h1, h2, h4]
    refine ⟨rfl, fun _ => ⟨tb, 0, rfl, fun j v hv => ?_⟩⟩
    match j, hv with
    | 0, hv => simp at hv; subst hv; rw [cell_of_row W tb _ _ _ _ h5]; rfl
end Go.Proofs.YthdflbpmabcjlaaDoor.Ord
namespace Go.Proofs.YthdflbpmabcjlaaDoor.Lt
open Go Go.RowKit Go.Proofs.YthdflbpmabcjlaaDoor.Words Go.Proofs.YthdflbpmabcjlaaDoor.Enc Go.Proofs.YthdflbpmabcjlaaDoor.Vec
set_option linter.unusedVariables false
set_option linter.unusedSimpArgs false

def vecL (l : List Nat) : List Nat := (l.take 64).map (· % 9223372036854775808)
theorem vecL_len (l : List Nat) : (vecL l).length = min 64 l.length := by simp [vecL]
theorem vecL_small {l : List Nat} : ∀ x ∈ vecL l, x < 9223372036854775808 := fun x hx => by
  obtain ⟨y, _, rfl⟩ := List.mem_map.1 hx
  exact Nat.mod_lt _ (by omega)
theorem vecL_take {l : List Nat} {j : Nat} {x : Nat} (hj : j < 64) (hx : l[j]? = some x) : (vecL l).take (j + 1) = (vecL l).take j ++ [x % 9223372036854775808] := by
  rw [List.take_add_one]
  unfold vecL
  rw [List.getElem?_map, List.getElem?_take_of_lt hj, hx]
  rfl
theorem infoU : (Tryd.prog.info? 22).map (fun i => (i.zero, i.size, i.bytes)) = some (some (.int .u64 0), 1, 8) := by kernel_rfl
theorem us_app (a : List Nat) (x : Nat) : us (a ++ [x]) = us a ++ [.int .u64 (x : Int)] := by simp [us]
theorem own_up {w w' : World} {base size : Nat} {e : TypeId} {v : Value} {n : Nat} {xs : List Value} (h : w.ownsRow base e size v n xs) (hb : Below w.heap.size w w') : w'.ownsRow base e size v n xs := by
  refine ⟨h.1, ?_⟩
  rcases h.2 with hn | ⟨g, cap, cur, hv, hg, hh, r⟩
  · exact .inl hn
  · exact .inr ⟨g, cap, cur, hv, hg, (hb.block g (Array.getElem?_eq_some_iff.1 hh).1).trans hh, r⟩
set_option maxRecDepth 100000 in
set_option maxHeartbeats 1000000 in
theorem vector_any (A : Option Addr) (n c : Nat) (l : List Nat) (w : World) (hs : SeesU w A n l) (hn : n ≤ 9000000000000000000) :
    Calls Tryd.prog 16 #[.slice A n c] w fun e w' => ∃ A' c', e = .returned (.slice A' (vecL l).length c') ∧ w'.ownsRow w.heap.size 22 1 (.slice A' (vecL l).length c') (vecL l).length (us (vecL l)) ∧ Below w.heap.size w w' := by
  obtain ⟨i, hi, hz, hsz, hby⟩ := info_parts infoU
  have HS := Lib.hid hs
  have hn' : (n : Int) ≤ 9000000000000000000 := by omega
  obtain ⟨K, hK⟩ : ∃ K, K = (vecL l).length := ⟨_, rfl⟩
  rw [← hK]
  have HK := Lib.hid hK
  clear hs hK
  go_enter Tryd.func16, Tryd.ntmps16
  go_wp2_with fail
  go_loopw [3, 4] (fun x y wr => ∃ (j : Nat) (A' : Option Addr) (c' : Nat), y = .int .i64 (j : Int) ∧ x = .slice A' j c' ∧ j ≤ n ∧ j ≤ 64 ∧ Hid (wr.ownsRow w.heap.size 22 1 (.slice A' j c') j (us ((vecL l).take j)) ∧ Below w.heap.size w wr)) (fun _ y _ => 64 - (intOf y).toNat)
  case atStart => exact ⟨0, none, 0, rfl, rfl, Nat.zero_le _, by omega, Lib.hid ⟨World.ownsRow_nil w _ _ 1, Below.refl _ _⟩⟩
  case round =>
    obtain ⟨j, A', c', rfl, rfl, hj, hj64, HO⟩ := hrel
    by_cases h1 : j < n
    · have hd1 : (j : Int) < (n : Int) := by omega
      by_cases h2 : j < 64
      · have hd2 : (j : Int) < 64 := by omega
        have hd0 : (0 : Int) ≤ (j : Int) := by omega
        obtain ⟨x, hx⟩ : ∃ x, l[j]? = some x := ⟨_, List.getElem?_eq_getElem (by rw [HS.out.1]; exact h1)⟩
        obtain ⟨b, o, rfl, hc⟩ := HS.out.2 (by omega)
        have hcell : wr.cell? ⟨b, o + j, none⟩ = some (.int .u64 (x : Int)) := by
          have h3 := hc j x hx
          rw [HO.out.2.cell (World.block_lt_of_cell? _ _ h3)]
          exact h3
        obtain ⟨y, hy⟩ : ∃ y, y = x % 9223372036854775808 := ⟨_, rfl⟩
        have hm : (x : Int) % 9223372036854775808 = (y : Int) := by omega
        have HT := Lib.hid (vecL_take h2 hx)
        rw [← hy] at HT
        have hwn : (wr.alloc (.cells #[.int .u64 (y : Int)] 22)).ownsRow w.heap.size 22 1 (.slice A' j c') j (us ((vecL l).take j)) := own_up HO.out.1 ((Below.refl _ _).alloc (Nat.le_refl _) _)
        have hbs := HO.out.2.size
        have HO2 := Lib.hid hwn
        clear hc hx hy
        go_wp2_with (first | (at_builtin; (refine wpList_append_own _ rfl _ _ 24 rfl w.heap.size 22 i (.int .u64 0) 1 8 Tryd.underlying24 hi hz hsz hby rfl (by decide) (.slice A' j c') j (us ((vecL l).take j)) rfl hwn ⟨wr.heap.size, 0, none⟩ 1 1 [.int .u64 (y : Int)] rfl rfl ?c1 ?c2 ?c3 ?c4 ?c5 ?_)))
        case c1 =>
          intro k u hk
          match k, hk with
          | 0, hk => simp at hk; subst hk; simp [Addr.add]
        case c2 => intro u hu; simp at hu; subst hu; rfl
        case c3 => unfold maxLen; omega
        case c4 => omega
        case c5 => simp; omega
        intro v' w3 hown3 hgrow _
        have hb3 : Below w.heap.size (wr.alloc (.cells #[.int .u64 (y : Int)] 22)) w3 := (Below.refl _ _).grown hgrow (by simp; omega) (fun g hg => by have := (hwn.lt g hg).1; omega)
        have HB3 := Lib.hid ((HO.out.2.alloc HO.out.2.size _).trans hb3)
        obtain ⟨A3, c3, rfl, _⟩ := Own.shape hown3
        have hown4 : w3.ownsRow w.heap.size 22 1 (.slice A3 (j + 1) c3) (j + 1) (us ((vecL l).take (j + 1))) := by
          rw [HT.out, us_app]
          exact hown3
        have HO3 := Lib.hid (And.intro hown4 HB3.out)
        clear hown3 hgrow hb3 hown4 hwn hcell hbs
        go_wp2
        go_roundw
        case rel => exact ⟨j + 1, A3, c3, by simp, rfl, by omega, by omega, HO3⟩
        case measure => simp [intOf]; omega
      · obtain rfl : j = 64 := by omega
        have hlen : (vecL l).length = 64 := by rw [vecL_len, HS.out.1]; omega
        have HO3 := Lib.hid (show wr.ownsRow w.heap.size 22 1 (.slice A' 64 c') 64 (us (vecL l)) ∧ Below w.heap.size w wr by
          have := HO.out
          rwa [List.take_of_length_le (by omega)] at this)
        obtain rfl : K = 64 := HK.out.trans hlen
        go_wp2
        go_ret
        exact ⟨A', c', rfl, HO3.out.1, HO3.out.2⟩
    · obtain rfl : j = n := by omega
      have hd1 : ¬ (j : Int) < (j : Int) := by omega
      have hlen : (vecL l).length = j := by rw [vecL_len, HS.out.1]; omega
      have HO3 := Lib.hid (show wr.ownsRow w.heap.size 22 1 (.slice A' j c') j (us (vecL l)) ∧ Below w.heap.size w wr by
        have := HO.out
        rwa [List.take_of_length_le (by omega)] at this)
      obtain rfl : K = j := HK.out.trans hlen
      clear hlen
      go_wp2
      go_ret
      exact ⟨A', c', rfl, HO3.out.1, HO3.out.2⟩
end Go.Proofs.YthdflbpmabcjlaaDoor.Lt
