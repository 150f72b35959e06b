/- Order: Push of the heap of lists. -/
import Derived.Test.YtlacihgoammjgaaOrdC
import Derived.Deep.RegionLaw
import Derived.Deep.AppendLies
namespace Go.Proofs.Ytlacihgoammjgaa.Ord
open Go Go.RowKit Go.Proofs.Ytlacihgoammjgaa.Words Go.Proofs.Ytlacihgoammjgaa.Enc Go.Proofs.Ytlacihgoammjgaa.Evt Go.Proofs.Ytlacihgoammjgaa.Seg
set_option linter.unusedVariables false
set_option linter.unusedSimpArgs false

theorem infoL : (Try.prog.info? 26).map (fun i => (i.zero, i.size, i.bytes)) = some (some (.slice none 0 0), 1, 24) := by kernel_rfl
@[go_sem] theorem as_list (v : Value) (w : World) : (Instr.typeAssert (.iface 26 v) 20 26 false).run Try.prog w = .ok v w := by kernel_rfl
theorem HeadsAt.fin {B p : Nat} {T : TypeId} {A : Option Addr} {c : Nat} {hs : List HV} {w W W2 : World} (h : HeadsAt B p T A c hs w) (hB : B ≤ w.heap.size) (x : HV) (hx : Lies B w x) (hW : Below w.heap.size w W) {g' cap' : Nat}
    (hown : W2.ownsRow B 26 1 (.slice (some ⟨g', 0, none⟩) (hs.length + 1) cap') (hs.length + 1) (hs.map HV.val ++ [x.val])) (hg : W.grownBy W2 (Value.slice A hs.length c).ownBlock) (hat : (Value.slice A hs.length c).ownBlock = some g' ∨ w.heap.size ≤ g') :
    W2.heap[p]? = some (.cells #[.slice A hs.length c] T (0, 0)) ∧ HeadsAt B p T (some ⟨g', 0, none⟩) cap' (hs ++ [x]) (W2.setCell ⟨p, 0, none⟩ (.slice (some ⟨g', 0, none⟩) (hs.length + 1) cap')) ∧ Below B w (W2.setCell ⟨p, 0, none⟩ (.slice (some ⟨g', 0, none⟩) (hs.length + 1) cap')) := by
  have hp := (Array.getElem?_eq_some_iff.1 h.box).1
  have hne : (Value.slice A hs.length c).ownBlock ≠ some p := by
    cases A with
    | none => simp [Value.ownBlock]
    | some a => simpa [Value.ownBlock] using h.apart a rfl
  have hWp := (hW.block p hp).trans h.box
  have h2 : W2.heap[p]? = some (.cells #[.slice A hs.length c] T (0, 0)) := (hg.block p (by have := hW.size; omega) (fun e => hne e.symm)).trans hWp
  have hgp : g' ≠ p := by
    rcases hat with h | h
    · intro e; exact hne (by rw [h, e])
    · omega
  have hlt : ∀ k, (Value.slice A hs.length c).ownBlock = some k → B ≤ k := fun k hk => (h.own.lt k hk).1
  have hb2 : Below B w W2 := (hW.mono hB).trans ((Below.refl B W).grown hg (by have := hW.size; omega) hlt)
  have hb3 : Below B w (W2.setCell ⟨p, 0, none⟩ (.slice (some ⟨g', 0, none⟩) (hs.length + 1) cap')) := hb2.setCell h.low _
  refine ⟨h2, ⟨?_, ?_, fun a ha => by cases ha; exact hgp, h.low, fun y hy => ?_⟩, hb3⟩
  · have := heapSame (i := 0) (v := .slice (some ⟨g', 0, none⟩) (hs.length + 1) cap') h2
    rw [this]
    simp
  · rcases hown.2 with ⟨hv, _⟩ | ⟨g, cap, cur, hv, hbg, hh, r⟩
    · cases hv
    · have e1 : g' = g := by injection hv with e1 _ _; injection e1 with e1; injection e1
      subst e1
      simp only [List.length_append, List.length_cons, List.length_nil, List.map_append, List.map_cons, List.map_nil, Nat.zero_add]
      exact ⟨hown.1, .inr ⟨g', cap, cur, hv, hbg, (heapOther hgp).trans hh, r⟩⟩
  · rcases List.mem_append.1 hy with hy | hy
    · exact (h.lie y hy).below hb3
    · rw [List.mem_singleton.1 hy]; exact hx.below hb3

set_option maxRecDepth 100000 in
set_option maxHeartbeats 4000000 in
theorem push_any {B p : Nat} {T : TypeId} {A : Option Addr} {c : Nat} {hs : List HV} {w : World} (h : HeadsAt B p T A c hs w) (hB : B ≤ w.heap.size) (x : HV) (hx : Lies B w x) (hn : hs.length ≤ 1000000000) :
    Calls Try.prog 92 #[.pointer (some ⟨p, 0, none⟩), .iface 26 x.val] w fun e w' => e = .returned (.tuple #[]) ∧ (∃ A' c', HeadsAt B p T A' c' (hs ++ [x]) w') ∧ Below B w w' := by
  obtain ⟨i, hi, hz, hsz, hby⟩ := info_parts infoL
  have hc := h.cell
  have hfz : w.frozen? ⟨p, 0, none⟩ = false := frozen_row0 h.box
  have ROW : ∀ W, Below w.heap.size w W → W.ownsRow B 26 1 (.slice A hs.length c) hs.length (hs.map HV.val) := fun W hW => own_below8 h.own hW (Nat.le_refl _)
  have FIN : ∀ (W W2 : World) (g' cap' : Nat), Below w.heap.size w W → W2.ownsRow B 26 1 (.slice (some ⟨g', 0, none⟩) (hs.length + 1) cap') (hs.length + 1) (hs.map HV.val ++ [x.val]) → W.grownBy W2 (Value.slice A hs.length c).ownBlock → ((Value.slice A hs.length c).ownBlock = some g' ∨ w.heap.size ≤ g') →
      W2.cell? ⟨p, 0, none⟩ = some (.slice A hs.length c) ∧ W2.frozen? ⟨p, 0, none⟩ = false ∧ Hid ((∃ A' c', HeadsAt B p T A' c' (hs ++ [x]) (W2.setCell ⟨p, 0, none⟩ (.slice (some ⟨g', 0, none⟩) (hs.length + 1) cap'))) ∧ Below B w (W2.setCell ⟨p, 0, none⟩ (.slice (some ⟨g', 0, none⟩) (hs.length + 1) cap'))) := fun W W2 g' cap' hW ho hg hat => by
    obtain ⟨q1, q2, q3⟩ := h.fin hB x hx hW ho hg hat
    exact ⟨by rw [cell_of_row W2 p _ _ _ _ q1]; rfl, frozen_row0 q1, Lib.hid ⟨⟨_, _, q2⟩, q3⟩⟩
  obtain ⟨xs, hxs⟩ : ∃ xs, xs = hs.map HV.val := ⟨_, rfl⟩
  rw [← hxs] at ROW FIN
  obtain ⟨xa, xn, xc, hxv⟩ : ∃ xa xn xc, x.val = .slice xa xn xc := ⟨_, _, _, rfl⟩
  rw [hxv] at FIN ⊢
  have hc2 : (w.alloc (.cells #[.slice xa xn xc] 26)).cell? ⟨p, 0, none⟩ = some (.slice A hs.length c) := by
    rw [((Below.refl w.heap.size w).alloc (Nat.le_refl _) _).cell (Array.getElem?_eq_some_iff.1 h.box).1]; exact hc
  have hmx : hs.length + 1 ≤ maxLen := by unfold maxLen; omega
  clear h hxs
  generalize hs ++ [x] = hs' at *
  generalize hs.length = n at *
  have hn2 : (n + 1) * 24 ≤ 140737488355328 := by omega
  go_enter Try.func92, Try.ntmps92
  go_wp2_with fail
  go_region_law
    (first
     | (refine step_append_lies _ rfl (.tmp 7) (.tmp 10) 68 rfl B 26 i (.slice none 0 0) 1 24 Try.underlying68 hi hz hsz hby rfl (by decide) (.slice A n c) n xs (by simp [Act.eval, Act.put]) (ROW _ (by first | exact (Below.refl _ _).alloc (Nat.le_refl _) _ | exact (Below.refl _ _).drew.alloc (Nat.le_refl _) _ | exact ((Below.refl _ _).alloc (Nat.le_refl _) _).drew)) ⟨w.heap.size, 0, none⟩ 1 1 (#[.slice xa xn xc] : Array Value).toList (by simp [Act.eval, Act.put]) rfl (World.news_of_block (by first | exact heap_alloc_new _ _ | exact heap_alloc_new w _)) (by simp [Value.oneCell']) (by decide) hmx hn2 (by simp; omega) _ rfl ?_
        intro g' cap' w10 hown10 hgrow hat hlt10
        obtain ⟨c5x, y5x, FN⟩ := FIN _ w10 g' cap' (by first | exact (Below.refl _ _).alloc (Nat.le_refl _) _ | exact (Below.refl _ _).drew.alloc (Nat.le_refl _) _ | exact ((Below.refl _ _).alloc (Nat.le_refl _) _).drew) hown10 hgrow (hat.imp_right fun e => by rw [e]; simp)
        clear hown10 hgrow hat hlt10))
  all_goals go_wp2
  all_goals go_end0
  all_goals exact ⟨rfl, FN.out⟩
end Go.Proofs.Ytlacihgoammjgaa.Ord
