/- event.Plain: its contract. -/
import Derived.Test.YtocokfgkbdfodaaEvFn
import Derived.Test.YtocokfgkbdfodaaStruct
import Derived.Test.YtocokfgkbdfodaaTakeText
namespace Go.Proofs.Ytocokfgkbdfodaa.Evt
open Go Go.RowKit Go.Proofs.Ytocokfgkbdfodaa.Words Go.Proofs.Ytocokfgkbdfodaa.Enc Go.Proofs.Ytocokfgkbdfodaa.Q
set_option linter.unusedVariables false

/-- What Plain answers. -/
def PlainGives (e : Ev) (w : World) (e' : Ending) (w' : World) : Prop :=
  ∃ A' n' c', e' = .returned ((plainE e).val A' n' c') ∧ Sees w' A' n' (plainE e).text ∧ n' ≤ c' ∧ c' ≤ 9223372036854775807 ∧ Below w.heap.size w w'

/-- Three boxes, one behind the other. -/
theorem boxes3 (a b c : Array Value) (T : TypeId) (w : World) {W : World} (hW : Below (w.heap.size + 3) (((w.alloc (.cells a T)).alloc (.cells b T)).alloc (.cells c T)) W) :
    W.heap[w.heap.size]? = some (.cells a T (0, 0)) ∧ W.heap[w.heap.size + 1]? = some (.cells b T (0, 0)) ∧ W.heap[w.heap.size + 1 + 1]? = some (.cells c T (0, 0)) ∧ Below w.heap.size w W ∧ w.heap.size + 3 ≤ W.heap.size := by
  have b0 := (((Below.refl w.heap.size w).alloc (Nat.le_refl _) (.cells a T)).alloc (by simp) (.cells b T)).alloc (by simp; omega) (.cells c T)
  refine ⟨?_, ?_, ?_, b0.trans (hW.mono (by omega)), by have := hW.size; simp at this; omega⟩
  · rw [hW.block w.heap.size (by omega), Below.heap_alloc _ _ _ (by simp; omega), Below.heap_alloc _ _ _ (by simp)]
    exact heap_alloc_new w _
  · rw [hW.block (w.heap.size + 1) (by omega), Below.heap_alloc _ _ _ (by simp)]
    have := heap_alloc_new (w.alloc (.cells a T)) (.cells b T)
    simpa using this
  · rw [hW.block (w.heap.size + 1 + 1) (by omega)]
    have := heap_alloc_new ((w.alloc (.cells a T)).alloc (.cells b T)) (.cells c T)
    simpa using this

set_option maxRecDepth 100000 in
set_option maxHeartbeats 2000000 in
theorem plain_any (e : Ev) (A : Option Addr) (n c : Nat) (w : World) (hs : Sees w A n e.text) (hn : n ≤ 1000000000) :
    Calls Try.prog 14 #[e.val A n c] w (PlainGives e w) := by
  obtain ⟨wr, sq, tm, kd, key, text, num, node⟩ := e
  show Calls _ _ #[.agg (Ev.row _ A n c)] _ _
  unfold Ev.row
  simp only at hs ⊢
  have hsf := store_float Try.prog
  go_enter Try.func14, Try.ntmps14
  go_wp2_with fail
  have hbx : ∀ W, Below (w.heap.size + 3) (((w.alloc (.cells #[.int .i64 wr, .int .u64 (sq : Int), .int .u64 (tm : Int), .int .u8 (kd : Int), .string key, .slice A n c, .float .f64 num, .int .i64 node] 26)).alloc (.cells #[.int .i64 0, .int .u64 0, .int .u64 0, .int .u8 0, .string ⟨#[]⟩, .slice none 0 0, .float .f64 0, .int .i64 0] 26)).alloc (.cells #[.int .i64 wr, .int .u64 (sq : Int), .int .u64 (tm : Int), .int .u8 (kd : Int), .string ⟨#[]⟩, .slice none 0 0, .float .f64 0, .int .i64 0] 26)) W → _ := fun W hW => boxes3 _ _ _ _ w hW
  have HBX := Lib.hid hbx
  clear hbx
  generalize hW0 : ((w.alloc (.cells #[.int .i64 wr, .int .u64 (sq : Int), .int .u64 (tm : Int), .int .u8 (kd : Int), .string key, .slice A n c, .float .f64 num, .int .i64 node] 26)).alloc (.cells #[.int .i64 0, .int .u64 0, .int .u64 0, .int .u8 0, .string ⟨#[]⟩, .slice none 0 0, .float .f64 0, .int .i64 0] 26)).alloc (.cells #[.int .i64 wr, .int .u64 (sq : Int), .int .u64 (tm : Int), .int .u8 (kd : Int), .string ⟨#[]⟩, .slice none 0 0, .float .f64 0, .int .i64 0] 26) = W0 at HBX ⊢
  have hz0 : w.heap.size + 3 ≤ W0.heap.size := by rw [← hW0]; simp
  clear hW0
  refine (fieldsOf_any _ _).mono ?_
  rintro e w2 ⟨rfl, hb⟩
  obtain ⟨g0, g1, g2, bel, hsz⟩ := HBX.out w2 (hb.mono hz0)
  obtain ⟨p0, p1, p2, p3, p4, p5, p6, p7⟩ := box8 g0
  obtain ⟨q0, q1, q2, q3, q4, q5, q6, q7⟩ := box8 g2
  clear q0 q1 q2 q3
  have y4 := frozen_row0 (i := 4) g2
  have y5 := frozen_row0 (i := 5) g2
  have y6 := frozen_row0 (i := 6) g2
  have y7 := frozen_row0 (i := 7) g2
  have hz1 : w.heap.size < w2.heap.size := by omega
  have hz2 : w.heap.size + 1 < w2.heap.size := by omega
  have hz3 : w.heap.size + 1 + 1 < w2.heap.size := by omega
  have G := Lib.hid (And.intro g0 (And.intro g1 g2))
  have BEL := Lib.hid bel
  have HS := Lib.hid hs
  have HSZ := Lib.hid hsz
  clear g0 g1 g2 bel hs HBX hb hz0 hsz
  have fin : ∀ (v : Value) (W : World) (A' : Option Addr) (n' c' : Nat), v = (plainE ⟨wr, sq, tm, kd, key, text, num, node⟩).val A' n' c' → Sees W A' n' (plainE ⟨wr, sq, tm, kd, key, text, num, node⟩).text → n' ≤ c' → c' ≤ 9223372036854775807 → Below w.heap.size w W → PlainGives ⟨wr, sq, tm, kd, key, text, num, node⟩ w (.returned v) W :=
    fun v W A' n' c' h1 h2 h3 h4 h5 => ⟨A', n', c', by rw [h1], h2, h3, h4, h5⟩
  have FIN := Lib.hid fin
  clear fin
  have hcase : kd = 1 ∨ (kd = 2 ∨ kd = 3) ∨ kd = 4 ∨ kd = 5 ∨ (kd < 1 ∨ 5 < kd) := by omega
  rcases hcase with hk | hk | hk | hk | hk
  · rw [hk, uses1]
    have HK := Lib.hid hk
    clear hk
    go_wp2_with fail
    have bA : Below w.heap.size w ((w2.setCell ⟨w.heap.size + 1 + 1, 4, none⟩ (.string key)).alloc (.cells #[.bool true, .bool true, .bool false, .bool false] 50)) := (BEL.out.setCell (by simp; omega) _).alloc (by simp; omega) _
    have gf : ((w2.setCell ⟨w.heap.size + 1 + 1, 4, none⟩ (.string key)).alloc (.cells #[.bool true, .bool true, .bool false, .bool false] 50)).heap[w2.heap.size]? = some (.cells #[.bool true, .bool true, .bool false, .bool false] 50 (0, 0)) := by
      have := heap_alloc_new (w2.setCell ⟨w.heap.size + 1 + 1, 4, none⟩ (.string key)) (.cells #[.bool true, .bool true, .bool false, .bool false] 50)
      simpa using this
    have gb : ((w2.setCell ⟨w.heap.size + 1 + 1, 4, none⟩ (.string key)).alloc (.cells #[.bool true, .bool true, .bool false, .bool false] 50)).heap[w.heap.size + 1]? = some (.cells #[.int .i64 0, .int .u64 0, .int .u64 0, .int .u8 0, .string ⟨#[]⟩, .slice none 0 0, .float .f64 0, .int .i64 0] 26 (0, 0)) := by
      rw [Below.heap_alloc _ _ _ (by first | omega | simpa using hz2), heapOther (by omega)]; exact G.out.2.1
    have gc : ((w2.setCell ⟨w.heap.size + 1 + 1, 4, none⟩ (.string key)).alloc (.cells #[.bool true, .bool true, .bool false, .bool false] 50)).heap[w.heap.size + 1 + 1]? = some (.cells #[.int .i64 wr, .int .u64 (sq : Int), .int .u64 (tm : Int), .int .u8 (kd : Int), .string key, .slice none 0 0, .float .f64 0, .int .i64 0] 26 (0, 0)) := by
      rw [Below.heap_alloc _ _ _ (by first | omega | simpa using hz3)]
      exact (heapSame G.out.2.2).trans rfl
    have hsA := HS.out.below bA
    generalize hWA : (w2.setCell ⟨w.heap.size + 1 + 1, 4, none⟩ (.string key)).alloc (.cells #[.bool true, .bool true, .bool false, .bool false] 50) = WA at bA gf gb gc hsA ⊢
    clear hWA
    have hzA : w2.heap.size < WA.heap.size := (Array.getElem?_eq_some_iff.1 gf).1
    refine (Take.clone_any A n c text WA hsA hn).mono ?_
    rintro e w3 ⟨A', c', rfl, hown, hb3⟩
    clear p0 p1 p2 p3 p4 p5 p6 p7 q4 q5 q6 q7 y4 y5 y6 y7
    have kf := (hb3.block w2.heap.size hzA).trans gf
    have kb := (hb3.block (w.heap.size + 1) (by omega)).trans gb
    have kc := (hb3.block (w.heap.size + 1 + 1) (by omega)).trans gc
    obtain ⟨f0, f1, f2, f3⟩ := b4cells kf
    have q5 : w3.cell? ⟨w.heap.size + 1 + 1, 5, none⟩ = _ := (box8 kc).2.2.2.2.2.1
    have y5 := frozen_row0 (i := 5) kc
    have hne2 : ¬ w.heap.size + 1 + 1 = w2.heap.size := by omega
    have hne1 : ¬ w2.heap.size = w.heap.size + 1 + 1 := by omega
    have b3 := bA.trans (hb3.mono (by omega))
    have HKB := Lib.hid kb
    have HKC := Lib.hid kc
    have HB3 := Lib.hid b3
    have HO := Lib.hid (And.intro hown hb3.size)
    have HZA := Lib.hid hzA
    clear kf kb kc gf gb gc hb3 hown bA hsA b3 hzA
    go_wp2_with (first
      | (refine wpList_getRow rfl 26 (.tmp 3) rfl (w.heap.size + 1 + 1) 26 #[.int .i64 wr, .int .u64 (sq : Int), .int .u64 (tm : Int), .int .u8 (kd : Int), .string key, .slice A' n c', .float .f64 0, .int .i64 0] (0, 0) _ rfl ?g1 Try.underlying26 rfl (by kernel_rfl) ?_)
      | (refine wpList_putRow rfl 26 (.tmp 2) (.tmp 43) rfl (w.heap.size + 1) 26 #[.int .i64 0, .int .u64 0, .int .u64 0, .int .u8 0, .string ⟨#[]⟩, .slice none 0 0, .float .f64 0, .int .i64 0] #[.int .i64 wr, .int .u64 (sq : Int), .int .u64 (tm : Int), .int .u8 (kd : Int), .string key, .slice A' n c', .float .f64 0, .int .i64 0] rfl rfl ?g2 (by kernel_rfl) rfl (by simp [Value.oneCell']) ?_))
    case g1 => exact (heapSame HKC.out).trans rfl
    case g2 => rw [heapOther (by omega)]; exact HKB.out
    intro W' hW' hbe
    have BB : Hid (Below w.heap.size w W') := Lib.hid (Below.beside (HB3.out.setCell (by simp; omega) _) hbe (by have := HB3.out.size; simp; first | omega | (simp; omega)) (by simp))
    have TX : Hid (Sees W' A' n text) := Lib.hid (by
      have hzA := HZA.out
      have ho := HO.out.1
      have h5 := (Sees.of_own ho).beside ((Beside.refl [w.heap.size + 1 + 1] w3).setCell (p := ⟨w.heap.size + 1 + 1, 5, none⟩) (by simp) (.slice A' n c')) (Out.of_own ho (by simp; omega))
      exact h5.beside hbe (Out.of_own ho (by simp; omega)))
    obtain ⟨k0, k1, k2, k3, k4, k5, k6, k7⟩ := box8 hW'
    clear hbe hW'
    go_wp2
    refine bodyPost_ret (v := .agg #[.int .i64 wr, .int .u64 (sq : Int), .int .u64 (tm : Int), .int .u8 (kd : Int), .string key, .slice A' n c', .float .f64 0, .int .i64 0]) ?_ rfl (FIN.out _ _ A' n c' ?_ ?_ (Own.cap HO.out.1).1 (Own.cap HO.out.1).2 BB.out)
    · simp [results, Try.results14, go_sem, k0, k1, k2, k3, k4, k5, k6, k7]
    · have hk := HK.out
      simp [plainE, Ev.val, hk]
    · have hk := HK.out
      have : (plainE ⟨wr, sq, tm, kd, key, text, num, node⟩).text = text := by simp [plainE, hk]
      rw [this]
      exact TX.out
  · have hu : ∃ b, usesV kd = .tuple #[.agg #[.bool true, .bool false, .bool true, .bool false], .bool b] := by
      rcases hk with rfl | rfl
      · exact ⟨_, uses2⟩
      · exact ⟨_, uses3⟩
    obtain ⟨b, hu⟩ := hu
    rw [hu]
    have HK := Lib.hid hk
    clear hk hu
    go_wp2_with fail
    refine (plainQ_any _ _).mono ?_
    rintro e w3 ⟨rfl, rfl⟩
    go_wp2_with (first
      | (refine wpList_getRow rfl 26 (.tmp 3) rfl (w.heap.size + 1 + 1) 26 #[.int .i64 wr, .int .u64 (sq : Int), .int .u64 (tm : Int), .int .u8 (kd : Int), .string key, .slice none 0 0, .float .f64 (qb num), .int .i64 0] (0, 0) _ rfl ?g1 Try.underlying26 rfl (by kernel_rfl) ?_)
      | (refine wpList_putRow rfl 26 (.tmp 2) (.tmp 43) rfl (w.heap.size + 1) 26 #[.int .i64 0, .int .u64 0, .int .u64 0, .int .u8 0, .string ⟨#[]⟩, .slice none 0 0, .float .f64 0, .int .i64 0] #[.int .i64 wr, .int .u64 (sq : Int), .int .u64 (tm : Int), .int .u8 (kd : Int), .string key, .slice none 0 0, .float .f64 (qb num), .int .i64 0] rfl rfl ?g2 (by kernel_rfl) rfl (by simp [Value.oneCell']) ?_))
    case g1 => rw [Below.heap_alloc _ _ _ (by first | omega | simpa using hz3)]; exact (heapSame (heapSame (G.out.2.2))).trans rfl
    case g2 => rw [Below.heap_alloc _ _ _ (by first | omega | simpa using hz2)]; rw [heapOther (by omega)]; rw [heapOther (by omega)]; exact G.out.2.1
    intro W' hW' hbe
    have BB : Hid (Below w.heap.size w W') := Lib.hid (Below.beside ((((BEL.out).setCell (by simp; omega) _).setCell (by simp; omega) _).alloc (by first | omega | (simp; omega)) _) hbe (by try simp; first | omega | (simp; omega)) (by simp))
    obtain ⟨k0, k1, k2, k3, k4, k5, k6, k7⟩ := box8 hW'
    clear hbe hW'
    go_wp2
    refine bodyPost_ret (v := .agg #[.int .i64 wr, .int .u64 (sq : Int), .int .u64 (tm : Int), .int .u8 (kd : Int), .string key, .slice none 0 0, .float .f64 (qb num), .int .i64 0]) ?_ rfl (FIN.out _ _ none 0 0 ?_ ?_ (Nat.le_refl _) (by omega) BB.out)
    · simp [results, Try.results14, go_sem, k0, k1, k2, k3, k4, k5, k6, k7]
    · have hk := HK.out
      simp [plainE, Ev.val, hk, show ¬ kd = 5 by omega, show ¬ kd = 1 by omega, show 1 ≤ kd ∧ kd ≤ 4 by omega]
    · have hk := HK.out
      have : (plainE ⟨wr, sq, tm, kd, key, text, num, node⟩).text = [] := by simp [plainE]; omega
      rw [this]
      exact Sees.nil _ _
  · have hu : usesV kd = _ := hk ▸ uses4
    rw [hu]
    have HK := Lib.hid hk
    clear hk hu
    go_wp2_with (first
      | (refine wpList_getRow rfl 26 (.tmp 3) rfl (w.heap.size + 1 + 1) 26 #[.int .i64 wr, .int .u64 (sq : Int), .int .u64 (tm : Int), .int .u8 (kd : Int), .string key, .slice none 0 0, .float .f64 0, .int .i64 0] (0, 0) _ rfl ?g1 Try.underlying26 rfl (by kernel_rfl) ?_)
      | (refine wpList_putRow rfl 26 (.tmp 2) (.tmp 43) rfl (w.heap.size + 1) 26 #[.int .i64 0, .int .u64 0, .int .u64 0, .int .u8 0, .string ⟨#[]⟩, .slice none 0 0, .float .f64 0, .int .i64 0] #[.int .i64 wr, .int .u64 (sq : Int), .int .u64 (tm : Int), .int .u8 (kd : Int), .string key, .slice none 0 0, .float .f64 0, .int .i64 0] rfl rfl ?g2 (by kernel_rfl) rfl (by simp [Value.oneCell']) ?_))
    case g1 => rw [Below.heap_alloc _ _ _ (by first | omega | simpa using hz3)]; exact (heapSame (G.out.2.2)).trans rfl
    case g2 => rw [Below.heap_alloc _ _ _ (by first | omega | simpa using hz2)]; rw [heapOther (by omega)]; exact G.out.2.1
    intro W' hW' hbe
    have BB : Hid (Below w.heap.size w W') := Lib.hid (Below.beside (((BEL.out).setCell (by simp; omega) _).alloc (by first | omega | (simp; omega)) _) hbe (by try simp; first | omega | (simp; omega)) (by simp))
    obtain ⟨k0, k1, k2, k3, k4, k5, k6, k7⟩ := box8 hW'
    clear hbe hW'
    go_wp2
    refine bodyPost_ret (v := .agg #[.int .i64 wr, .int .u64 (sq : Int), .int .u64 (tm : Int), .int .u8 (kd : Int), .string key, .slice none 0 0, .float .f64 0, .int .i64 0]) ?_ rfl (FIN.out _ _ none 0 0 ?_ ?_ (Nat.le_refl _) (by omega) BB.out)
    · simp [results, Try.results14, go_sem, k0, k1, k2, k3, k4, k5, k6, k7]
    · have hk := HK.out
      simp [plainE, Ev.val, hk]
    · have hk := HK.out
      have : (plainE ⟨wr, sq, tm, kd, key, text, num, node⟩).text = [] := by simp [plainE]; omega
      rw [this]
      exact Sees.nil _ _
  · have hu : usesV kd = _ := hk ▸ uses5
    rw [hu]
    have HK := Lib.hid hk
    clear hk hu
    go_wp2_with (first
      | (refine wpList_getRow rfl 26 (.tmp 3) rfl (w.heap.size + 1 + 1) 26 #[.int .i64 wr, .int .u64 (sq : Int), .int .u64 (tm : Int), .int .u8 (kd : Int), .string ⟨#[]⟩, .slice none 0 0, .float .f64 0, .int .i64 node] (0, 0) _ rfl ?g1 Try.underlying26 rfl (by kernel_rfl) ?_)
      | (refine wpList_putRow rfl 26 (.tmp 2) (.tmp 43) rfl (w.heap.size + 1) 26 #[.int .i64 0, .int .u64 0, .int .u64 0, .int .u8 0, .string ⟨#[]⟩, .slice none 0 0, .float .f64 0, .int .i64 0] #[.int .i64 wr, .int .u64 (sq : Int), .int .u64 (tm : Int), .int .u8 (kd : Int), .string ⟨#[]⟩, .slice none 0 0, .float .f64 0, .int .i64 node] rfl rfl ?g2 (by kernel_rfl) rfl (by simp [Value.oneCell']) ?_))
    case g1 => rw [Below.heap_alloc _ _ _ (by first | omega | simpa using hz3)]; exact (heapSame (G.out.2.2)).trans rfl
    case g2 => rw [Below.heap_alloc _ _ _ (by first | omega | simpa using hz2)]; rw [heapOther (by omega)]; exact G.out.2.1
    intro W' hW' hbe
    have BB : Hid (Below w.heap.size w W') := Lib.hid (Below.beside (((BEL.out).setCell (by simp; omega) _).alloc (by first | omega | (simp; omega)) _) hbe (by try simp; first | omega | (simp; omega)) (by simp))
    obtain ⟨k0, k1, k2, k3, k4, k5, k6, k7⟩ := box8 hW'
    clear hbe hW'
    go_wp2
    refine bodyPost_ret (v := .agg #[.int .i64 wr, .int .u64 (sq : Int), .int .u64 (tm : Int), .int .u8 (kd : Int), .string ⟨#[]⟩, .slice none 0 0, .float .f64 0, .int .i64 node]) ?_ rfl (FIN.out _ _ none 0 0 ?_ ?_ (Nat.le_refl _) (by omega) BB.out)
    · simp [results, Try.results14, go_sem, k0, k1, k2, k3, k4, k5, k6, k7]
    · have hk := HK.out
      simp [plainE, Ev.val, hk]
    · have hk := HK.out
      have : (plainE ⟨wr, sq, tm, kd, key, text, num, node⟩).text = [] := by simp [plainE]; omega
      rw [this]
      exact Sees.nil _ _
  · obtain ⟨b, hu⟩ : ∃ b, usesV kd = .tuple #[.agg #[.bool false, .bool false, .bool false, .bool false], .bool b] := by
      by_cases h6 : kd = 6
      · subst h6; exact ⟨_, uses6⟩
      · exact ⟨_, uses_no (by omega)⟩
    rw [hu]
    have HK := Lib.hid hk
    clear hk hu
    go_wp2_with (first
      | (refine wpList_getRow rfl 26 (.tmp 3) rfl (w.heap.size + 1 + 1) 26 #[.int .i64 wr, .int .u64 (sq : Int), .int .u64 (tm : Int), .int .u8 (kd : Int), .string ⟨#[]⟩, .slice none 0 0, .float .f64 0, .int .i64 0] (0, 0) _ rfl ?g1 Try.underlying26 rfl (by kernel_rfl) ?_)
      | (refine wpList_putRow rfl 26 (.tmp 2) (.tmp 43) rfl (w.heap.size + 1) 26 #[.int .i64 0, .int .u64 0, .int .u64 0, .int .u8 0, .string ⟨#[]⟩, .slice none 0 0, .float .f64 0, .int .i64 0] #[.int .i64 wr, .int .u64 (sq : Int), .int .u64 (tm : Int), .int .u8 (kd : Int), .string ⟨#[]⟩, .slice none 0 0, .float .f64 0, .int .i64 0] rfl rfl ?g2 (by kernel_rfl) rfl (by simp [Value.oneCell']) ?_))
    case g1 => rw [Below.heap_alloc _ _ _ (by first | omega | simpa using hz3)]; exact (G.out.2.2).trans rfl
    case g2 => rw [Below.heap_alloc _ _ _ (by first | omega | simpa using hz2)]; exact G.out.2.1
    intro W' hW' hbe
    have BB : Hid (Below w.heap.size w W') := Lib.hid (Below.beside ((BEL.out).alloc (by first | omega | (simp; omega)) _) hbe (by try simp; first | omega | (simp; omega)) (by simp))
    obtain ⟨k0, k1, k2, k3, k4, k5, k6, k7⟩ := box8 hW'
    clear hbe hW'
    go_wp2
    refine bodyPost_ret (v := .agg #[.int .i64 wr, .int .u64 (sq : Int), .int .u64 (tm : Int), .int .u8 (kd : Int), .string ⟨#[]⟩, .slice none 0 0, .float .f64 0, .int .i64 0]) ?_ rfl (FIN.out _ _ none 0 0 ?_ ?_ (Nat.le_refl _) (by omega) BB.out)
    · simp [results, Try.results14, go_sem, k0, k1, k2, k3, k4, k5, k6, k7]
    · have hk := HK.out
      simp [plainE, Ev.val, show ¬ kd = 1 by omega, show ¬ (kd = 2 ∨ kd = 3) by omega, show ¬ kd = 5 by omega, show ¬ (1 ≤ kd ∧ kd ≤ 4) by omega]
    · have hk := HK.out
      have : (plainE ⟨wr, sq, tm, kd, key, text, num, node⟩).text = [] := by simp [plainE]; omega
      rw [this]
      exact Sees.nil _ _
end Go.Proofs.Ytocokfgkbdfodaa.Evt
