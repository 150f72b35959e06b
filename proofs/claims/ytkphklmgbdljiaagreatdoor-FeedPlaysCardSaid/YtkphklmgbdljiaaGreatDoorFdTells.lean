/- feed: All, Segments; what a law's feed answers. -/
import Derived.Test.YtkphklmgbdljiaaGreatDoorFdStP
import Derived.Test.YtkphklmgbdljiaaGreatDoorFdToldF
namespace Go.Proofs.YtkphklmgbdljiaaGreatDoor.Fd
open Go Go.RowKit Go.Proofs.YtkphklmgbdljiaaGreatDoor.Words Go.Proofs.YtkphklmgbdljiaaGreatDoor.Enc Go.Proofs.YtkphklmgbdljiaaGreatDoor.Evt Go.Proofs.YtkphklmgbdljiaaGreatDoor.Made Go.Proofs.YtkphklmgbdljiaaGreatDoor.Dsk Go.Proofs.YtkphklmgbdljiaaGreatDoor.Sht Go.Proofs.YtkphklmgbdljiaaGreatDoor.Seg
set_option linter.unusedVariables false
set_option linter.unusedSimpArgs false

set_option maxRecDepth 100000 in
theorem all_any [Inhabited XS] (d f x : Nat) (sz : Int) (floor time : Nat) (P : List Part) (safe : Nat) (O : List Nat) (h : Hd) (u0 : Nat) (w : World) (F : Feed w d f x sz floor time P safe O h) (G : Good x floor u0 P) :
    Calls Tryz.prog 22 #[.pointer (some ⟨f, 0, none⟩)] w fun e w' => ∃ A n c, e = .returned (.slice A n c) ∧ SeesEv O w' A n ((evsP P).drop (floor + 1 - u0)) ∧ n ≤ c ∧ Below w.heap.size w w' := by
  have hfew := G.few
  have hlo := G.lo
  have hhi := G.hi
  obtain ⟨q, hq⟩ : ∃ q, q = floor + 1 := ⟨_, rfl⟩
  obtain ⟨nx, hnx⟩ : ∃ nx, nx = u0 + (evsP P).length := ⟨_, rfl⟩
  obtain ⟨a, ha⟩ : ∃ a, a = nx - floor := ⟨_, rfl⟩
  obtain ⟨m, hm⟩ : ∃ m, m = a - 1 := ⟨_, rfl⟩
  have c3 : ∀ W, Below w.heap.size w W → W.cell? ⟨f, 3, none⟩ = some (.int .u64 (floor : Int)) := fun W hW => by
    obtain ⟨A, c, _, _, _, c3, _⟩ := (F.below hW).box
    exact c3
  have NX := Lib.hid (fun W (hW : Below w.heap.size w W) => nextF_any d f x sz floor time P safe O h u0 W (F.below hW) G)
  have FR := Lib.hid (fun W (hW : Below w.heap.size w W) => from_any d f x sz floor time P safe O h u0 q m [] w W F hW (fun k hk => by cases hk) G.chain G.few (by omega) (by omega) (by omega))
  have hcut : cutL (evsP P) (q - u0) m = (evsP P).drop (floor + 1 - u0) := by
    unfold cutL
    rw [hq, List.take_of_length_le (by rw [List.length_drop]; omega)]
  rw [hcut, List.append_nil] at FR
  rw [← hnx] at NX
  have N1 : ∀ W, Below w.heap.size w W → Calls Tryz.prog 17 #[.pointer (some ⟨f, 0, none⟩)] W fun e w' => e = .returned (.int .u64 (nx : Int)) ∧ Hid (Below w.heap.size w w') ∧ w'.cell? ⟨f, 3, none⟩ = some (.int .u64 (floor : Int)) := fun W hW => by
    refine (NX.out W hW).mono ?_
    rintro e w' ⟨rfl, hb⟩
    have b := hW.trans (hb.mono hW.size)
    exact ⟨rfl, Lib.hid b, c3 w' b⟩
  have R1 : ∀ W, Below w.heap.size w W → Calls Tryz.prog 40 #[.pointer (some ⟨f, 0, none⟩), .int .u64 (q : Int), .int .i64 (m : Int)] W fun e w' => ∃ A n c, e = .returned (.slice A n c) ∧ Hid (SeesEv O w' A n ((evsP P).drop (floor + 1 - u0)) ∧ n ≤ c ∧ Below w.heap.size w w') ∧ w'.cell? ⟨f, 3, none⟩ = some (.int .u64 (floor : Int)) := fun W hW => by
    refine (FR.out W hW).mono ?_
    rintro e w' ⟨A, n, c, rfl, hs, hc, hb⟩
    have b := hW.trans (hb.mono hW.size)
    exact ⟨A, n, c, rfl, Lib.hid ⟨hs, hc, b⟩, c3 w' b⟩
  have hw1 : IntKind.u64.wrap ((floor : Int) + 1) = (q : Int) := by rw [IntKind.wrap_u64]; omega
  have hw2 : IntKind.u64.wrap ((nx : Int) - (floor : Int)) = (a : Int) := by rw [IntKind.wrap_u64]; omega
  have hw3 : IntKind.u64.wrap ((a : Int) - 1) = (m : Int) := by rw [IntKind.wrap_u64]; omega
  have hw4 : IntKind.i64.wrap (m : Int) = (m : Int) := by rw [IntKind.wrap_i64]; omega
  have k3 := c3 w (Below.refl _ _)
  clear hq hnx ha hm NX FR hcut c3 F G hfew hlo hhi
  go_enter Tryz.func22, Tryz.ntmps22
  go_upto_region 3 with fail
  go_region_held3 (fun w' => w'.cell? ⟨f, 3, none⟩ = some (.int .u64 (floor : Int))) (go_keep)
    (first
      | (go_at_call 17
         refine (N1 _ ?h1).mono ?_
         case h1 => first | exact Below.refl _ _ | exact (Below.refl _ _).drew
         rintro e w6 ⟨rfl, HN, k3⟩)
      | (go_at_call 40
         refine (R1 _ ?h2).mono ?_
         case h2 => first | exact HN.out | exact HN.out.drew
         rintro e w7 ⟨A7, n7, c7, rfl, HF, k3⟩))
  go_wp2
  go_ret
  exact ⟨A7, n7, c7, rfl, HF.out⟩
theorem segments_any [Inhabited XS] (d f x : Nat) (sz : Int) (floor time : Nat) (P : List Part) (safe : Nat) (O : List Nat) (h : Hd) (w : World) (F : Feed w d f x sz floor time P safe O h) :
    Calls Tryz.prog 15 #[.pointer (some ⟨f, 0, none⟩)] w fun e w' => e = .returned (.int .i64 (P.length : Int)) ∧ w = w' := by
  obtain ⟨A, c, _, _, _, _, _, c5, _⟩ := F.box
  generalize P.length = n at *
  clear F
  go_enter Tryz.func15, Tryz.ntmps15
  go_wp2
  go_ret
  exact ⟨rfl, rfl⟩
theorem gets_all {O : List Nat} {ev : Ev} {w : World} {e : Ending} {w' : World} (h : GetGives O ev w e w') : GetGives [] ev w e w' := by
  obtain ⟨r, h1, h2, h3, h4⟩ := h
  exact ⟨r, h1, h2, h3.next (B' := []) (Beside.refl _ _) (fun k hk => by cases hk), h4⟩
theorem ranges_all {O : List Nat} {L : List Ev} {w : World} {e : Ending} {w' : World} (h : RangeGives O L w e w') : RangeGives [] L w e w' := by
  obtain ⟨A, n, c, h1, h2, h3⟩ := h
  exact ⟨A, n, c, h1, h2.next (B' := []) (Beside.refl _ _) (fun k hk => by cases hk), h3⟩
variable {w0 w : World} {d f : Nat} {sz : Int} {floor tm k t0 A u0 : Nat} {P : List Part} {safe acts : Nat} {O : List Nat}
theorem StF.tells9 [Inhabited XS] (s : StF w0 w d f sz floor tm k t0 A u0 P safe acts O) (hk : k ≤ 60) (L : List Ev) (hev : evsP P = L.drop (u0 - 1)) (hL : L.length = k) : Tells9 w f floor k t0 L := by
  have G := s.fine.good
  have hn := s.next
  have hlo := G.lo
  have hhi := G.hi
  have hpos := G.pos
  have hfew := G.few
  refine ⟨fun W hW => ?_, fun W hW => (s.below hW).nextF, fun W hW => ?_, fun W hW => ?_, fun n E W hW hE => ?_, fun n E W hW hE => ?_, fun n ev W hW h1 h2 hev2 => ?_, fun n W hW h1 h2 => ?_⟩
  · refine (s.below hW).floorF.mono ?_
    rintro e w' ⟨rfl, rfl⟩
    exact ⟨rfl, Below.refl _ _⟩
  · refine (all_any d f 3 sz floor tm P safe O (hdA acts) u0 W (s.feed.below hW) G).mono ?_
    rintro e w' ⟨A2, n2, c2, rfl, hs, hc, hb⟩
    refine ⟨A2, n2, c2, rfl, ?_, hc, hb⟩
    rw [hev, List.drop_drop, show u0 - 1 + (floor + 1 - u0) = floor by omega] at hs
    exact hs.next (Beside.refl _ _) (fun k hk => by cases hk)
  · rcases s.last with ⟨he, rfl⟩ | ⟨he, le, hle, rfl, hkd⟩
    · exact time_none f t0 W (fun W2 hW2 => by
        obtain ⟨R, A, c, S, _, _, FA⟩ := (s.feed.below hW).below hW2
        exact FA.cells.2.2.2.2.1) (lastF_none d f 3 sz floor t0 P safe O (hdA acts) u0 W (s.feed.below hW) G he.symm)
    · exact time_some O le f W (lastF_some d f 3 sz floor tm P safe O (hdA acts) u0 le W (s.feed.below hW) G he hle)
  · rcases hE with ⟨rfl, rfl⟩ | ⟨h1, rfl⟩ | ⟨h1, h2, rfl⟩
    · exact get_err _ _ _ W (by decide) fun W2 hW2 => range_zero d f 3 sz floor tm P safe O (hdA acts) 1 W2 ((s.feed.below hW).below hW2)
    · exact get_err _ _ _ W (by decide) fun W2 hW2 => range_high d f 3 sz floor tm P safe O (hdA acts) u0 n 1 W2 ((s.feed.below hW).below hW2) G (by omega)
    · exact get_err _ _ _ W (by decide) fun W2 hW2 => range_low d f 3 sz floor tm P safe O (hdA acts) n 1 W2 ((s.feed.below hW).below hW2) (by omega) h2
  · rcases hE with ⟨rfl, rfl⟩ | ⟨h1, rfl⟩ | ⟨h1, h2, rfl⟩
    · exact range_zero d f 3 sz floor tm P safe O (hdA acts) 3 W (s.feed.below hW)
    · exact range_high d f 3 sz floor tm P safe O (hdA acts) u0 n 3 W (s.feed.below hW) G (by omega)
    · exact range_low d f 3 sz floor tm P safe O (hdA acts) n 3 W (s.feed.below hW) (by omega) h2
  · refine (get_ok O _ _ ev W fun W2 hW2 hlt => ?_).mono fun e w' h => gets_all h
    have hr := range_in d f 3 sz floor tm P safe O (hdA acts) u0 n 1 [W.heap.size] W W2 (s.feed.below hW) hW2 (fun k hk => by simp at hk; subst hk; exact ⟨Nat.le_refl _, hlt⟩) G h1 (by omega) (by omega)
    have e1 : cutL (evsP P) (n - u0) 1 = [ev] := by
      unfold cutL
      rw [hev, List.drop_drop, show u0 - 1 + (n - u0) = n - 1 by omega]
      apply List.ext_getElem?
      intro i
      rw [List.getElem?_take, List.getElem?_drop]
      rcases i with _ | i
      · simpa using hev2
      · simp
    rw [e1] at hr
    exact hr
  · have hr := range_in d f 3 sz floor tm P safe O (hdA acts) u0 n 3 [] W W (s.feed.below hW) (Below.refl _ _) (fun k hk => by cases hk) G h1 (by omega) (by omega)
    have e1 : cutL (evsP P) (n - u0) 3 = (L.drop (n - 1)).take 3 := by
      unfold cutL
      rw [hev, List.drop_drop, show u0 - 1 + (n - u0) = n - 1 by omega]
    rw [e1] at hr
    exact hr.mono fun e w' h => ranges_all h
end Go.Proofs.YtkphklmgbdljiaaGreatDoor.Fd
