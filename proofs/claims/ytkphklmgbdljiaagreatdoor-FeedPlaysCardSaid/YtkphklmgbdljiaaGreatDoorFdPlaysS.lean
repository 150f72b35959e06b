/- FeedPlays: what its final text stands on. -/
import Derived.Test.YtkphklmgbdljiaaGreatDoorFdPlays
import Derived.Test.YtkphklmgbdljiaaGreatDoorFdBeg
import Derived.Deep.SlicePairs
namespace Go.Proofs.YtkphklmgbdljiaaGreatDoor.Seg
open Go Go.RowKit Go.Proofs.YtkphklmgbdljiaaGreatDoor.Words Go.ChangeShapes Go.WideShapes
set_option linter.unusedVariables false

def toN : Value → Nat
  | .int _ z => z.toNat
  | _ => 0
theorem seesP_of {H : Type} {enc : TypeId × Value → H} {w : World} {base fuel : Nat} {a : Option Addr} {len cap : Nat} {x : DataW H × List MemPlace}
    (h : DataW.trod enc Tryz.prog w base (fun _ => true) true fuel 22 [.slice a len cap] = some x) : ∃ l, SeesP w a len l ∧ len ≤ cap ∧ cap ≤ maxLen := by
  rcases Go.Deep.open_slice_pairs Tryz.underlying22 Tryz.underlying33 (by kernel_rfl) rfl rfl (by kernel_rfl) (by kernel_rfl) h with ⟨hcs, _⟩ | ⟨ad, len', cap', m, nf, V0, V1, D0, D1, P0, P1, hcs, hb, hl, hm, hmm, hx, hc⟩
  · simp at hcs
    obtain ⟨rfl, rfl, rfl⟩ := hcs
    exact ⟨[], ⟨rfl, (fun a ha => by cases ha), fun h => absurd h (by omega)⟩, Nat.le_refl _, Nat.zero_le _⟩
  · simp at hcs
    obtain ⟨rfl, rfl, rfl⟩ := hcs
    have hm' : m = cap := by simpa using hmm
    have each : ∀ i, i < len → w.cell? (ad.add (i * 2)) = some (.int .u8 ((toN (V0 i) : Nat) : Int)) ∧ w.cell? (ad.add (i * 2 + 1)) = some (.int .u8 ((toN (V1 i) : Nat) : Int)) ∧ toN (V0 i) < 256 ∧ toN (V1 i) < 256 := by
      intro i hi
      obtain ⟨h0, h1, t0, t1⟩ := hc i (by omega)
      obtain ⟨z0, e0, f0, w0⟩ := DataW.trod_int Tryz.underlying5 t0
      obtain ⟨z1, e1, f1, w1⟩ := DataW.trod_int Tryz.underlying5 t1
      have v0 : V0 i = .int .u8 z0 := by simpa using e0
      have v1 : V1 i = .int .u8 z1 := by simpa using e1
      simp [Lit.wf, IntKind.min, IntKind.max, IntKind.signed, IntKind.bits] at w0 w1
      rw [h0, h1, v0, v1]
      simp only [toN]
      refine ⟨by congr 2; omega, by congr 2; omega, by omega, by omega⟩
    refine ⟨(List.range len).map fun i => (toN (V0 i), toN (V1 i)), ⟨by simp, fun p hp => ?_, fun hn => ?_⟩, hl, hm⟩
    · obtain ⟨i, hi, rfl⟩ := List.mem_map.1 hp
      have := each i (by simpa using hi)
      exact ⟨this.2.2.1, this.2.2.2⟩
    · obtain ⟨b, o, s⟩ := ad
      have h0 := (each 0 hn).1
      have hs0 : s = none := by simpa [Addr.add] using World.cell?_spot h0
      subst hs0
      refine ⟨b, o, rfl, fun j p hp => ?_⟩
      rw [List.getElem?_map] at hp
      by_cases hj : j < len
      · rw [List.getElem?_range hj] at hp
        simp at hp
        subst hp
        have := each j hj
        rw [Words.add_plain, Words.add_plain] at this
        exact ⟨this.1, by rw [Nat.add_assoc]; exact this.2.1⟩
      · rw [List.getElem?_eq_none (by simp; omega)] at hp
        cases hp
end Go.Proofs.YtkphklmgbdljiaaGreatDoor.Seg
namespace Go.Proofs.YtkphklmgbdljiaaGreatDoor.Fd
open Go Go.RowKit
theorem begins (I : Inhabited XS) : @BeginSaid I := @begin_at I
end Go.Proofs.YtkphklmgbdljiaaGreatDoor.Fd
