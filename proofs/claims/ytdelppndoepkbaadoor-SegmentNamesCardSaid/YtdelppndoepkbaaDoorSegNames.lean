/- The law SegmentNames, walked. -/
import Derived.Test.YtdelppndoepkbaaDoorSegSplit
namespace Go.Proofs.YtdelppndoepkbaaDoor.Seg
open Go Go.RowKit Go.Proofs.YtdelppndoepkbaaDoor.Words Go.Proofs.YtdelppndoepkbaaDoor.Enc Go.Proofs.YtdelppndoepkbaaDoor.Made Go.Proofs.YtdelppndoepkbaaDoor.Dsk
set_option linter.unusedVariables false

set_option maxRecDepth 100000 in
theorem names_long (n u : Nat) (s : ByteArray) (w : World) (T : STabs w) (h : 60 < s.size) :
    Calls Tryd.prog 3 #[.int .u8 (n : Int), .int .u64 (u : Int), .string s] w fun e w' => e = .returned (.bool true) ∧ Below w.heap.size w w' := by
  have h60 : decide ((60 : Int) < (s.size : Int)) = true := by simp; omega
  go_enter Tryd.func3, Tryd.ntmps3
  go_wp2_with fail
  refine (awake_any w T).mono ?_
  rintro e w1 ⟨rfl, hb1⟩
  go_wp2_with fail
  refine (awake_any w1 (T.below hb1)).mono ?_
  rintro e w2 ⟨rfl, hb2⟩
  have b2 := hb1.trans (hb2.mono hb1.size)
  go_wp2
  go_ret
  exact ⟨rfl, b2⟩

set_option maxRecDepth 100000 in
set_option maxHeartbeats 1000000 in
theorem names_short (n u : Nat) (l : List UInt8) (w : World) (T : STabs w) (hn : n < 256) (hu : u < 18446744073709551616) (h : l.length ≤ 60) :
    Calls Tryd.prog 3 #[.int .u8 (n : Int), .int .u64 (u : Int), .string ⟨l.toArray⟩] w fun e w' => e = .returned (.bool true) ∧ Below w.heap.size w w' := by
  have h60 : ¬ 60 < l.length := by omega
  have hname := fun W hT => name_any (n : Int) u (by omega) (by omega) hu W hT
  have hbeg := fun W hT => begin_any (n : Int) (by omega) (by omega) W hT
  have hnl := name_len (u := u) hn
  have hbl := begin_len hn
  have hsp := fun W hT => split_any (nameL (n : Int) u) (by omega) W hT
  have hok := fun W => named_any (nameL (n : Int) u) W (name_ok hn)
  have hpre : (⟨(nameL (n : Int) u).toArray⟩ : ByteArray).extract 0 (beginL (n : Int)).length = ⟨(beginL (n : Int)).toArray⟩ := by
    apply ByteArray.ext
    simp [nameL]
  have hlen : (nameL (n : Int) u).length = (beginL (n : Int)).length + 16 := by simp [nameL, hexP_length]
  have SAME : Hid (∀ x v, (∀ (n' u' : Nat), n' < 256 → u' < 18446744073709551616 → nameL (n : Int) u = nameL (n' : Int) u' → x = (n' : Int) ∧ v = u') → x = (n : Int) ∧ v = u) := Lib.hid fun x v h => h n u hn hu rfl
  have NOT : Hid (¬ ∀ (n' u' : Nat), n' < 256 → u' < 18446744073709551616 → nameL (n : Int) u ≠ nameL (n' : Int) u') := Lib.hid fun h => h n u hn hu rfl
  unfold Splits at hsp
  generalize nameL (n : Int) u = NM at hname hnl hsp hok hpre hlen SAME NOT
  generalize beginL (n : Int) = BM at hbeg hbl hpre hlen
  obtain ⟨b, hb⟩ : ∃ b, b = BM.length := ⟨_, rfl⟩
  rw [← hb] at hpre hlen hbl
  have hNL : NM.length = b + 16 := hlen
  have hBL : BM.length = b := hb.symm
  clear hlen hb hnl
  go_enter Tryd.func3, Tryd.ntmps3
  go_wp2_with fail
  refine (awake_any w T).mono ?_
  rintro e w1 ⟨rfl, b1⟩
  go_wp2_with fail
  refine (hname w1 (T.below b1)).mono ?_
  rintro e w2 ⟨rfl, hb2⟩
  have b2 := b1.trans (hb2.mono b1.size)
  go_wp2_with fail
  refine (hsp w2 (T.below b2)).mono ?_
  rintro e w3 ⟨hres, hb3⟩
  have b3 := b2.trans (hb3.mono b2.size)
  rcases hres with ⟨x, v, x0, x1, hv, rfl, _, hsame⟩ | ⟨rfl, hno⟩
  · obtain ⟨rfl, rfl⟩ := SAME.out x v hsame
    clear hsp hsame hname
    go_wp2_with fail
    refine (split_any l (by omega) w3 (T.below b3)).mono ?_
    rintro e w4 ⟨hres, hb4⟩
    have b4 := b3.trans (hb4.mono b3.size)
    rcases hres with ⟨y, z, y0, y1, hz, rfl, hyz, _⟩ | ⟨rfl, _⟩
    · have hnm := fun W hT => name_any y z y0 y1 hz W hT
      rw [hyz] at hnm
      clear hyz
      go_wp2_with fail
      refine (hbeg w4 (T.below b4)).mono ?_
      rintro e w5 ⟨rfl, hb5⟩
      have b5 := b4.trans (hb5.mono b4.size)
      go_wp2_with fail
      refine (hok w5).mono ?_
      rintro e w6 ⟨rfl, hb6⟩
      have b6 := b5.trans (hb6.mono b5.size)
      go_wp2_with fail
      refine (hnm w6 (T.below b6)).mono ?_
      rintro e w7 ⟨rfl, hb7⟩
      have b7 := b6.trans (hb7.mono b6.size)
      go_wp2
      go_ret
      exact ⟨rfl, b7⟩
    · go_wp2_with fail
      refine (hbeg w4 (T.below b4)).mono ?_
      rintro e w5 ⟨rfl, hb5⟩
      have b5 := b4.trans (hb5.mono b4.size)
      go_wp2_with fail
      refine (hok w5).mono ?_
      rintro e w6 ⟨rfl, hb6⟩
      have b6 := b5.trans (hb6.mono b5.size)
      go_wp2
      go_ret
      exact ⟨rfl, b6⟩
  · exact absurd hno NOT.out

theorem names_law (n u : Nat) (s : ByteArray) (w : World) (T : STabs w) (hn : n < 256) (hu : u < 18446744073709551616) :
    Calls Tryd.prog 3 #[.int .u8 (n : Int), .int .u64 (u : Int), .string s] w fun e w' => e = .returned (.bool true) ∧ Below w.heap.size w w' := by
  by_cases h : 60 < s.size
  · exact names_long n u s w T h
  · obtain ⟨l, rfl⟩ : ∃ l : List UInt8, s = ⟨l.toArray⟩ := ⟨s.data.toList, by simp⟩
    exact names_short n u l w T hn hu (by simp [ByteArray.size] at h; omega)
end Go.Proofs.YtdelppndoepkbaaDoor.Seg
