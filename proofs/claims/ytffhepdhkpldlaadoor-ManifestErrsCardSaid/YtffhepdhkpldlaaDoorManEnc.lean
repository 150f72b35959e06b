/- manifest.Encode. -/
import Derived.Test.YtffhepdhkpldlaaDoorManFn
import Derived.Test.YtffhepdhkpldlaaDoorManLay
namespace Go.Proofs.YtffhepdhkpldlaaDoor.Man
open Go Go.RowKit Go.Proofs.YtffhepdhkpldlaaDoor.Words Go.Proofs.YtffhepdhkpldlaaDoor.Enc Go.Proofs.YtffhepdhkpldlaaDoor.Made Go.Proofs.YtffhepdhkpldlaaDoor.Tape Go.Proofs.YtffhepdhkpldlaaDoor.Vec Go.Proofs.YtffhepdhkpldlaaDoor.Dsk
set_option linter.unusedVariables false
set_option linter.unusedSimpArgs false

/-- What '[]byte(s)' lays. -/
abbrev convW (W : World) (e : TypeId) (s : ByteArray) (c : Nat) : World := (W.alloc (.cells (bytesRow s c) e ((bytesRow s c).size, (bytesRow s c).size + 1))).drew
theorem conv_sees (W : World) (e : TypeId) (s : ByteArray) (c : Nat) : Sees (convW W e s c) (some ⟨W.heap.size, 0, none⟩) s.size s.data.toList ∧ Below W.heap.size W (convW W e s c) := by
  refine ⟨(sees_marked W e _ _ s.size s.data.toList rfl fun j u hu => ?_).drew, ((Below.refl _ _).alloc (Nat.le_refl _) _).drew⟩
  have hj : j < s.data.size := by have := (List.getElem?_eq_some_iff.1 hu).1; simpa using this
  unfold bytesRow
  rw [Array.getElem?_append_left (by simpa using hj)]
  simp only [Array.getElem?_map]
  rw [← Array.getElem?_toList, hu]
  rfl
theorem box5 {w : World} {b : Nat} {v0 v1 v2 v3 v4 : Value} {T : TypeId} {f : Nat × Nat} (h : w.heap[b]? = some (.cells #[v0, v1, v2, v3, v4] T f)) :
    w.cell? ⟨b, 0, none⟩ = some v0 ∧ w.cell? ⟨b, 1, none⟩ = some v1 ∧ w.cell? ⟨b, 2, none⟩ = some v2 ∧ w.cell? ⟨b, 3, none⟩ = some v3 ∧ w.cell? ⟨b, 4, none⟩ = some v4 := by
  refine ⟨?_, ?_, ?_, ?_, ?_⟩ <;> (rw [cell_of_row w b _ _ _ _ h]; rfl)
theorem boxed (v : Array Value) (T : TypeId) (w : World) {W : World} (hW : Below (w.heap.size + 1) (w.alloc (.cells v T)) W) : Below w.heap.size w W ∧
    W.heap[w.heap.size]? = some (.cells v T (0, 0)) ∧ w.heap.size < W.heap.size := by
  refine ⟨((Below.refl _ _).alloc (Nat.le_refl _) _).trans (hW.mono (by omega)), ?_, by have := hW.size; simp at this; omega⟩
  rw [hW.block w.heap.size (by omega)]
  exact heap_alloc_new w _

theorem gives_new {w w' : World} {p q : List UInt8} {A : Option Addr} {n c : Nat} (h : w'.ownsRow w.heap.size 5 1 (.slice A n c) n (cs p)) (hb : Below w.heap.size w w') (hq : p = q) : New w.heap.size q.length q w (.returned (.slice A n c)) w' := by
  subst hq
  have hn : n = p.length := by have := h.1; rw [cs_length] at this; omega
  subst hn
  exact ⟨A, c, rfl, h, hb⟩

set_option maxRecDepth 100000 in
set_option maxHeartbeats 2000000 in
theorem encode_own (m : Mn) (A : Option Addr) (n c : Nat) (w : World) (h0 : 0 ≤ m.node) (h1 : m.node < 64) (hsr : m.serial < 18446744073709551616) (htm : m.time < 18446744073709551616) (tv : Took2 w A n c m.floor) (hn : n ≤ 64) (hf : m.fold.size ≤ 100000) :
    Calls Tryd.prog 9 #[m.val A n c] w (New w.heap.size (manL m).length (manL m) w) := by
  obtain ⟨nd, sr, v, tm, fd⟩ := m
  simp only [] at h0 h1 hsr htm tv hf
  obtain ⟨k, rfl⟩ : ∃ k : Nat, nd = (k : Int) := ⟨nd.toNat, by omega⟩
  obtain ⟨r, hr⟩ : ∃ r, r = manL ⟨k, sr, v, tm, fd⟩ := ⟨_, rfl⟩
  rw [← hr]
  have HR := Lib.hid (show r = enc k ++ (enc sr ++ (layL v ++ (enc tm ++ (enc fd.size ++ fd.data.toList)))) from hr)
  clear hr
  have hwu : IntKind.u64.wrap (k : Int) = (k : Int) := by
    have h : IntKind.u64.wrap (k : Int) = (k : Int) % 18446744073709551616 := rfl
    rw [h]; omega
  have le1 := enc_ten (n := k) (by omega)
  have le2 := enc_ten (n := sr) (by omega)
  have le3 := lay_fits tv.2.1 (by have := tv.1.1; omega)
  have le4 := enc_ten (n := tm) (by omega)
  unfold Mn.val Mn.row
  simp only []
  have HBX := Lib.hid (fun W hW => boxed #[.int .i64 (k : Int), .int .u64 (sr : Int), .slice A n c, .int .u64 (tm : Int), .string fd] 26 w (W := W) hW)
  have HCV := Lib.hid (fun W => run_bytes_of_string (P := Tryd.prog) W 9 27 5 fd Tryd.underlying9 Tryd.underlying27 Tryd.underlying5)
  go_enter Tryd.func9, Tryd.ntmps9
  go_wp2_with fail
  generalize hW0 : w.alloc (.cells #[.int .i64 (k : Int), .int .u64 (sr : Int), .slice A n c, .int .u64 (tm : Int), .string fd] 26) = W0 at HBX ⊢
  have hz0 : w.heap.size + 1 ≤ W0.heap.size := by rw [← hW0]; simp
  clear hW0
  refine (lay_any none 0 0 [] _ W0 (Sees.nil _ _) (by omega) (by omega) (by omega)).mono ?_
  rintro e w1 ⟨A1, c1, rfl, hown1, hb1⟩
  rw [Int.toNat_natCast, List.nil_append, Nat.zero_add] at *
  have b1 := hb1.mono hz0
  obtain ⟨-, x1, -⟩ := HBX.out w1 b1
  obtain ⟨p0, p1, p2, p3, p4⟩ := box5 x1
  clear x1 hb1
  go_wp2_with fail
  refine (lay_any A1 _ c1 (enc k) _ w1 (Sees.of_own hown1) (by omega) (by omega) (by omega)).mono ?_
  rintro e w2 ⟨A2, c2, rfl, hown2, hb2⟩
  rw [Int.toNat_natCast] at *
  have b2 := b1.trans (hb2.mono (by have := b1.size; omega))
  obtain ⟨y2, x2, -⟩ := HBX.out w2 b2
  clear p0 p1 p2 p3 p4 hb2 hown1
  obtain ⟨p0, p1, p2, p3, p4⟩ := box5 x2
  have tv2 := tv.below y2
  have hcap2 := Own.cap hown2
  clear x2 y2
  go_wp2_with fail
  refine (vlay_fits A A2 n c _ c2 v _ w2 tv2 hn (Sees.of_own hown2) hcap2.1 hcap2.2 (by omega)).mono ?_
  rintro e w3 ⟨A3, c3, rfl, s3, hc3, hm3, hb3⟩
  have b3 := b2.trans (hb3.mono (by have := b2.size; omega))
  obtain ⟨y3, x3, -⟩ := HBX.out w3 b3
  clear p0 p1 p2 p3 p4 hb3 hown2 tv2 hcap2
  obtain ⟨p0, p1, p2, p3, p4⟩ := box5 x3
  have hl3 : (enc k ++ enc sr ++ layL v).length ≤ 720 := by simp only [List.length_append]; omega
  generalize hL3 : enc k ++ enc sr ++ layL v = L3 at s3 hl3 hc3 ⊢
  clear x3 y3 le1 le2 le3
  go_wp2_with fail
  refine (lay_any A3 _ c3 L3 _ w3 s3 (by omega) (by omega) (by omega)).mono ?_
  rintro e w4 ⟨A4, c4, rfl, hown4, hb4⟩
  rw [Int.toNat_natCast] at *
  have b4 := b3.trans (hb4.mono (by have := b3.size; omega))
  obtain ⟨y4, x4, -⟩ := HBX.out w4 b4
  clear p0 p1 p2 p3 p4 hb4 s3
  obtain ⟨p0, p1, p2, p3, p4⟩ := box5 x4
  have hcv := HCV.out
  go_wp2_with fail
  clear hcv
  have cs4 := conv_sees w4 5 fd (grownCap w4 fd.size 0 5)
  refine (layText_any A4 _ c4 _ _ fd.size (grownCap w4 fd.size 0 5) fd.data.toList _ ((Sees.of_own hown4).below cs4.2) cs4.1 (by omega) (by omega)).mono ?_
  rintro e w6 ⟨A6, c6, rfl, hown6, hb6⟩
  have b6 := b4.trans ((cs4.2.trans (hb6.mono cs4.2.size)).mono (by have := b4.size; omega))
  obtain ⟨y6, -, -⟩ := HBX.out w6 b6
  have FIN := Lib.hid (gives_new (q := r) (Own.lower (base' := w.heap.size) hown6 (by have := cs4.2.size; have := b4.size; omega)) y6 (by rw [HR.out, ← hL3]; simp only [List.append_assoc]))
  clear hown6 hown4 hb6 b6 y6 cs4 y4 x4
  go_wp2
  go_ret
  exact FIN.out
theorem encode_any (m : Mn) (A : Option Addr) (n c : Nat) (w : World) (h0 : 0 ≤ m.node) (h1 : m.node < 64) (hsr : m.serial < 18446744073709551616) (htm : m.time < 18446744073709551616) (tv : Took2 w A n c m.floor) (hn : n ≤ 64) (hf : m.fold.size ≤ 100000) :
    Calls Tryd.prog 9 #[m.val A n c] w (GivesB w (manL m)) :=
  (encode_own m A n c w h0 h1 hsr htm tv hn hf).mono fun e w' ⟨R, rc, h, ho, hb⟩ => ⟨R, rc, h, Sees.of_own ho, (Own.cap ho).1, (Own.cap ho).2, hb⟩
end Go.Proofs.YtffhepdhkpldlaaDoor.Man
