/- What SegmentStrange asks of the disk: records that are added, a file that is renamed, another one beside it. -/
import Derived.Test.YtfdnlgigllflfaaGreatDoorSegCut
import Derived.Test.YtfdnlgigllflfaaGreatDoorEvRef
namespace Go.Proofs.YtfdnlgigllflfaaGreatDoor.Seg
open Go Go.RowKit Go.Proofs.YtfdnlgigllflfaaGreatDoor.Words Go.Proofs.YtfdnlgigllflfaaGreatDoor.Enc Go.Proofs.YtfdnlgigllflfaaGreatDoor.Evt Go.Proofs.YtfdnlgigllflfaaGreatDoor.Made Go.Proofs.YtfdnlgigllflfaaGreatDoor.Dsk Go.Proofs.YtfdnlgigllflfaaGreatDoor.Sht
set_option linter.unusedVariables false
set_option linter.unusedSimpArgs false

theorem wraps_one (LL : List (List UInt8)) (l : List UInt8) : wraps (LL ++ [l]) = wraps LL ++ wrap l := by rw [wraps_append]; simp [wraps]
/-- A record is added to the disk's one file. -/
theorem addRow (d : Nat) (S : List Nat) (NM HD : List UInt8) (LL : List (List UInt8)) (N acts : Nat) (A : Option Addr) (n c : Nat) (l : List UInt8) (w : World) (T : Chk.Tabs w) (hd : Disk w d S [⟨NM, HD ++ wraps LL, N⟩] ⟨65536, acts, -1, 0, false⟩) (hok : okName NM = true) (hac : acts < 100000) (hn : n ≤ 2000) (hnc : n ≤ c) (hs : Sees w A n l) (hfit : HD.length + (wraps LL).length + (wrap l).length ≤ 65536) :
    Calls Tryz.prog 21 #[.pointer (some ⟨d, 0, none⟩), .string ⟨NM.toArray⟩, .slice A n c] w fun e w' => e = .returned (.int .i64 0) ∧ Dsk.Next S w d [⟨NM, HD ++ wraps (LL ++ [l]), N⟩] ⟨65536, acts + 1, -1, 0, false⟩ w' := by
  have ha := app_one NM (HD ++ wraps LL) (wrap l) N acts (by rw [List.length_append]; omega)
  have h := add_any d S [⟨NM, HD ++ wraps LL, N⟩] ⟨65536, acts, -1, 0, false⟩ NM A n c l w T hd (hd_ok (by omega)) (by show acts < _; omega) hok (by simp only [sumA, List.length_append]; omega) (by simp) (by omega) hnc hs
  rw [ha.1, ha.2, act_un (by decide), List.append_assoc, ← wraps_one] at h
  exact h
theorem move_one (NM NT p : List UInt8) (N acts : Nat) (hne : NM ≠ NT) : moveF ⟨65536, acts, -1, 0, false⟩ NM NT [⟨NM, p, N⟩] = [⟨NT, p, N⟩] := by
  simp [moveF, Hd.may, moved, lookA, dropF]
theorem app_two (NM FX p q : List UInt8) (N acts : Nat) (hne : NM ≠ FX) (hfit : p.length + q.length ≤ 65536) : appF ⟨65536, acts, -1, 0, false⟩ FX q [⟨NM, p, N⟩] = [⟨NM, p, N⟩, ⟨FX, q, 0⟩] := by
  have hfi : (p.length : Int) + q.length ≤ 65536 := by omega
  simp [appF, sumA, put, hfi, hne]
theorem names_ne : nameL ((5 : Nat) : Int) 3 ≠ nameL ((5 : Nat) : Int) 4 ∧ nameL ((5 : Nat) : Int) 4 ≠ nameL ((9 : Nat) : Int) 9 := by
  simp only [nameL, beginL, itoa_dig3 (show 5 < 256 by omega), itoa_dig3 (show 9 < 256 by omega)]
  decide
def feedX : List UInt8 := [102, 101, 101, 100, 45, 120]
theorem feedX_ok : okName feedX = true := by decide
theorem feedX_ne {n u : Nat} (h : n < 256) : nameL (n : Int) u ≠ feedX := fun hh => by
  have h1 := name_len (u := u) h
  rw [hh] at h1
  simp [feedX] at h1
/-- The event that the law adds behind the others. -/
theorem putE00 (x : Int) (seq time : Nat) : putE 0 0 x seq time = ⟨x, seq, time, 1, ⟨#[97]⟩, [], 0, 0⟩ := rfl
/-- An event that isn't the next one, and one with a byte behind it. -/
theorem off_other {x : Int} {q : Nat} {e : Ev} (hr : Right e) (hq : e.num < 18446744073709551616) (hp : plainE e = e) (hn : ¬(e.writer = x ∧ e.seq = q)) (M : List (List UInt8)) : prefE x q (evL e :: M) = [] := by
  have h := decG_evL hr hq
  rw [hp] at h
  exact prefE_off h hn
theorem off_more {x : Int} {q : Nat} {e : Ev} (hr : Right e) (hq : e.num < 18446744073709551616) (b : UInt8) (M : List (List UInt8)) : prefE x q ((evL e ++ [b]) :: M) = [] := by
  have h : decG (evL e ++ [b]) = .inl 4 := by
    have h := takeG_evL hr hq [b]
    unfold decG
    rw [h]
    simp
  exact prefE_bad h
theorem off_two {x : Int} {q : Nat} {B1 B2 : List UInt8} (h : ∀ M, prefE x q (B1 :: M) = []) : prefE x q [B1, B2] = [] := h _
/-- The law's event of small numbers 0, 0. -/
def zEv (x : Int) (seq time : Nat) : Ev := ⟨x, seq, time, 1, ⟨#[97]⟩, [], 0, 0⟩
def zVal (x : Int) (seq time : Nat) (A : Option Addr) (c : Nat) : Value := .agg #[.int .i64 x, .int .u64 (seq : Int), .int .u64 (time : Int), .int .u8 1, .string ⟨#[97]⟩, .slice A 0 c, .float .f64 0, .int .i64 0]
theorem zEv_right {x seq time : Nat} (hx : x < 64) (h1 : 1 ≤ seq) (h2 : seq < 9223372036854775808) (h3 : 1 ≤ time) (h4 : time < 9223372036854775808) : Right (zEv (x : Int) seq time) := putE_right (K := 0) (T := 0) hx h1 h2 h3 h4
theorem zEv_fit {x seq time : Nat} (hx : x < 64) (h2 : seq < 9223372036854775808) (h4 : time < 9223372036854775808) : (zEv (x : Int) seq time).Fit := putE_fit (K := 0) (T := 0) hx h2 h4
theorem zEv_plain {x : Int} {seq time : Nat} : plainE (zEv x seq time) = zEv x seq time := putE_plain (K := 0) (T := 0)
theorem zEv_short {x seq time : Nat} (hx : x < 64) (h1 : 1 ≤ seq) (h2 : seq < 9223372036854775808) (h3 : 1 ≤ time) (h4 : time < 9223372036854775808) : (evL (zEv (x : Int) seq time)).length ≤ 159 := (ev_short (K := 0) (T := 0) hx h1 h2 h3 h4).1
theorem zEvent (x : Int) (seq time : Nat) (w : World) : Calls Tryz.prog 15 #[.agg #[.int .u8 0, .int .u8 0], .int .i64 x, .int .u64 (seq : Int), .int .u64 (time : Int)] w fun e w' => ∃ A c, e = .returned (zVal x seq time A c) ∧ Below w.heap.size w w' := by
  refine (event_any 0 0 x seq time w (by omega) (by omega)).mono ?_
  rintro e w' ⟨A, n, c, rfl, hs, _, _, _, hb⟩
  have hn : n = 0 := by have := hs.1; rw [putE00] at this; simpa using this.symm
  subst hn
  exact ⟨A, c, rfl, hb⟩
theorem zEnc (x seq time : Nat) (A : Option Addr) (c : Nat) (w : World) (hx : x < 64) (h1 : 1 ≤ seq) (h2 : seq < 9223372036854775808) (h3 : 1 ≤ time) (h4 : time < 9223372036854775808) : Calls Tryz.prog 14 #[zVal (x : Int) seq time A c] w (New w.heap.size (evL (zEv (x : Int) seq time)).length (evL (zEv (x : Int) seq time)) w) :=
  refEncode_any (zEv (x : Int) seq time) A 0 c w ⟨rfl, fun h => absurd h (by omega)⟩ (by simp [zEv]) (zEv_right hx h1 h2 h3 h4)
theorem zRight (x seq time : Nat) (A : Option Addr) (c : Nat) (w : World) (hx : x < 64) (h1 : 1 ≤ seq) (h2 : seq < 9223372036854775808) (h3 : 1 ≤ time) (h4 : time < 9223372036854775808) : Calls Tryz.prog 20 #[zVal (x : Int) seq time A c] w fun e w' => e = .returned (.int .i64 0) ∧ Below w.heap.size w w' := by
  have h := refRight_any (zEv (x : Int) seq time) A 0 c w (zEv_fit hx h2 h4) rfl (by simp [zEv]) (by simp [zEv, ByteArray.size])
  rw [(right_iff _).2 (zEv_right hx h1 h2 h3 h4)] at h
  exact h
theorem b8cells' {w : World} {b : Nat} {v0 v1 v2 v3 v4 v5 v6 v7 : Value} {T : TypeId} {f : Nat × Nat} (h : w.heap[b]? = some (.cells #[v0, v1, v2, v3, v4, v5, v6, v7] T f)) :
    w.cell? ⟨b, 0, none⟩ = some v0 ∧ w.cell? ⟨b, 1, none⟩ = some v1 ∧ w.cell? ⟨b, 2, none⟩ = some v2 ∧ w.cell? ⟨b, 3, none⟩ = some v3 ∧ w.cell? ⟨b, 4, none⟩ = some v4 ∧ w.cell? ⟨b, 5, none⟩ = some v5 ∧ w.cell? ⟨b, 6, none⟩ = some v6 ∧ w.cell? ⟨b, 7, none⟩ = some v7 := by
  refine ⟨?_, ?_, ?_, ?_, ?_, ?_, ?_, ?_⟩ <;> (rw [cell_of_row w b _ _ _ _ h]; rfl)
/-- While the law Strange goes on. -/
structure StrAt (w0 : World) (d : Nat) (S : List Nat) (files : List File) (h : Hd) (A3 : Option Addr) (n : Nat) (L : List Ev) (Z b8 : Nat) (W : World) : Prop where
  disk : Disk W d S files h
  sees : SeesEv S W A3 n L
  bel : Below w0.heap.size w0 W
  sub : ∀ k ∈ S, w0.heap.size ≤ k
  box : W.heap[b8]? = some (.cells #[.int .i64 5, .int .u64 3, .slice A3 n n, .int .i64 (Z : Int)] 29 (0, 0))
  nb : b8 ∉ S
theorem StrAt.lt {w0 W : World} {d : Nat} {S : List Nat} {files : List File} {h : Hd} {A3 : Option Addr} {n : Nat} {L : List Ev} {Z b8 : Nat} (s : StrAt w0 d S files h A3 n L Z b8 W) : b8 < W.heap.size := (Array.getElem?_eq_some_iff.1 s.box).1
theorem StrAt.below {w0 W W' : World} {d : Nat} {S : List Nat} {files : List File} {h : Hd} {A3 : Option Addr} {n : Nat} {L : List Ev} {Z b8 : Nat} (s : StrAt w0 d S files h A3 n L Z b8 W) (hb : Below W.heap.size W W') : StrAt w0 d S files h A3 n L Z b8 W' :=
  ⟨s.disk.below hb, s.sees.below hb, s.bel.trans (hb.mono s.bel.size), s.sub, (hb.block _ s.lt).trans s.box, s.nb⟩
theorem StrAt.next {w0 W W' : World} {d : Nat} {S S' : List Nat} {files files' : List File} {h h' : Hd} {A3 : Option Addr} {n : Nat} {L : List Ev} {Z b8 : Nat} (s : StrAt w0 d S files h A3 n L Z b8 W) (hd : Disk W' d S' files' h') (hb : Beside S W W') (hs : ∀ k ∈ S', k ∈ S ∨ W.heap.size ≤ k) : StrAt w0 d S' files' h' A3 n L Z b8 W' :=
  ⟨hd, s.sees.next hb hs, Below.beside s.bel hb s.bel.size s.sub, fun k hk => (hs k hk).elim (s.sub k) (fun h => Nat.le_trans s.bel.size h), (hb.block _ s.lt s.nb).trans s.box, fun hm => (hs _ hm).elim s.nb (fun h => by have := s.lt; omega)⟩
theorem StrAt.tabs {w0 W : World} {d : Nat} {S : List Nat} {files : List File} {h : Hd} {A3 : Option Addr} {n : Nat} {L : List Ev} {Z b8 : Nat} (s : StrAt w0 d S files h A3 n L Z b8 W) (T : Chk.Tabs w0) (ST : STabs w0) : TabsOn S W := TabsOn.of T ST s.bel s.sub
end Go.Proofs.YtfdnlgigllflfaaGreatDoor.Seg
