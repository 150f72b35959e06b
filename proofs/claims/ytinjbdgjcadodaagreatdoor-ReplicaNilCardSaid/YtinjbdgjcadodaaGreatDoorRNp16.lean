/- Texts of the law ReplicaNil, put together. -/
import Derived.BigQuiet
import Derived.StillTailTactics
import Derived.Deep.RegionWith
import Derived.Deep.RegionHeld3
import Derived.ChangeArms
import Derived.Test.YtinjbdgjcadodaaGreatDoorRNp03
import Derived.Test.YtinjbdgjcadodaaGreatDoorRNp05
import Derived.Test.YtinjbdgjcadodaaGreatDoorRNp09
import Derived.Test.YtinjbdgjcadodaaGreatDoorRNp11
import Derived.Test.YtinjbdgjcadodaaGreatDoorRNp14
import Derived.Test.YtinjbdgjcadodaaGreatDoorRNp15
set_option linter.unusedVariables false
set_option linter.unusedSimpArgs false
set_option maxRecDepth 100000
namespace Go.Proofs.YtinjbdgjcadodaaGreatDoor.Dsk
open Go Go.RowKit Words
theorem onC (d : Nat) (S : List Nat) (files : List File) (h : Hd) (w : World) (hd : Disk w d S files h) :
  Calls Tryz.prog 182 #[.pointer (some ⟨d, 0, none⟩)] w fun e w' => e = .returned (.bool !h.off) ∧ w = w' := by
 obtain ⟨mb, fs, hd, hf, rfl⟩ := hd
 exact on_any d mb fs h w hd
end Go.Proofs.YtinjbdgjcadodaaGreatDoor.Dsk
namespace Go.Proofs.YtinjbdgjcadodaaGreatDoor.Fd
open Go Go.RowKit Words Enc Evt Go.Proofs.YtinjbdgjcadodaaGreatDoor.Made Dsk Seg
def cells (d : Nat) (x sz : Int) (floor time : Nat) (P : Value) (safe : Int) : Array Value := #[.pointer (some ⟨d, 0, none⟩), .int .i64 x, .int .i64 sz, .int .u64 (floor : Int), .int .u64 (time : Int), P, .int .i64 safe]
theorem below_drewN' (w : World) (d : Nat) : Below w.heap.size w (w.drewN d) := ⟨rfl, rfl, rfl, Nat.le_refl _, fun _ _ => rfl⟩
def zeroRow : Array Value := #[.int .i64 0, .int .u64 0, .int .u64 0, .int .u8 0, .string ⟨#[]⟩, .slice none 0 0, .float .f64 0, .int .i64 0]
end Go.Proofs.YtinjbdgjcadodaaGreatDoor.Fd
namespace Go.Proofs.YtinjbdgjcadodaaGreatDoor.Fd
open Go Go.RowKit Words Enc Evt Go.Proofs.YtinjbdgjcadodaaGreatDoor.Made Dsk Sht Seg
structure Part where
 u : Nat
 L : List Ev
 N : Nat
def Part.z (x : Nat) (p : Part) : Nat := (headL 115 x p.u).length + (wraps (p.L.map evL)).length
def Part.file (x : Nat) (p : Part) : File := ⟨nameL (x : Int) p.u, headL 115 x p.u ++ wraps (p.L.map evL), p.N⟩
structure SegS where
 p : Part
 A : Option Addr
def SegS.cells (x : Nat) (r : SegS) : List Value := [.int .i64 (x : Int), .int .u64 (r.p.u : Int), .slice r.A r.p.L.length r.p.L.length, .int .i64 (r.p.z x : Int)]
def SegS.val (x : Nat) (r : SegS) : Value := segV (x : Int) r.p.u r.A r.p.L.length r.p.L.length (r.p.z x)
def rowsS (x : Nat) : List SegS → List Value
 | [] => []
 | r :: S => r.cells x ++ rowsS x S
theorem rowsS_append (x : Nat) : ∀ S T : List SegS, rowsS x (S ++ T) = rowsS x S ++ rowsS x T
 | [], T => rfl
 | r :: S, T => by simp [rowsS, rowsS_append x S T]
theorem rowsS_one (x : Nat) : ∀ S : List SegS, ∀ u ∈ rowsS x S, u.oneCell' = true
 | [], u, h => by cases h
 | r :: S, u, h => by
   rcases List.mem_append.1 h with h | h
   ·simp [SegS.cells] at h
    rcases h with rfl | rfl | rfl | rfl <;> rfl
   ·exact rowsS_one x S u h
theorem rowsS_get (x : Nat) : ∀ (S : List SegS) (j k : Nat) (r : SegS), S[j]? = some r → k < 4 → (rowsS x S)[j * 4 + k]? = (r.cells x)[k]?
 | [], j, k, r, h, hk => by simp at h
 | s :: S, 0, k, r, h, hk => by
   simp at h
   subst h
   rw [rowsS, Nat.zero_mul, Nat.zero_add, List.getElem?_append_left (by simp [SegS.cells]; omega)]
 | s :: S, j + 1, k, r, h, hk => by
   rw [rowsS, List.getElem?_append_right (by simp [SegS.cells]; omega)]
   rw [show (j + 1) * 4 + k - (s.cells x).length = j * 4 + k by simp [SegS.cells]; omega]
   exact rowsS_get x S j k r (by simpa using h) hk
def blk (A : Option Addr) : List Nat := (A.map (·.block)).toList
structure XS where
 X : List Nat
 O : Nat → List File := fun _ => []
 no : ∀ x : Nat, ∀ f ∈ O x, Lib.hasPrefix f.name (beginL (x : Int)) = false := by intro x f h; cases h
 few : ∀ x, sumA (O x) ≤ 10000000000 ∧ (O x).length ≤ 10000 := by intro x; exact ⟨Nat.zero_le _, Nat.zero_le _⟩
 cap : Nat := 65536
 capOk : cap ≤ 1000000 := by decide
def xsX [Inhabited XS] : List Nat := (default : XS).X
def xsO [Inhabited XS] (x : Nat) : List File := (default : XS).O x
def xsC [Inhabited XS] : Nat := (default : XS).cap
theorem xs_cap [Inhabited XS] : xsC ≤ 1000000 := (default : XS).capOk
theorem xs_few [Inhabited XS] (x : Nat) : sumA (xsO x) ≤ 10000000000 ∧ (xsO x).length ≤ 10000 := (default : XS).few x
theorem xs_ne [Inhabited XS] {x : Nat} (u : Nat) : ∀ f ∈ xsO x, f.name ≠ nameL (x : Int) u := fun f hf he => by
 have h := (default : XS).no x f hf
 rw [he] at h
 have : Lib.hasPrefix (nameL (x : Int) u) (beginL (x : Int)) = true := by
  unfold nameL Lib.hasPrefix
  simp
 rw [this] at h
 cases h
theorem look_off (s : List UInt8) (l fs : List File) (h : ∀ f ∈ l, f.name ≠ s) : lookA s (l ++ fs) = lookA s fs := by
 unfold lookA
 rw [List.find?_append, List.find?_eq_none.2 fun f hf => by simp [h f hf]]
 rfl
theorem upd_off (s : List UInt8) (g : File → File) (l fs : List File) (h : ∀ f ∈ l, f.name ≠ s) : upd s g (l ++ fs) = l ++ upd s g fs := by
 unfold upd
 rw [List.map_append]
 congr 1
 conv => rhs; rw [← List.map_id l]
 refine List.map_congr_left fun f hf => ?_
 rw [if_neg (h f hf)]
 rfl
theorem put_off (s q : List UInt8) (fs : List File) : ∀ l : List File, (∀ f ∈ l, f.name ≠ s) → put s q (l ++ fs) = l ++ put s q fs
 | [], _ => rfl
 | a :: r, h => by
   rw [List.cons_append, put, if_neg (h a (by simp)), put_off s q fs r fun f hf => h f (by simp [hf])]
   rfl
theorem look_xs [Inhabited XS] (x u : Nat) (fs : List File) : lookA (nameL (x : Int) u) (xsO x ++ fs) = lookA (nameL (x : Int) u) fs := look_off _ _ _ (xs_ne u)
theorem upd_xs [Inhabited XS] (x u : Nat) (g : File → File) (fs : List File) : upd (nameL (x : Int) u) g (xsO x ++ fs) = xsO x ++ upd (nameL (x : Int) u) g fs := upd_off _ _ _ _ (xs_ne u)
theorem put_xs [Inhabited XS] (x u : Nat) (q : List UInt8) (fs : List File) : put (nameL (x : Int) u) q (xsO x ++ fs) = xsO x ++ put (nameL (x : Int) u) q fs := put_off _ _ _ _ (xs_ne u)
theorem sumA_append : ∀ (a b : List File), sumA (a ++ b) = sumA a + sumA b
 | [], b => by simp [sumA]
 | f :: r, b => by simp [sumA, sumA_append r b]; omega
def bx [Inhabited XS] (f : Nat) (A : Option Addr) : List Nat := (f :: blk A) ++ xsX
theorem bx_in [Inhabited XS] {S : List Nat} {f : Nat} {A : Option Addr} {k : Nat} (h : k ∈ S ++ f :: blk A) : k ∈ S ++ bx f A := by
 rcases List.mem_append.1 h with h | h
 ·exact List.mem_append.2 (.inl h)
 ·exact List.mem_append.2 (.inr (List.mem_append.2 (.inl h)))
structure FeedAt [Inhabited XS] (w : World) (d f x : Nat) (sz : Int) (floor time : Nat) (R : List SegS) (safe : Nat) (A : Option Addr) (c : Nat) (S : List Nat) (h : Hd) : Prop where
 disk : Disk w d S (xsO x ++ R.map fun r => r.p.file x) h
 box : w.heap[f]? = some (.cells (cells d (x : Int) sz floor time (.slice A R.length c) (safe : Int)) 132 (0, 0))
 row : w.ownsRow 0 134 4 (.slice A R.length c) R.length (rowsS x R)
 evs : ∀ r ∈ R, SeesEv (S ++ bx f A) w r.A r.p.L.length r.p.L
 fS : f ∉ S
 aS : ∀ g ∈ blk A, g ∉ S ∧ g ≠ f
 xl : ∀ k ∈ xsX, k < w.heap.size
def Feed [Inhabited XS] (w : World) (d f x : Nat) (sz : Int) (floor time : Nat) (P : List Part) (safe : Nat) (O : List Nat) (h : Hd) : Prop :=
 ∃ R A c S, R.map SegS.p = P ∧ O = S ++ f :: blk A ∧ FeedAt w d f x sz floor time R safe A c S h
theorem own_blk {w : World} {base size : Nat} {e : TypeId} {A : Option Addr} {n c : Nat} {xs : List Value} (h : w.ownsRow base e size (.slice A n c) n xs) : ∀ g ∈ blk A, base ≤ g ∧ g < w.heap.size := by
 intro g hg
 rcases h.2 with ⟨hv, _⟩ | ⟨g', cap, cur, hv, hb, hh, _⟩
 ·injection hv with h1
  subst h1
  simp [blk] at hg
 ·injection hv with h1
  subst h1
  simp [blk] at hg
  subst hg
  exact ⟨hb, (Array.getElem?_eq_some_iff.1 hh).1⟩
theorem FeedAt.lt [Inhabited XS] {w : World} {d f x : Nat} {sz : Int} {floor time : Nat} {R : List SegS} {safe : Nat} {A : Option Addr} {c : Nat} {S : List Nat} {h : Hd} (F : FeedAt w d f x sz floor time R safe A c S h) : ∀ k ∈ S ++ f :: blk A, k < w.heap.size := by
 intro k hk
 rcases List.mem_append.1 hk with hk | hk
 ·exact F.disk.lt k hk
 ·rcases List.mem_cons.1 hk with rfl | hk
  ·exact (Array.getElem?_eq_some_iff.1 F.box).1
  ·exact (own_blk F.row k hk).2
theorem bx_lt [Inhabited XS] {w : World} {d f x : Nat} {sz : Int} {floor time : Nat} {R : List SegS} {safe : Nat} {A : Option Addr} {c : Nat} {S : List Nat} {h : Hd} (F : FeedAt w d f x sz floor time R safe A c S h) : ∀ k ∈ bx f A, k < w.heap.size := by
 intro k hk
 rcases List.mem_append.1 hk with hk | hk
 ·exact F.lt k (List.mem_append.2 (.inr hk))
 ·exact F.xl k hk
theorem own_kept {w w' : World} {base size : Nat} {e : TypeId} {A : Option Addr} {n c : Nat} {xs : List Value} (h : w.ownsRow base e size (.slice A n c) n xs) (hk : ∀ g ∈ blk A, w'.heap[g]? = w.heap[g]?) : w'.ownsRow base e size (.slice A n c) n xs := by
 refine ⟨h.1, ?_⟩
 rcases h.2 with hn | ⟨g', cap, cur, hv, hb, hh, r⟩
 ·exact .inl hn
 ·refine .inr ⟨g', cap, cur, hv, hb, ?_, r⟩
  injection hv with h1
  subst h1
  exact (hk g' (by simp [blk])).trans hh
theorem FeedAt.below [Inhabited XS] {w w' : World} {d f x : Nat} {sz : Int} {floor time : Nat} {R : List SegS} {safe : Nat} {A : Option Addr} {c : Nat} {S : List Nat} {h : Hd} (F : FeedAt w d f x sz floor time R safe A c S h) (hb : Below w.heap.size w w') : FeedAt w' d f x sz floor time R safe A c S h :=
 ⟨F.disk.below hb, (hb.block f (Array.getElem?_eq_some_iff.1 F.box).1).trans F.box, own_kept F.row fun g hg => hb.block g (own_blk F.row g hg).2, fun r hr => (F.evs r hr).below hb, F.fS, F.aS, fun k hk => Nat.lt_of_lt_of_le (F.xl k hk) hb.size⟩
theorem Feed.below [Inhabited XS] {w w' : World} {d f x : Nat} {sz : Int} {floor time : Nat} {P : List Part} {safe : Nat} {O : List Nat} {h : Hd} (F : Feed w d f x sz floor time P safe O h) (hb : Below w.heap.size w w') : Feed w' d f x sz floor time P safe O h := by
 obtain ⟨R, A, c, S, h1, h2, F⟩ := F
 exact ⟨R, A, c, S, h1, h2, F.below hb⟩
theorem Feed.lt [Inhabited XS] {w : World} {d f x : Nat} {sz : Int} {floor time : Nat} {P : List Part} {safe : Nat} {O : List Nat} {h : Hd} (F : Feed w d f x sz floor time P safe O h) : ∀ k ∈ O, k < w.heap.size := by
 obtain ⟨R, A, c, S, h1, rfl, F⟩ := F
 exact F.lt
theorem FeedAt.cells [Inhabited XS] {w : World} {d f x : Nat} {sz : Int} {floor time : Nat} {R : List SegS} {safe : Nat} {A : Option Addr} {c : Nat} {S : List Nat} {h : Hd} (F : FeedAt w d f x sz floor time R safe A c S h) :
  w.cell? ⟨f, 0, none⟩ = some (.pointer (some ⟨d, 0, none⟩)) ∧ w.cell? ⟨f, 1, none⟩ = some (.int .i64 (x : Int)) ∧ w.cell? ⟨f, 2, none⟩ = some (.int .i64 sz) ∧ w.cell? ⟨f, 3, none⟩ = some (.int .u64 (floor : Int)) ∧ w.cell? ⟨f, 4, none⟩ = some (.int .u64 (time : Int)) ∧ w.cell? ⟨f, 5, none⟩ = some (.slice A R.length c) ∧ w.cell? ⟨f, 6, none⟩ = some (.int .i64 (safe : Int)) := by
 refine ⟨?_, ?_, ?_, ?_, ?_, ?_, ?_⟩ <;> (rw [cell_of_row w f _ _ _ _ F.box]; rfl)
theorem FeedAt.cap [Inhabited XS] {w : World} {d f x : Nat} {sz : Int} {floor time : Nat} {R : List SegS} {safe : Nat} {A : Option Addr} {c : Nat} {S : List Nat} {h : Hd} (F : FeedAt w d f x sz floor time R safe A c S h) : R.length ≤ c ∧ c ≤ 9223372036854775807 := own_cap8 F.row
theorem FeedAt.at_ [Inhabited XS] {w : World} {d f x : Nat} {sz : Int} {floor time : Nat} {R : List SegS} {safe : Nat} {A : Option Addr} {c : Nat} {S : List Nat} {h : Hd} (F : FeedAt w d f x sz floor time R safe A c S h) {j : Nat} {r : SegS} (hj : R[j]? = some r) :
  ∃ g, A = some ⟨g, 0, none⟩ ∧ w.cell? ⟨g, j * 4, none⟩ = some (.int .i64 (x : Int)) ∧ w.cell? ⟨g, j * 4 + 1, none⟩ = some (.int .u64 (r.p.u : Int)) ∧ w.cell? ⟨g, j * 4 + 2, none⟩ = some (.slice r.A r.p.L.length r.p.L.length) ∧ w.cell? ⟨g, j * 4 + 3, none⟩ = some (.int .i64 (r.p.z x : Int)) := by
 have hlt : j < R.length := (List.getElem?_eq_some_iff.1 hj).1
 rcases F.row.2 with ⟨hv, h0⟩ | ⟨g, cap, cur, hv, _, hh, _, _, hc, ht⟩
 ·omega
 ·injection hv with h1
  subst h1
  have key : ∀ k, k < 4 → ∀ v, (r.cells x)[k]? = some v → w.cell? ⟨g, j * 4 + k, none⟩ = some v := by
   intro k hk v hv
   rw [cell_of_row w g _ _ _ _ hh]
   have h4 := rowsS_get x R j k r hj hk
   rw [hv, ← ht, List.getElem?_take] at h4
   split at h4
   ·simpa using h4
   ·cases h4
  exact ⟨g, rfl, key 0 (by omega) _ rfl, key 1 (by omega) _ rfl, key 2 (by omega) _ rfl, key 3 (by omega) _ rfl⟩
theorem end_any [Inhabited XS] (d f x : Nat) (sz : Int) (floor time : Nat) (R : List SegS) (safe : Nat) (A : Option Addr) (c : Nat) (S : List Nat) (h : Hd) (j : Nat) (r : SegS) (w : World) (F : FeedAt w d f x sz floor time R safe A c S h) (hn : R.length = j + 1) (hj : R[j]? = some r) (hm : j ≤ 1000000) :
  Calls Tryz.prog 64 #[.pointer (some ⟨f, 0, none⟩)] w fun e w' => e = .returned (r.val x) ∧ Below w.heap.size w w' := by
 obtain ⟨g, rfl, k0, k1, k2, k3⟩ := F.at_ hj
 obtain ⟨_, _, _, _, _, c5, _⟩ := F.cells
 have hlt := F.lt
 have hg : g < w.heap.size := hlt g (by simp [blk])
 have hf : f < w.heap.size := hlt f (by simp)
 have hw : IntKind.i64.wrap ((R.length : Int) - 1) = (j : Int) := by rw [IntKind.wrap_i64]; omega
 have hjl : j < R.length := by omega
 have hb0 := (Below.refl w.heap.size w).alloc (Nat.le_refl _) (.cells #[.int .i64 0, .int .u64 0, .slice none 0 0, .int .i64 0] 134)
 have g0 := heap_alloc_new w (.cells #[.int .i64 0, .int .u64 0, .slice none 0 0, .int .i64 0] 134)
 have n5 := (hb0.cell (p := ⟨f, 5, none⟩) hf).trans c5
 have m0 := (hb0.cell (p := ⟨g, j * 4, none⟩) hg).trans k0
 have m1 := (hb0.cell (p := ⟨g, j * 4 + 1, none⟩) hg).trans k1
 have m2 := (hb0.cell (p := ⟨g, j * 4 + 2, none⟩) hg).trans k2
 have m3 := (hb0.cell (p := ⟨g, j * 4 + 3, none⟩) hg).trans k3
 generalize R.length = n at *
 clear k0 k1 k2 k3 c5 F hlt hn hj
 go_enter Tryz.func64, Tryz.ntmps64
 go_wp2_with fail
 generalize w.alloc (.cells #[.int .i64 0, .int .u64 0, .slice none 0 0, .int .i64 0] 134) = w1 at hb0 g0 n5 m0 m1 m2 m3 ⊢
 obtain ⟨b, hb⟩ : ∃ b, b = w.heap.size := ⟨_, rfl⟩
 rw [← hb] at g0 ⊢
 have HBW : w.heap.size ≤ b := by omega
 have HB9 := Lib.hid hb
 clear hb
 have G0 := Lib.hid g0
 have B0 := Lib.hid hb0
 clear g0 hb0
 go_still_tail 12, (by kernel_rfl)
 change wpList _ _ _ _ _ w1.drew
 go_wp2_with (refine wpList_putRow rfl 134 (.tmp 2) (.tmp 14) rfl b 134 #[.int .i64 0, .int .u64 0, .slice none 0 0, .int .i64 0] #[.int .i64 (x : Int), .int .u64 (r.p.u : Int), .slice r.A r.p.L.length r.p.L.length, .int .i64 (r.p.z x : Int)] rfl rfl ?g1 (by kernel_rfl) rfl (by simp [Value.oneCell']) ?_)
 case g1 => exact G0.out
 intro W' hW' hbe
 obtain ⟨q0, q1, q2, q3⟩ := b4cells hW'
 have HB := Lib.hid (Below.beside B0.out.drew hbe B0.out.drew.size (by simp; exact HBW))
 clear hW' hbe
 go_wp2
 refine bodyPost_ret (v := r.val x) ?_ rfl ⟨rfl, HB.out⟩
 simp [results, SegS.val, segV, Tryz.results64, go_sem, q0, q1, q2, q3]
theorem next_bare (d f : Nat) (x sz : Int) (floor time : Nat) (A : Option Addr) (c : Nat) (safe : Int) (w : World) (g : w.heap[f]? = some (.cells (cells d x sz floor time (.slice A 0 c) safe) 132 (0, 0))) (hf : floor < 18446744073709551615) :
  Calls Tryz.prog 35 #[.pointer (some ⟨f, 0, none⟩)] w fun e w' => e = .returned (.int .u64 ((floor + 1 : Nat) : Int)) ∧ Below w.heap.size w w' := by
 have c5 : w.cell? ⟨f, 5, none⟩ = some (.slice A 0 c) := by rw [cell_of_row w f _ _ _ _ g]; rfl
 have c3 : w.cell? ⟨f, 3, none⟩ = some (.int .u64 (floor : Int)) := by rw [cell_of_row w f _ _ _ _ g]; rfl
 have hlt : f < w.heap.size := (Array.getElem?_eq_some_iff.1 g).1
 clear g
 go_enter Tryz.func35, Tryz.ntmps35
 go_wp2_with fail
 go_quiet (fail)
 go_wp2
 go_ret
 exact ⟨by simp, below_drewN' w _⟩
theorem nextF_last [Inhabited XS] (d f x : Nat) (sz : Int) (floor time : Nat) (R : List SegS) (safe : Nat) (A : Option Addr) (c : Nat) (S : List Nat) (h : Hd) (j : Nat) (r : SegS) (w : World) (F : FeedAt w d f x sz floor time R safe A c S h) (hn : R.length = j + 1) (hj : R[j]? = some r) (hm : j ≤ 1000000)
  (hfl : floor < r.p.u + r.p.L.length) (hlt : r.p.u + r.p.L.length < 18446744073709551616) :
  Calls Tryz.prog 35 #[.pointer (some ⟨f, 0, none⟩)] w fun e w' => e = .returned (.int .u64 ((r.p.u + r.p.L.length : Nat) : Int)) ∧ Below w.heap.size w w' := by
 obtain ⟨_, _, _, c3, _, c5, _⟩ := F.cells
 have CELLS := Lib.hid (fun W (hW : Below w.heap.size w W) => (F.below hW).cells)
 have hf : f < w.heap.size := F.lt f (by simp)
 have hlen : 0 < R.length := by omega
 have hlen' : decide ((0 : Int) < (R.length : Int)) = true := by simp; omega
 have END := Lib.hid (fun W (hW : Below w.heap.size w W) => end_any d f x sz floor time R safe A c S h j r W (F.below hW) hn hj hm)
 have NXS := Lib.hid (fun W => next_any (x : Int) r.p.u r.A r.p.L.length r.p.L.length (r.p.z x) W hlt)
 unfold segV at NXS
 unfold SegS.val segV at END
 have E1 : ∀ W, Below w.heap.size w W → Calls Tryz.prog 64 #[.pointer (some ⟨f, 0, none⟩)] W fun e w' => e = .returned (.agg #[.int .i64 (x : Int), .int .u64 (r.p.u : Int), .slice r.A r.p.L.length r.p.L.length, .int .i64 (r.p.z x : Int)]) ∧ Hid (Below w.heap.size w w') ∧ w'.cell? ⟨f, 3, none⟩ = some (.int .u64 (floor : Int)) ∧ w'.cell? ⟨f, 5, none⟩ = some (.slice A R.length c) := fun W hW => by
  refine (END.out W hW).mono ?_
  rintro e w' ⟨rfl, hb⟩
  have hb' := hW.trans (hb.mono hW.size)
  obtain ⟨_, _, _, q3, _, q5, _⟩ := CELLS.out w' hb'
  exact ⟨rfl, Lib.hid hb', q3, q5⟩
 have N1 : ∀ W, Below w.heap.size w W → Calls Tryz.prog 65 #[.agg #[.int .i64 (x : Int), .int .u64 (r.p.u : Int), .slice r.A r.p.L.length r.p.L.length, .int .i64 (r.p.z x : Int)]] W fun e w' => e = .returned (.int .u64 ((r.p.u + r.p.L.length : Nat) : Int)) ∧ Hid (Below w.heap.size w w') ∧ w'.cell? ⟨f, 3, none⟩ = some (.int .u64 (floor : Int)) ∧ w'.cell? ⟨f, 5, none⟩ = some (.slice A R.length c) := fun W hW => by
  refine (NXS.out W).mono ?_
  rintro e w' ⟨rfl, hb⟩
  have hb' := hW.trans (hb.mono hW.size)
  obtain ⟨_, _, _, q3, _, q5, _⟩ := CELLS.out w' hb'
  exact ⟨rfl, Lib.hid hb', q3, q5⟩
 generalize r.p.u + r.p.L.length = nx at *
 have hfl' : decide ((floor : Int) < (nx : Int)) = true := by simp; omega
 generalize R.length = n at *
 clear F CELLS END NXS hn hj hlt
 go_enter Tryz.func35, Tryz.ntmps35
 go_wp2_with fail
 go_region_held3 (fun w' => w'.cell? ⟨f, 3, none⟩ = some (.int .u64 (floor : Int)) ∧ w'.cell? ⟨f, 5, none⟩ = some (.slice A n c)) (go_keep)
  (first
   | (go_at_call 64
      refine (E1 _ ?h0).mono ?_
      case h0 => first | exact Below.refl _ _ | exact (Below.refl _ _).drew
      rintro e w6 ⟨rfl, HE, c3, c5⟩)
   | (go_at_call 65
      refine (N1 _ ?h1).mono ?_
      case h1 => exact HE.out
      rintro e w7 ⟨rfl, HN, c3, c5⟩))
 go_wp2_with fail
 refine (E1 _ HN.out).mono ?_
 rintro e w8 ⟨rfl, HE8, c3', c5'⟩
 go_wp2_with fail
 refine (N1 _ HE8.out).mono ?_
 rintro e w9 ⟨rfl, HN9, c3'', c5''⟩
 go_wp2
 go_ret
 exact ⟨rfl, HN9.out⟩
def Chain (x : Nat) : Nat → List Part → Prop
 | _, [] => True
 | u, p :: r => (p.u = u ∧ p.L ≠ [] ∧ Runs (x : Int) u p.L ∧ p.N ≤ p.z x) ∧ Chain x (u + p.L.length) r
def evsP : List Part → List Ev
 | [] => []
 | p :: r => p.L ++ evsP r
theorem evsP_append : ∀ P Q : List Part, evsP (P ++ Q) = evsP P ++ evsP Q
 | [], Q => rfl
 | p :: r, Q => by simp [evsP, evsP_append r Q]
theorem chain_append {x : Nat} : ∀ {P Q : List Part} {u : Nat}, Chain x u (P ++ Q) ↔ Chain x u P ∧ Chain x (u + (evsP P).length) Q
 | [], Q, u => by simp [Chain, evsP]
 | p :: r, Q, u => by
   simp only [List.cons_append, Chain, evsP, List.length_append, chain_append (P := r), Nat.add_assoc, and_assoc]
theorem chain_last {x u : Nat} {P : List Part} {p : Part} (h : Chain x u (P ++ [p])) : p.u + p.L.length = u + (evsP (P ++ [p])).length ∧ p.u = u + (evsP P).length := by
 have h2 := (chain_append.1 h).2
 simp only [Chain] at h2
 simp only [evsP_append, evsP, List.length_append, List.append_nil]
 omega
theorem chain_len {x : Nat} : ∀ {P : List Part} {u : Nat}, Chain x u P → P.length ≤ (evsP P).length
 | [], _, _ => Nat.le_refl _
 | p :: r, u, h => by
   have h1 := chain_len h.2
   have h2 := List.length_pos_iff.2 h.1.2.1
   simp only [evsP, List.length_append, List.length_cons]
   omega
structure Good (x floor u0 : Nat) (P : List Part) : Prop where
 chain : Chain x u0 P
 lo : u0 ≤ floor + 1
 hi : floor + 1 ≤ u0 + (evsP P).length
 pos : 1 ≤ u0
 few : u0 + (evsP P).length ≤ 1000
theorem list_last {α : Type} {l : List α} (h : l ≠ []) : ∃ i a, l = i ++ [a] := ⟨l.dropLast, l.getLast h, (List.dropLast_concat_getLast h).symm⟩
theorem nextF_any [Inhabited XS] (d f x : Nat) (sz : Int) (floor time : Nat) (P : List Part) (safe : Nat) (O : List Nat) (h : Hd) (u0 : Nat) (w : World) (F : Feed w d f x sz floor time P safe O h) (G : Good x floor u0 P) :
  Calls Tryz.prog 35 #[.pointer (some ⟨f, 0, none⟩)] w fun e w' => e = .returned (.int .u64 ((u0 + (evsP P).length : Nat) : Int)) ∧ Below w.heap.size w w' := by
 obtain ⟨R, A, c, S, hR, hO, F⟩ := F
 by_cases hP : R = []
 ·subst hP
  have hP : P = [] := by simpa using hR.symm
  subst hP
  have g := F.box
  have he : u0 + (evsP []).length = floor + 1 := by have h1 := G.lo; have h2 := G.hi; simp [evsP] at *; omega
  rw [he]
  exact next_bare d f (x : Int) sz floor time A c (safe : Int) w g (by have h1 := G.few; have h2 := G.hi; omega)
 ·obtain ⟨I, r, rfl⟩ := list_last hP
  subst hR
  have hC := G.chain
  rw [List.map_append, List.map_singleton] at hC
  obtain ⟨h1, h2⟩ := chain_last hC
  have hl := chain_len hC
  have hf := G.few
  have hh := G.hi
  rw [List.map_append, List.map_singleton] at hf hh ⊢
  have := nextF_last d f x sz floor time (I ++ [r]) safe A c S h I.length r w F (by simp) (by simp) (by simp at hl; omega) (by omega) (by omega)
  rw [h1] at this
  exact this
theorem fromAsk [Inhabited XS] (d f x : Nat) (sz : Int) (floor time : Nat) (R : List SegS) (safe : Nat) (A : Option Addr) (c : Nat) (S : List Nat) (h : Hd) (b3 b4 seq j : Nat) (r : SegS) (w : World) (F : FeedAt w d f x sz floor time R safe A c S h)
  (g3 : w.heap[b3]? = some (.cells #[.pointer (some ⟨f, 0, none⟩)] 84 (0, 0))) (g4 : w.heap[b4]? = some (.cells #[.int .u64 (seq : Int)] 22 (0, 0))) (hj : R[j]? = some r) (hlt : r.p.u + r.p.L.length < 18446744073709551616) :
  Calls Tryz.prog 273 #[.int .i64 (j : Int), .pointer (some ⟨b3, 0, none⟩), .pointer (some ⟨b4, 0, none⟩)] w fun e w' => e = .returned (.bool (decide (seq < r.p.u + r.p.L.length))) ∧ Below w.heap.size w w' := by
 obtain ⟨g, rfl, k0, k1, k2, k3⟩ := F.at_ hj
 obtain ⟨_, _, _, _, _, c5, _⟩ := F.cells
 have k4 : w.cell? ⟨b3, 0, none⟩ = some (.pointer (some ⟨f, 0, none⟩)) := by rw [cell_of_row w b3 _ _ _ _ g3]; rfl
 have k5 : w.cell? ⟨b4, 0, none⟩ = some (.int .u64 (seq : Int)) := by rw [cell_of_row w b4 _ _ _ _ g4]; rfl
 have h4 : b4 < w.heap.size := (Array.getElem?_eq_some_iff.1 g4).1
 have h3 : b3 < w.heap.size := (Array.getElem?_eq_some_iff.1 g3).1
 have hf : f < w.heap.size := F.lt f (by simp)
 have hg : g < w.heap.size := F.lt g (by simp [blk])
 have hjn : j < R.length := (List.getElem?_eq_some_iff.1 hj).1
 have NXS := Lib.hid (fun W => next_any (x : Int) r.p.u r.A r.p.L.length r.p.L.length (r.p.z x) W hlt)
 unfold segV at NXS
 have N1 : ∀ W, Below w.heap.size w W → Calls Tryz.prog 65 #[.agg #[.int .i64 (x : Int), .int .u64 (r.p.u : Int), .slice r.A r.p.L.length r.p.L.length, .int .i64 (r.p.z x : Int)]] W fun e w' => e = .returned (.int .u64 ((r.p.u + r.p.L.length : Nat) : Int)) ∧ Hid (Below w.heap.size w w') ∧ w'.cell? ⟨b3, 0, none⟩ = some (.pointer (some ⟨f, 0, none⟩)) ∧ w'.cell? ⟨f, 5, none⟩ = some (.slice (some ⟨g, 0, none⟩) R.length c) ∧ w'.cell? ⟨g, j * 4, none⟩ = some (.int .i64 (x : Int)) ∧ w'.cell? ⟨g, j * 4 + 1, none⟩ = some (.int .u64 (r.p.u : Int)) ∧ w'.cell? ⟨g, j * 4 + 2, none⟩ = some (.slice r.A r.p.L.length r.p.L.length) ∧ w'.cell? ⟨g, j * 4 + 3, none⟩ = some (.int .i64 (r.p.z x : Int)) ∧ w'.cell? ⟨b4, 0, none⟩ = some (.int .u64 (seq : Int)) := fun W hW => by
  refine (NXS.out W).mono ?_
  rintro e w' ⟨rfl, hb⟩
  have hb' := hW.trans (hb.mono hW.size)
  exact ⟨rfl, Lib.hid hb', (hb'.cell (p := ⟨b3, 0, none⟩) h3).trans k4, (hb'.cell (p := ⟨f, 5, none⟩) hf).trans c5, (hb'.cell (p := ⟨g, j * 4, none⟩) hg).trans k0, (hb'.cell (p := ⟨g, j * 4 + 1, none⟩) hg).trans k1, (hb'.cell (p := ⟨g, j * 4 + 2, none⟩) hg).trans k2, (hb'.cell (p := ⟨g, j * 4 + 3, none⟩) hg).trans k3, (hb'.cell (p := ⟨b4, 0, none⟩) h4).trans k5⟩
 have hd : decide ((seq : Int) < ((r.p.u + r.p.L.length : Nat) : Int)) = decide (seq < r.p.u + r.p.L.length) := by simp only [decide_eq_decide]; omega
 generalize r.p.u + r.p.L.length = nx at *
 generalize R.length = n at *
 generalize decide (seq < nx) = B at *
 clear F NXS hj hlt g3 g4
 go_enter Tryz.func273, Tryz.ntmps273
 go_wp2_with fail
 go_region_held3 (fun w' => w'.cell? ⟨b3, 0, none⟩ = some (.pointer (some ⟨f, 0, none⟩)) ∧ w'.cell? ⟨f, 5, none⟩ = some (.slice (some ⟨g, 0, none⟩) n c) ∧ w'.cell? ⟨g, j * 4, none⟩ = some (.int .i64 (x : Int)) ∧ w'.cell? ⟨g, j * 4 + 1, none⟩ = some (.int .u64 (r.p.u : Int)) ∧ w'.cell? ⟨g, j * 4 + 2, none⟩ = some (.slice r.A r.p.L.length r.p.L.length) ∧ w'.cell? ⟨g, j * 4 + 3, none⟩ = some (.int .i64 (r.p.z x : Int)) ∧ w'.cell? ⟨b4, 0, none⟩ = some (.int .u64 (seq : Int))) (go_keep)
  (first
   | (go_at_call 65
      refine (N1 _ ?h1).mono ?_
      case h1 => first | exact Below.refl _ _ | exact (Below.refl _ _).drew
      rintro e w7 ⟨rfl, HN, k4, c5, k0, k1, k2, k3, k5⟩))
 all_goals go_wp2
 all_goals go_ret
 all_goals exact ⟨by rw [← hd]; simp, HN.out⟩
theorem search_any (V3 V4 : Value) (n : Nat) (p : Nat → Bool) (w : World) (hn : n ≤ 1000000)
  (hf : ∀ W i, Below w.heap.size w W → i < n → Calls Tryz.prog 273 #[.int .i64 (i : Int), V3, V4] W fun e w' => e = .returned (.bool (p i)) ∧ Below W.heap.size W w')
  (hmono : ∀ a b, a ≤ b → b < n → p a = true → p b = true) :
  Calls Tryz.prog 159 #[.int .i64 (n : Int), .func (.func 273) #[] #[V3, V4]] w fun e w' =>
   ∃ k : Nat, e = .returned (.int .i64 (k : Int)) ∧ k ≤ n ∧ (∀ t, t < k → p t = false) ∧ (∀ t, k ≤ t → t < n → p t = true) ∧ Below w.heap.size w w' := by
 have HF := Lib.hid hf
 have M := Lib.hid hmono
 clear hf hmono
 go_enter Tryz.func159, Tryz.ntmps159
 go_wp2
 go_loopw [5, 6] (fun s5 s6 wr => ∃ lo hi : Nat, s5 = .int .i64 (lo : Int) ∧ s6 = .int .i64 (hi : Int) ∧ lo ≤ hi ∧ hi ≤ n ∧ Hid (Below w.heap.size w wr) ∧ Hid ((∀ t, t < lo → p t = false) ∧ (∀ t, hi ≤ t → t < n → p t = true))) (fun s5 s6 _ => (intOf s6).toNat - (intOf s5).toNat)
 case atStart => exact ⟨0, n, rfl, rfl, Nat.zero_le _, Nat.le_refl _, Lib.hid (Below.refl _ _), Lib.hid ⟨fun t ht => absurd ht (Nat.not_lt_zero _), fun t h1 h2 => by omega⟩⟩
 case round =>
  obtain ⟨lo, hi, rfl, rfl, hlh, hin, HB, I⟩ := hrel
  by_cases hlt : lo < hi
  ·have hc := Lib.hid (HF.out wr ((lo + hi) / 2) HB.out (by omega))
   rw [show (((lo + hi) / 2 : Nat) : Int) = ((lo : Int) + (hi : Int)) / 2 by omega] at hc
   cases hp : p ((lo + hi) / 2) <;> rw [hp] at hc
   ·have HP := Lib.hid hp
    clear hp
    go_wp2_with fail
    refine hc.out.mono ?_
    rintro e w' ⟨rfl, hb⟩
    have HB2 := Lib.hid (HB.out.trans (hb.mono HB.out.size))
    clear hb hc
    go_wp2
    go_roundw
    case rel =>
     refine ⟨(lo + hi) / 2 + 1, hi, by simp, rfl, by omega, hin, HB2, Lib.hid ⟨fun t ht => ?_, I.out.2⟩⟩
     cases ht2 : p t
     ·rfl
     ·have := M.out t ((lo + hi) / 2) (by omega) (by omega) ht2
      rw [HP.out] at this
      cases this
    case measure => simp [intOf]; omega
   ·have HP := Lib.hid hp
    clear hp
    go_wp2_with fail
    refine hc.out.mono ?_
    rintro e w' ⟨rfl, hb⟩
    have HB2 := Lib.hid (HB.out.trans (hb.mono HB.out.size))
    clear hb hc
    go_wp2
    go_roundw
    case rel => exact ⟨lo, (lo + hi) / 2, rfl, by simp, by omega, by omega, HB2, Lib.hid ⟨I.out.1, fun t h1 h2 => M.out _ t h1 h2 HP.out⟩⟩
    case measure => simp [intOf]; omega
  ·have he : lo = hi := by omega
   subst he
   go_wp2
   go_ret
   exact ⟨lo, rfl, hin, I.out.1, I.out.2, HB.out⟩
end Go.Proofs.YtinjbdgjcadodaaGreatDoor.Fd
