/- feed: the last event; Sealed, Time, All. feed: does the next event begin a segment? A segment's name. feed: the segments with bytes that are not durable. -/
import Derived.Maps.AppendAt
import Derived.Test.YtinjbdgjcadodaaGreatDoorTNp15
namespace Go.Proofs.YtinjbdgjcadodaaGreatDoor.Fd
open Go Go.RowKit Go.Proofs.YtinjbdgjcadodaaGreatDoor.Words Go.Proofs.YtinjbdgjcadodaaGreatDoor.Enc Go.Proofs.YtinjbdgjcadodaaGreatDoor.Evt Go.Proofs.YtinjbdgjcadodaaGreatDoor.Made Go.Proofs.YtinjbdgjcadodaaGreatDoor.Dsk Go.Proofs.YtinjbdgjcadodaaGreatDoor.Sht Go.Proofs.YtinjbdgjcadodaaGreatDoor.Seg
set_option linter.unusedVariables false
set_option linter.unusedSimpArgs false

def LastNone (w : World) (e : Ending) (w' : World) : Prop := e = .returned (.tuple #[zeroEv, .bool false]) ∧ Below w.heap.size w w'
set_option maxRecDepth 100000 in
theorem last_none (V : Value) (nx : Nat) (E : Int) (w : World) (hE : E ≠ 0) (hnx : 1 ≤ nx ∧ nx < 18446744073709551616)
    (hn : ∀ W, Below w.heap.size w W → Calls Tryz.prog 35 #[V] W fun e w' => e = .returned (.int .u64 (nx : Int)) ∧ Below W.heap.size W w')
    (hg : ∀ W, Below w.heap.size w W → Calls Tryz.prog 248 #[V, .int .u64 ((nx - 1 : Nat) : Int)] W fun e w' => e = .returned (.tuple #[zeroEv, .int .i64 E]) ∧ Below W.heap.size W w') :
    Calls Tryz.prog 189 #[V] w (LastNone w) := by
  have hsf := store_float Tryz.prog
  have hE1 : (E == 0) = false := by rw [beq_eq_false_iff_ne]; exact hE
  have hw : IntKind.u64.wrap ((nx : Int) - 1) = ((nx - 1 : Nat) : Int) := by rw [IntKind.wrap_u64]; omega
  generalize nx - 1 = n1 at *
  have HN := Lib.hid hn
  have HG := Lib.hid hg
  have g0 := heap_alloc_new w (.cells zeroRow 38)
  have b0 := (Below.refl w.heap.size w).alloc (Nat.le_refl _) (.cells zeroRow 38)
  clear hn hg hnx hE
  unfold zeroRow at g0 b0
  go_enter Tryz.func189, Tryz.ntmps189
  go_wp2_with fail
  refine (HN.out _ b0).mono ?_
  rintro e w1 ⟨rfl, hb1⟩
  have g1 := (hb1.block w.heap.size (Array.getElem?_eq_some_iff.1 g0).1).trans g0
  have b1 := b0.trans (hb1.mono b0.size)
  clear g0 b0 hb1
  go_wp2_with fail
  refine (HG.out _ b1).mono ?_
  rintro e w2 ⟨rfl, hb2⟩
  have g2 := (hb2.block w.heap.size (Array.getElem?_eq_some_iff.1 g1).1).trans g1
  have b2 := b1.trans (hb2.mono b1.size)
  have hlt2 := (Array.getElem?_eq_some_iff.1 g2).1
  unfold zeroEv
  have g3 : (w2.alloc (.cells zeroRow 38)).heap[w2.heap.size]? = _ := heap_alloc_new w2 (.cells zeroRow 38)
  have q3 : (w2.alloc (.cells zeroRow 38)).heap[w.heap.size]? = _ := (Below.heap_alloc _ _ _ hlt2).trans g2
  have b3 := b2.alloc b2.size (.cells zeroRow 38)
  unfold zeroRow at g3 q3 b3
  have hne : ¬ w.heap.size = w2.heap.size := by omega
  have hne2 : ¬ w2.heap.size = w.heap.size := by omega
  have G3 := Lib.hid g3
  have Q3 := Lib.hid q3
  have B3 := Lib.hid b3
  clear g3 q3 b3 g1 b1 hb2 g2 b2
  go_wp2_with (first
    | (refine wpList_putRow rfl 38 (.tmp 4) (.tmp 12) rfl w2.heap.size 38 zeroRow zeroRow rfl rfl ?g1 (by kernel_rfl) rfl (by simp [zeroRow, Value.oneCell']) ?_))
  case g1 => unfold zeroRow; exact G3.out
  intro W3 hW3 hbe3
  have q4 := (hbe3.block w.heap.size (Array.getElem?_eq_some_iff.1 Q3.out).1 (by simp; omega)).trans Q3.out
  have b4 : Below w.heap.size w W3 := Below.beside B3.out hbe3 B3.out.size (by simp; omega)
  have G4 := Lib.hid hW3
  have Q4 := Lib.hid q4
  have B4 := Lib.hid b4
  clear hW3 hbe3 q4 b4 G3 Q3 B3
  go_wp2_with (first
    | (refine wpList_getRow rfl 38 (.tmp 4) rfl w2.heap.size 38 zeroRow (0, 0) _ rfl ?g1 Tryz.underlying38 rfl (by kernel_rfl) ?_)
    | (refine wpList_putRow rfl 38 (.tmp 2) (.tmp 14) rfl w.heap.size 38 zeroRow zeroRow rfl rfl ?g2 (by kernel_rfl) rfl (by simp [zeroRow, Value.oneCell']) ?_))
  case g1 => exact G4.out
  case g2 => exact Q4.out
  intro W5 hW5 hbe5
  unfold zeroRow at hW5
  obtain ⟨k0, k1, k2, k3, k4, k5, k6, k7⟩ := box8 hW5
  have B5 := Lib.hid (Below.beside B4.out hbe5 B4.out.size (by simp))
  clear hW5 hbe5 G4 Q4 B4
  go_wp2
  refine bodyPost_ret (v := .tuple #[zeroEv, .bool false]) ?_ rfl ⟨rfl, B5.out⟩
  simp [results, zeroEv, Tryz.results189, go_sem, k0, k1, k2, k3, k4, k5, k6, k7]

/-- The last event of a feed in which all are folded. -/
theorem lastF_none [Inhabited XS] (d f x : Nat) (sz : Int) (floor time : Nat) (P : List Part) (safe : Nat) (O : List Nat) (h : Hd) (u0 : Nat) (w : World) (F : Feed w d f x sz floor time P safe O h) (G : Good x floor u0 P) (he : u0 + (evsP P).length = floor + 1) :
    Calls Tryz.prog 189 #[.pointer (some ⟨f, 0, none⟩)] w (LastNone w) := by
  have hf := G.few
  refine last_none _ (floor + 1) (if floor = 0 then 2 else 13) w (by split <;> omega) (by omega) (fun W hW => ?_) (fun W hW => ?_)
  · have := nextF_any d f x sz floor time P safe O h u0 W (F.below hW) G
    rw [he] at this
    exact this
  · by_cases h0 : floor = 0
    · subst h0
      exact get_err _ _ 2 W (by omega) fun W2 hW2 => range_zero d f x sz 0 time P safe O h 1 W2 ((F.below hW).below hW2)
    · rw [if_neg h0]
      exact get_err _ _ 13 W (by omega) fun W2 hW2 => range_low d f x sz floor time P safe O h floor 1 W2 ((F.below hW).below hW2) (by omega) (Nat.le_refl _)
set_option maxRecDepth 100000 in
theorem sealed_none (V : Value) (w : World) (hl : Calls Tryz.prog 189 #[V] w (LastNone w)) :
    Calls Tryz.prog 121 #[V] w fun e w' => e = .returned (.bool false) ∧ Below w.heap.size w w' := by
  have hsf := store_float Tryz.prog
  have HL := Lib.hid hl
  clear hl
  go_enter Tryz.func121, Tryz.ntmps121
  go_wp2_with fail
  refine HL.out.mono ?_
  rintro e w1 ⟨rfl, hb1⟩
  unfold zeroEv
  have g1 : (w1.alloc (.cells zeroRow 38)).heap[w1.heap.size]? = _ := heap_alloc_new w1 (.cells zeroRow 38)
  have b1 := hb1.alloc hb1.size (.cells zeroRow 38)
  have hz := hb1.size
  unfold zeroRow at g1 b1
  have G1 := Lib.hid g1
  have B1 := Lib.hid b1
  clear g1 b1 hb1
  go_wp2_with (first
    | (refine wpList_putRow rfl 38 (.tmp 3) (.tmp 8) rfl w1.heap.size 38 zeroRow zeroRow rfl rfl ?g1 (by kernel_rfl) rfl (by simp [zeroRow, Value.oneCell']) ?_))
  case g1 => unfold zeroRow; exact G1.out
  intro W3 hW3 hbe3
  have B3 := Lib.hid (Below.beside B1.out hbe3 B1.out.size (by simp; omega))
  clear hbe3 hW3 B1 G1
  go_wp2
  go_ret
  exact ⟨rfl, B3.out⟩
set_option maxRecDepth 100000 in
theorem time_none (f time : Nat) (w : World) (g : ∀ W, Below w.heap.size w W → W.cell? ⟨f, 4, none⟩ = some (.int .u64 (time : Int))) (hl : Calls Tryz.prog 189 #[.pointer (some ⟨f, 0, none⟩)] w (LastNone w)) :
    Calls Tryz.prog 122 #[.pointer (some ⟨f, 0, none⟩)] w fun e w' => e = .returned (.int .u64 (time : Int)) ∧ Below w.heap.size w w' := by
  have hsf := store_float Tryz.prog
  have HL := Lib.hid hl
  have HG := Lib.hid g
  clear hl g
  go_enter Tryz.func122, Tryz.ntmps122
  go_wp2_with fail
  refine HL.out.mono ?_
  rintro e w1 ⟨rfl, hb1⟩
  unfold zeroEv
  have g1 : (w1.alloc (.cells zeroRow 38)).heap[w1.heap.size]? = _ := heap_alloc_new w1 (.cells zeroRow 38)
  have b1 := hb1.alloc hb1.size (.cells zeroRow 38)
  have hz := hb1.size
  unfold zeroRow at g1 b1
  have G1 := Lib.hid g1
  have B1 := Lib.hid b1
  clear g1 b1 hb1
  go_wp2_with (first
    | (refine wpList_putRow rfl 38 (.tmp 3) (.tmp 10) rfl w1.heap.size 38 zeroRow zeroRow rfl rfl ?g1 (by kernel_rfl) rfl (by simp [zeroRow, Value.oneCell']) ?_))
  case g1 => unfold zeroRow; exact G1.out
  intro W3 hW3 hbe3
  have b3 := Below.beside B1.out hbe3 B1.out.size (by simp; omega)
  have c4 := HG.out W3 b3
  have B3 := Lib.hid b3
  clear hbe3 hW3 B1 G1 b3
  go_wp2
  go_ret
  exact ⟨rfl, B3.out⟩
end Go.Proofs.YtinjbdgjcadodaaGreatDoor.Fd
namespace Go.Proofs.YtinjbdgjcadodaaGreatDoor.Fd
open Go Go.RowKit Go.Proofs.YtinjbdgjcadodaaGreatDoor.Words Go.Proofs.YtinjbdgjcadodaaGreatDoor.Enc Go.Proofs.YtinjbdgjcadodaaGreatDoor.Evt Go.Proofs.YtinjbdgjcadodaaGreatDoor.Made Go.Proofs.YtinjbdgjcadodaaGreatDoor.Dsk Go.Proofs.YtinjbdgjcadodaaGreatDoor.Sht Go.Proofs.YtinjbdgjcadodaaGreatDoor.Seg
set_option linter.unusedVariables false
set_option linter.unusedSimpArgs false

set_option maxRecDepth 100000 in
theorem full_none [Inhabited XS] (d f x : Nat) (sz : Int) (floor time : Nat) (safe : Nat) (O : List Nat) (h : Hd) (w : World) (F : Feed w d f x sz floor time [] safe O h) :
    Calls Tryz.prog 123 #[.pointer (some ⟨f, 0, none⟩)] w fun e w' => e = .returned (.bool true) ∧ Below w.heap.size w w' := by
  obtain ⟨A, c, _, _, _, _, _, c5, _⟩ := F.box
  clear F
  simp only [List.length_nil] at c5
  go_enter Tryz.func123, Tryz.ntmps123
  go_wp2
  go_ret
  exact ⟨rfl, Below.refl _ _⟩

set_option maxRecDepth 100000 in
theorem nameOf_any (x u : Nat) (A : Option Addr) (n c z : Nat) (w : World) (T : STabs w) (hx : x < 64) (hu : u < 18446744073709551616) :
    Calls Tryz.prog 72 #[segV (x : Int) u A n c z] w fun e w' => e = .returned (.string ⟨(nameL (x : Int) u).toArray⟩) ∧ Below w.heap.size w w' := by
  have hb0 := (Below.refl w.heap.size w).alloc (Nat.le_refl _) (.cells #[.int .i64 (x : Int), .int .u64 (u : Int), .slice A n c, .int .i64 (z : Int)] 134)
  unfold segV
  go_enter Tryz.func72, Tryz.ntmps72
  go_wp2_with fail
  refine (name_any (x : Int) u (by omega) (by omega) (by omega) _ (T.below hb0)).mono ?_
  rintro e w1 ⟨rfl, hb1⟩
  have b1 := hb0.trans (hb1.mono hb0.size)
  go_wp2
  go_ret
  exact ⟨rfl, b1⟩
end Go.Proofs.YtinjbdgjcadodaaGreatDoor.Fd
namespace Go.Proofs.YtinjbdgjcadodaaGreatDoor.Fd
open Go Go.RowKit Go.Proofs.YtinjbdgjcadodaaGreatDoor.Words Go.Proofs.YtinjbdgjcadodaaGreatDoor.Enc Go.Proofs.YtinjbdgjcadodaaGreatDoor.Evt Go.Proofs.YtinjbdgjcadodaaGreatDoor.Made Go.Proofs.YtinjbdgjcadodaaGreatDoor.Dsk Go.Proofs.YtinjbdgjcadodaaGreatDoor.Sht Go.Proofs.YtinjbdgjcadodaaGreatDoor.Seg
set_option linter.unusedVariables false
set_option linter.unusedSimpArgs false

theorem hexD_inj : ∀ a b : Fin 16, hexD a = hexD b → a = b := by decide
theorem hexP_inj : ∀ (k u v : Nat), u < 16 ^ k → v < 16 ^ k → hexP k u = hexP k v → u = v
  | 0, u, v, hu, hv, _ => by simp at hu hv; omega
  | k + 1, u, v, hu, hv, h => by
    have h2 := List.append_inj' (show hexP k (u / 16) ++ [hexD (u % 16)] = hexP k (v / 16) ++ [hexD (v % 16)] from h) rfl
    have h3 := hexP_inj k (u / 16) (v / 16) (by rw [Nat.pow_succ] at hu; omega) (by rw [Nat.pow_succ] at hv; omega) h2.1
    have h4 := hexD_inj ⟨u % 16, Nat.mod_lt _ (by decide)⟩ ⟨v % 16, Nat.mod_lt _ (by decide)⟩ (by simpa using h2.2)
    have h5 : u % 16 = v % 16 := by simpa using h4
    omega
theorem nameL_inj {x : Int} {u v : Nat} (hu : u < 18446744073709551616) (hv : v < 18446744073709551616) (h : nameL x u = nameL x v) : u = v := by
  unfold nameL at h
  exact hexP_inj 16 u v (by simpa using hu) (by simpa using hv) (List.append_cancel_left h)
/-- The parts' first numbers rise. -/
def Rise (P : List Part) : Prop := P.Pairwise (fun p q => p.u < q.u) ∧ ∀ p ∈ P, p.u < 18446744073709551616
theorem rise_eq : ∀ {P : List Part} {p q : Part}, Rise P → p ∈ P → q ∈ P → p.u = q.u → p = q
  | [], p, q, _, hp, _, _ => by cases hp
  | a :: r, p, q, h, hp, hq, he => by
    have h1 := List.pairwise_cons.1 h.1
    have h2 : Rise r := ⟨h1.2, fun b hb => h.2 b (List.mem_cons_of_mem _ hb)⟩
    rcases List.mem_cons.1 hp with e1 | m1
    · rcases List.mem_cons.1 hq with e2 | m2
      · rw [e1, e2]
      · have := h1.1 q m2; rw [← e1] at this; omega
    · rcases List.mem_cons.1 hq with e2 | m2
      · have := h1.1 p m1; rw [← e2] at this; omega
      · exact rise_eq h2 m1 m2 he
theorem look_part {x : Nat} {P : List Part} (h : Rise P) {p : Part} (hp : p ∈ P) : lookA (nameL (x : Int) p.u) (P.map (Part.file x)) = some (p.file x) := by
  induction P with
  | nil => cases hp
  | cons a r ih =>
    have h1 := List.pairwise_cons.1 h.1
    unfold lookA at ih ⊢
    rw [List.map_cons, List.find?_cons]
    by_cases he : (a.file x).name = nameL (x : Int) p.u
    · have := nameL_inj (h.2 a (by simp)) (h.2 p hp) he
      have : a = p := rise_eq h (by simp) hp this
      subst this
      simp [Part.file]
    · rw [decide_eq_false he]
      rcases List.mem_cons.1 hp with rfl | hp
      · exact absurd rfl he
      · exact ih ⟨h1.2, fun b hb => h.2 b (List.mem_cons_of_mem _ hb)⟩ hp
theorem files_map (x : Nat) (R : List SegS) : (R.map fun r => r.p.file x) = (R.map SegS.p).map (Part.file x) := by rw [List.map_map]; rfl
theorem infoG : (Tryz.prog.info? 134).map (fun i => (i.zero, i.size, i.bytes)) = some (some zeroSeg, 4, 48) := by kernel_rfl
theorem zeroSeg_cells : zeroSeg.cells.size = 4 := by kernel_rfl
/-- Its file has bytes that aren't safe. -/
def loB (x : Nat) (r : SegS) : Bool := decide (r.p.N < r.p.z x)
def looseL (x : Nat) (R : List SegS) (safe : Nat) : List SegS := (R.drop safe).filter (loB x)
/-- The parts in a row of their own. -/
def LooseGives (x : Nat) (T : List SegS) (w : World) (e : Ending) (w' : World) : Prop :=
  ∃ A n c, e = .returned (.slice A n c) ∧ n = T.length ∧ w'.ownsRow w.heap.size 134 4 (.slice A n c) n (rowsS x T) ∧ Below w.heap.size w w'

set_option maxRecDepth 100000 in
set_option maxHeartbeats 1000000 in
theorem loose_at [Inhabited XS] (d f x : Nat) (sz : Int) (floor time : Nat) (R : List SegS) (safe : Nat) (A : Option Addr) (c : Nat) (S : List Nat) (h : Hd) (w : World) (F : FeedAt w d f x sz floor time R safe A c S h) (T : STabs w) (hR : Rise (R.map SegS.p)) (hx : x < 64) (hn : R.length ≤ 1000) (hsf : safe ≤ R.length) :
    Calls Tryz.prog 70 #[.pointer (some ⟨f, 0, none⟩)] w (LooseGives x (looseL x R safe) w) := by
  obtain ⟨i, hi, hz, hsz, hby⟩ := info_parts infoG
  have hcap := F.cap
  obtain ⟨c0, _, _, _, _, c5, c6⟩ := F.cells
  have hsc : safe ≤ c := by omega
  go_enter Tryz.func70, Tryz.ntmps70
  go_wp2_with fail
  go_quiet (fail)
  have hA2 : safe < R.length → ∀ b, A = some ⟨b, 0, none⟩ → (if c = safe then A else Option.map (fun x => x.add (safe * 4)) A) = some ⟨b, safe * 4, none⟩ := fun hl b e => by rw [if_neg (by omega)]; subst e; simp [add_plain]
  have HA2 := Lib.hid hA2
  clear hA2
  generalize (if c = safe then A else Option.map (fun x => x.add (safe * 4)) A) = A2 at HA2 ⊢
  have hb1 : Below w.heap.size w (w.drewN nq) := below_drewN' w nq
  have hz1 : (w.drewN nq).heap.size = w.heap.size := rfl
  have F1 := F.below hb1
  have HB1 := Lib.hid hb1
  generalize w.drewN nq = w1 at F1 HB1 hz1 ⊢
  have HZ1 := Lib.hid hz1
  have HCAP := Lib.hid hcap
  have HSC := Lib.hid hsc
  have HN := Lib.hid hn
  clear hb1 hz1 c0 c5 c6 F hcap hsc hn
  go_wp2
  go_loopw [3, 16] (fun v3 v16 wr => ∃ (j : Nat) (Al : Option Addr) (nl cl : Nat) (L : List SegS), v3 = .slice Al nl cl ∧ v16 = .int .i64 (j : Int) ∧ j ≤ R.length - safe ∧ Hid (wr.ownsRow w.heap.size 134 4 (.slice Al nl cl) nl (rowsS x L)) ∧ Hid (Below w.heap.size w wr) ∧ Hid (L = ((R.drop safe).take j).filter (loB x)) ∧ Hid (nl = L.length)) (fun _ v16 _ => (R.length - safe) - (intOf v16).toNat)
  case atStart => exact ⟨0, none, 0, 0, [], rfl, rfl, Nat.zero_le _, Lib.hid (World.ownsRow_nil _ _ _ _), HB1, Lib.hid (by simp), Lib.hid rfl⟩
  case round =>
    obtain ⟨j, Al, nl, cl, L, rfl, rfl, hj, HO, HB, HL, HNL⟩ := hrel
    have FW := F1.below (by rw [HZ1.out]; exact ⟨HB.out.os.trans HB1.out.os.symm, HB.out.tape.trans HB1.out.tape.symm, HB.out.output.trans HB1.out.output.symm, by rw [HZ1.out]; exact HB.out.size, fun k hk => (HB.out.block k hk).trans (HB1.out.block k hk).symm⟩)
    by_cases hlt : j < R.length - safe
    · have hjR : safe + j < R.length := by omega
      obtain ⟨r, hr⟩ : ∃ r, R[safe + j]? = some r := ⟨_, List.getElem?_eq_getElem hjR⟩
      obtain ⟨g, hA, k0, k1, k2, k3⟩ := FW.at_ hr
      have hA2 := HA2.out (by omega) g hA
      rw [hA2]
      rw [Nat.add_mul] at k0 k1 k2 k3
      have hrm : r.p ∈ R.map SegS.p := List.mem_map_of_mem (List.mem_of_getElem? hr)
      have hru := hR.2 _ hrm
      have hlook := look_part (x := x) hR hrm
      rw [← files_map, ← look_xs] at hlook
      have CELLS := Lib.hid (fun W (hW : Below wr.heap.size wr W) => (FW.below hW).cells)
      have SAFE : ∀ W, Below wr.heap.size wr W → Hid (Calls Tryz.prog 126 #[.pointer (some ⟨d, 0, none⟩), .string ⟨(nameL (x : Int) r.p.u).toArray⟩] W fun e w' => e = .returned (.int .i64 (r.p.N : Int)) ∧ W = w') := fun W hW => Lib.hid (by
        have := safeC d S _ h (nameL (x : Int) r.p.u) W (FW.disk.below hW) (by have := name_len (n := x) (u := r.p.u) (by omega); omega)
        unfold safeN at this
        rw [hlook] at this
        exact this)
      have NAME : ∀ W, Below wr.heap.size wr W → Hid (Calls Tryz.prog 72 #[segV (x : Int) r.p.u r.A r.p.L.length r.p.L.length (r.p.z x)] W fun e w' => e = .returned (.string ⟨(nameL (x : Int) r.p.u).toArray⟩) ∧ Below W.heap.size W w') := fun W hW => Lib.hid (nameOf_any x r.p.u r.A r.p.L.length r.p.L.length (r.p.z x) W ((T.below HB.out).below hW) hx hru)
      unfold segV at NAME
      have hjn2 : j < R.length - safe := hlt
      have HRR := Lib.hid hr
      have hgl : g < wr.heap.size := FW.lt g (by simp [blk, hA])
      have g1 := heap_alloc_new wr (.cells #[.int .i64 0, .int .u64 0, .slice none 0 0, .int .i64 0] 134)
      have G1 := Lib.hid g1
      have HAG := Lib.hid hA
      clear g1 hA hA2 FW hr hlt hrm hru hlook hjR
      go_wp2_with (refine wpList_putRow rfl 134 (.tmp 5) (.tmp 19) rfl wr.heap.size 134 #[.int .i64 0, .int .u64 0, .slice none 0 0, .int .i64 0] #[.int .i64 (x : Int), .int .u64 (r.p.u : Int), .slice r.A r.p.L.length r.p.L.length, .int .i64 (r.p.z x : Int)] rfl rfl ?g1 (by kernel_rfl) rfl (by simp [Value.oneCell']) ?_)
      case g1 => exact G1.out
      intro W' hW' hbe
      obtain ⟨q0, q1, q2, q3⟩ := b4cells hW'
      have hbw : Below wr.heap.size wr W' := Below.beside ((Below.refl wr.heap.size wr).alloc (Nat.le_refl _) _) hbe (by simp) (by simp)
      obtain ⟨c0, _, _, _, _, _, _⟩ := CELLS.out W' hbw
      have HBW := Lib.hid hbw
      have HW := Lib.hid hW'
      have N1 : ∀ W, Below W'.heap.size W' W → Calls Tryz.prog 72 #[.agg #[.int .i64 (x : Int), .int .u64 (r.p.u : Int), .slice r.A r.p.L.length r.p.L.length, .int .i64 (r.p.z x : Int)]] W fun e w' => e = .returned (.string ⟨(nameL (x : Int) r.p.u).toArray⟩) ∧ Hid (Below W'.heap.size W' w') ∧ w'.cell? ⟨f, 0, none⟩ = some (.pointer (some ⟨d, 0, none⟩)) ∧ w'.cell? ⟨wr.heap.size, 0, none⟩ = some (.int .i64 (x : Int)) ∧ w'.cell? ⟨wr.heap.size, 1, none⟩ = some (.int .u64 (r.p.u : Int)) ∧ w'.cell? ⟨wr.heap.size, 2, none⟩ = some (.slice r.A r.p.L.length r.p.L.length) ∧ w'.cell? ⟨wr.heap.size, 3, none⟩ = some (.int .i64 (r.p.z x : Int)) := fun W hW => by
        refine (NAME W (HBW.out.trans (hW.mono HBW.out.size))).out.mono ?_
        rintro e w' ⟨rfl, hb⟩
        have hb' := hW.trans (hb.mono hW.size)
        have h4 := b4cells ((hb'.block wr.heap.size (Array.getElem?_eq_some_iff.1 HW.out).1).trans HW.out)
        exact ⟨rfl, Lib.hid hb', (CELLS.out w' (HBW.out.trans (hb'.mono HBW.out.size))).1, h4.1, h4.2.1, h4.2.2.1, h4.2.2.2⟩
      have S1 : ∀ W, Below W'.heap.size W' W → Calls Tryz.prog 126 #[.pointer (some ⟨d, 0, none⟩), .string ⟨(nameL (x : Int) r.p.u).toArray⟩] W fun e w' => e = .returned (.int .i64 (r.p.N : Int)) ∧ Hid (Below W'.heap.size W' w') ∧ w'.cell? ⟨f, 0, none⟩ = some (.pointer (some ⟨d, 0, none⟩)) ∧ w'.cell? ⟨wr.heap.size, 0, none⟩ = some (.int .i64 (x : Int)) ∧ w'.cell? ⟨wr.heap.size, 1, none⟩ = some (.int .u64 (r.p.u : Int)) ∧ w'.cell? ⟨wr.heap.size, 2, none⟩ = some (.slice r.A r.p.L.length r.p.L.length) ∧ w'.cell? ⟨wr.heap.size, 3, none⟩ = some (.int .i64 (r.p.z x : Int)) := fun W hW => by
        refine (SAFE W (HBW.out.trans (hW.mono HBW.out.size))).out.mono ?_
        rintro e w' ⟨rfl, rfl⟩
        have h4 := b4cells ((hW.block wr.heap.size (Array.getElem?_eq_some_iff.1 HW.out).1).trans HW.out)
        exact ⟨rfl, Lib.hid hW, (CELLS.out W (HBW.out.trans (hW.mono HBW.out.size))).1, h4.1, h4.2.1, h4.2.2.1, h4.2.2.2⟩
      clear hW' hbe hbw k0 k1 k2 k3 SAFE NAME
      go_wp2_with fail
      go_region_held3 (fun w' => w'.cell? ⟨f, 0, none⟩ = some (.pointer (some ⟨d, 0, none⟩)) ∧ w'.cell? ⟨wr.heap.size, 0, none⟩ = some (.int .i64 (x : Int)) ∧ w'.cell? ⟨wr.heap.size, 1, none⟩ = some (.int .u64 (r.p.u : Int)) ∧ w'.cell? ⟨wr.heap.size, 2, none⟩ = some (.slice r.A r.p.L.length r.p.L.length) ∧ w'.cell? ⟨wr.heap.size, 3, none⟩ = some (.int .i64 (r.p.z x : Int))) (go_keep)
        (first
          | (go_at_call 72
             refine (N1 _ ?h0).mono ?_
             case h0 => first | exact Below.refl _ _ | exact (Below.refl _ _).drew
             rintro e w6 ⟨rfl, HN1, c0, q0, q1, q2, q3⟩)
          | (go_at_call 126
             refine (S1 _ ?h1).mono ?_
             case h1 => exact HN1.out
             rintro e w7 ⟨rfl, HN2, c0, q0, q1, q2, q3⟩))
      have HB7 := Lib.hid (HBW.out.trans (HN2.out.mono HBW.out.size))
      have htk : ((R.drop safe).take (j + 1)) = ((R.drop safe).take j) ++ [r] := by rw [List.take_add_one, List.getElem?_drop, HRR.out]; rfl
      have hj1 : wrap64 ((j : Int) + 1) = ((j + 1 : Nat) : Int) := intWrap_small j (by have := HN.out; omega)
      have HJ1 := Lib.hid hj1
      by_cases hlo : r.p.N < r.p.z x
      · have hLn : ((R.drop safe).take (j + 1)).filter (loB x) = L ++ [r] := by rw [htk, List.filter_append, ← HL.out]; simp [loB, hlo]
        have HLN := Lib.hid hLn
        have hown7 := own_below8 HO.out (HB7.out.trans ((((Below.refl w7.heap.size w7).alloc (Nat.le_refl _) (.cells (r.cells x).toArray 134))).mono HB7.out.size)) (Nat.le_refl _)
        have H7 := Lib.hid hown7
        have hLl : L.length ≤ 1000 := by rw [HL.out]; exact Nat.le_trans (List.length_filter_le _ _) (by rw [List.length_take, List.length_drop]; have := HN.out; omega)
        have HNLl := Lib.hid (show nl ≤ 1000 by have := HNL.out; omega)
        unfold SegS.cells at hown7
        clear hLn hLl hj1 htk
        go_wp2_with (first | (at_builtin; go_must (refine wpList_append_own _ rfl _ _ 130 rfl w.heap.size 134 i zeroSeg 4 48 Tryz.underlying130 hi hz hsz hby zeroSeg_cells (by decide) (.slice Al nl cl) nl (rowsS x L) rfl hown7 ⟨w7.heap.size, 0, none⟩ 1 1 (r.cells x) rfl rfl ?c1 ?c2 ?c3 ?c4 ?c5 ?_)))
        case c1 =>
          intro jj u hu
          have := heap_alloc_new w7 (.cells (r.cells x).toArray 134)
          unfold SegS.cells at this hu
          rw [Words.add_plain, cell_of_row _ w7.heap.size _ _ _ _ this]
          simpa using hu
        case c2 => intro u hu; exact rowsS_one x [r] u (by simpa [rowsS] using hu)
        case c3 => unfold maxLen; have := HNLl.out; omega
        case c4 => have := HNLl.out; omega
        case c5 => simp; have := HB.out.size; have := HB7.out.size; omega
        intro v' w8 hown8 hgrow _
        obtain ⟨A8, c8, rfl, _⟩ := own_shape8 hown8
        have hb8 : Below w.heap.size (w7.alloc (.cells (r.cells x).toArray 134)) w8 := (Below.refl _ _).grown hgrow (by simp; have := HB.out.size; have := HB7.out.size; omega) (fun k hk => (HO.out.lt k hk).1)
        have HB8 := Lib.hid ((((HB.out.trans (HB7.out.mono HB.out.size)).alloc (by have := HB.out.size; have := HB7.out.size; omega) (.cells (r.cells x).toArray 134))).trans hb8)
        clear hb8 hgrow hown7
        go_wp2
        go_roundw
        case rel =>
          refine ⟨j + 1, A8, _, c8, L ++ [r], rfl, by rw [HJ1.out], by omega, Lib.hid ?_, HB8, Lib.hid HLN.out.symm, Lib.hid (by rw [HNL.out]; simp)⟩
          rw [rowsS_append]
          simpa [rowsS] using hown8
        case measure => rw [HJ1.out]; simp [intOf]; omega
      · have hLn : ((R.drop safe).take (j + 1)).filter (loB x) = L := by rw [htk, List.filter_append, ← HL.out]; simp [loB, hlo]
        have HLN := Lib.hid hLn
        clear hLn hj1 htk
        go_wp2
        go_roundw
        case rel => exact ⟨j + 1, Al, _, cl, L, rfl, by rw [HJ1.out], by omega, Lib.hid (own_below8 HO.out HB7.out (Nat.le_refl _)), Lib.hid (HB.out.trans (HB7.out.mono HB.out.size)), Lib.hid HLN.out.symm, HNL⟩
        case measure => rw [HJ1.out]; simp [intOf]; omega
    · have hjl : ¬ j < R.length - safe := hlt
      have hje : j = R.length - safe := by omega
      have hLL : L = looseL x R safe := by rw [HL.out, List.take_of_length_le (by rw [List.length_drop]; omega)]; rfl
      clear hje hlt FW F1
      go_wp2
      go_ret
      exact ⟨Al, nl, cl, rfl, by rw [← hLL]; exact HNL.out, by rw [← hLL]; exact HO.out, HB.out⟩
end Go.Proofs.YtinjbdgjcadodaaGreatDoor.Fd
