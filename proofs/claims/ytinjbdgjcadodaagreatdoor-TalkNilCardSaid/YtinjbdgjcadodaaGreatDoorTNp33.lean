/- store: the first event of a feed, on a disk with a manifest. store: an event is noted. store: add; Write of the first event. -/
import Derived.StillTailTactics
import Derived.Test.YtinjbdgjcadodaaGreatDoorTNp05
import Derived.Test.YtinjbdgjcadodaaGreatDoorTNp08
import Derived.Test.YtinjbdgjcadodaaGreatDoorTNp20
import Derived.Test.YtinjbdgjcadodaaGreatDoorTNp29
import Derived.Test.YtinjbdgjcadodaaGreatDoorTNp30
import Derived.Test.YtinjbdgjcadodaaGreatDoorTNp31
import Derived.Test.YtinjbdgjcadodaaGreatDoorTNp32
namespace Go.Proofs.YtinjbdgjcadodaaGreatDoor.St
open Go Go.RowKit Go.Proofs.YtinjbdgjcadodaaGreatDoor.Words Go.Proofs.YtinjbdgjcadodaaGreatDoor.Enc Go.Proofs.YtinjbdgjcadodaaGreatDoor.Made Go.Proofs.YtinjbdgjcadodaaGreatDoor.Dsk Go.Proofs.YtinjbdgjcadodaaGreatDoor.Seg Go.Proofs.YtinjbdgjcadodaaGreatDoor.Evt
open Go.Proofs.YtinjbdgjcadodaaGreatDoor.Fd (XS xsX xsO xsC Feed FeedAt FNext Part SegS blk bx hdA Rise evsP)
open Go.Proofs.YtinjbdgjcadodaaGreatDoor.Sht (headL headL_len titleL_len)
set_option linter.unusedVariables false
set_option linter.unusedSimpArgs false

/-- What else is on the disk: the manifest; events lie outside of the store's struct. -/
abbrev xsS (X : List Nat) (nd C : Nat) (hnd : nd < 64) (hC : C ≤ 1000000) : XS where
  X := X
  O := fun _ => [mfile nd]
  no := fun x f hf => by
    simp only [List.mem_singleton] at hf
    subst hf
    show Lib.hasPrefix Man.mN (beginL (x : Int)) = false
    unfold beginL
    rfl
  few := fun x => ⟨by have := mbytes_len hnd; simp [sumA, mfile]; omega, by simp⟩
  cap := C
  capOk := hC
abbrev ixS (X : List Nat) (nd C : Nat) (hnd : nd < 64) (hC : C ≤ 1000000) : Inhabited XS := ⟨xsS X nd C hnd hC⟩
theorem head1 {x : Nat} (hx : x < 64) : (headL 115 x 1).length ≤ 60 := by
  have h := headL_len (k := 115) (a := x) (b := 1) (by omega) (by omega)
  have h3 := (titleL_len (k := 115) (a := x) (b := 1) (by omega) (by omega)).2
  omega
theorem feed_beside [Inhabited XS] {w w' : World} {d f x : Nat} {sz : Int} {floor time : Nat} {P : List Part} {safe : Nat} {O : List Nat} {h : Hd} (F : Feed w d f x sz floor time P safe O h) {D : List Nat} (hb : Beside D w w') (hD : ∀ k ∈ D, k ∈ xsX) (hO : ∀ k ∈ D, k ∉ O) : Feed w' d f x sz floor time P safe O h := by
  obtain ⟨R, A, c, S, hR, hOe, F⟩ := F
  have hS : ∀ k ∈ D, k ∉ S := fun k hk hm => hO k hk (by rw [hOe]; exact List.mem_append.2 (.inl hm))
  have hf : f ∉ D := fun hm => hO f hm (by rw [hOe]; simp)
  have hA : ∀ g ∈ blk A, g ∉ D := fun g hg hm => hO g hm (by rw [hOe]; simp [hg])
  refine ⟨R, A, c, S, hR, hOe, ⟨F.disk.beside hb hS, (hb.block f (Array.getElem?_eq_some_iff.1 F.box).1 hf).trans F.box, Fd.own_kept F.row fun g hg => hb.block g (Fd.own_blk F.row g hg).2 (hA g hg), fun r hr => ?_, F.fS, F.aS, fun k hk => Nat.lt_of_lt_of_le (F.xl k hk) hb.size⟩⟩
  exact (F.evs r hr).next (hb.wider fun k hk => .inl (List.mem_append.2 (.inr (List.mem_append.2 (.inr (hD k hk)))))) fun k hk => .inl hk
/-- The one part of a feed with one event. -/
def part1 (x : Nat) (ev : Ev) : Part := ⟨1, [plainE ev], (headL 115 x 1).length⟩
theorem wrap_small {ev : Ev} (hr : Right ev) (htx : ev.text.length ≤ 500) : (wrap (evL ev)).length ≤ 700 := by
  have h1 := wrap_length (evL ev)
  have h2 := evL_len hr
  have h3 := enc_ten (n := (evL ev).length) (by omega)
  omega
theorem part1_z {x : Nat} {ev : Ev} (hr : Right ev) : (part1 x ev).z x = (headL 115 x 1).length + (wrap (evL ev)).length := by
  simp [part1, Part.z, Sht.wraps, plain_evL hr.k1]
set_option maxHeartbeats 1000000 in
theorem feedAdd_0 (X : List Nat) (d f x nd C : Nat) (sz : Int) (S : List Nat) (ev : Ev) (Be : Option Addr) (me ke : Nat) (w : World) (hnd : nd < 64) (hC : C ≤ 1000000) (hC0 : 10000 ≤ C) (hf : Bare w d f x sz) (hd : Disk w d S [mfile nd] ⟨(C : Int), 4, -1, 0, false⟩) (hfS : f ∉ S) (hg : ∀ k ∈ X, k < w.heap.size)
    (T : TabsOn (S ++ [f]) w) (hs : Sees w Be me ev.text) (hout : Out (S ++ [f]) Be me) (hr : Right ev) (hfit : ev.Fit) (htx : ev.text.length ≤ 500) (hkey : ev.key.size ≤ 1048576) (hx : x < 64) (hwr : ev.writer = (x : Int)) (hsq : ev.seq = 1) :
    Calls Tryz.prog 68 #[.pointer (some ⟨f, 0, none⟩), ev.val Be me ke] w fun e w' => e = .returned (.int .i64 0) ∧ ∃ acts', acts' ≤ 7 ∧ @FNext (ixS X nd C hnd hC) (S ++ [f]) w d f x sz 0 0 [part1 x ev] 0 acts' w' := by
  letI : Inhabited XS := ixS X nd C hnd hC
  have F : Feed w d f x sz 0 0 [] 0 (S ++ [f]) (hdA 4) := ⟨[], none, 0, S, rfl, rfl, ⟨hd, hf, World.ownsRow_nil _ _ _ _, fun r hr => (by cases hr), hfS, fun k hk => (by simp [blk] at hk), fun k hk => hg k hk⟩⟩
  have G : Fd.Good x 0 1 [] := ⟨trivial, by omega, by simp [evsP], by omega, by simp [evsP]⟩
  have hsum : sumA (xsO x) = (mbytes nd).length := by show sumA [mfile nd] = _; simp [sumA, mfile]
  have hml := mbytes_len hnd
  have hwl := wrap_small hr htx
  have hhl := head1 hx
  have hxc : xsC = C := rfl
  have hla := fun W (hW : Below w.heap.size w W) => Fd.lastF_none d f x sz 0 0 [] 0 (S ++ [f]) (hdA 4) 1 W (F.below hW) G (by simp [evsP])
  refine (Fd.add_at f x 1 0 true ev Be me ke w (fun W w' => ∃ acts', acts' ≤ 7 ∧ FNext (S ++ [f]) W d f x sz 0 0 [part1 x ev] 0 acts' w')
    (fun W hW => by rw [cell_of_row W f _ _ _ _ (hf.below hW)]; rfl)
    (fun W hW => Fd.sealed_none _ W (hla W hW))
    (fun W hW => Fd.next_bare d f (x : Int) sz 0 0 none 0 0 W (hf.below hW) (by omega))
    (fun W hW => Fd.time_none f 0 W (fun W2 hW2 => by rw [cell_of_row W2 f _ _ _ _ ((hf.below hW).below hW2)]; rfl) (hla W hW))
    (fun W hW => Fd.full_none d f x sz 0 0 0 (S ++ [f]) (hdA 4) W (F.below hW))
    (fun _ W hW => ?_) (fun h => by cases h) hwr hsq (by have := hr.t1; omega) (Array.getElem?_eq_some_iff.1 hf).1).mono ?_
  · refine (Fd.begin_gen d f x sz 0 0 [] 0 4 (S ++ [f]) ev Be me ke W (F.below hW) (T.below hW) ⟨List.Pairwise.nil, fun p hp => (by cases hp)⟩ hx (by simp) (by simp) (by omega) (fun p hp => (by cases hp)) (fun p hp => (by simp at hp)) (hs.below hW) hout hr hfit (by omega) hkey hwr (by omega) (fun p hp => (by cases hp)) ?_).mono ?_
    · rw [hsum, hxc, hsq]; simp; omega
    · rintro e w' ⟨rfl, acts', ha, hN⟩
      rw [hsq] at hN
      exact ⟨rfl, acts', by simpa using ha, hN⟩
  · rintro e w' ⟨rfl, W, hW, acts', ha, O', h1, h2, h3⟩
    exact ⟨rfl, acts', ha, O', h1, (Beside.of_below hW _).trans h2 fun k hk => .inl hk, fun k hk => (h3 k hk).imp id (fun h => Nat.le_trans hW.size h)⟩
end Go.Proofs.YtinjbdgjcadodaaGreatDoor.St
namespace Go.Proofs.YtinjbdgjcadodaaGreatDoor.St
open Go Go.RowKit Go.Proofs.YtinjbdgjcadodaaGreatDoor.Words Go.Proofs.YtinjbdgjcadodaaGreatDoor.Enc Go.Proofs.YtinjbdgjcadodaaGreatDoor.Made Go.Proofs.YtinjbdgjcadodaaGreatDoor.Evt
set_option linter.unusedVariables false
set_option linter.unusedSimpArgs false

/-- What follows from an event besides. -/
def noteS (s : Sto) (e : Ev) : Sto := { s with ck := e.time, J := if e.kind = 5 then s.J.set e.node.toNat true else s.J, R := if e.kind = 6 then s.R.set e.writer.toNat true else s.R }
set_option maxRecDepth 100000 in
set_option maxHeartbeats 1000000 in
theorem note_any (g : Nat) (s : Sto) (wr : Int) (sq tm kd : Nat) (key : ByteArray) (tx : List UInt8) (A : Option Addr) (n c num : Nat) (node : Int) (w : World) (hs : StoAt w g s) (hck : s.ck ≤ tm) (h5 : kd = 5 → 0 ≤ node ∧ node < 64) (h6 : kd = 6 → 0 ≤ wr ∧ wr < 64) :
    Calls Tryz.prog 69 #[.pointer (some ⟨g, 0, none⟩), Ev.val ⟨wr, sq, tm, kd, key, tx, num, node⟩ A n c] w fun e w' => e = .returned (.tuple #[]) ∧ StoAt w' g (noteS s ⟨wr, sq, tm, kd, key, tx, num, node⟩) ∧ Beside [g] w w' := by
  have hsf := store_float Tryz.prog
  obtain ⟨u, hu⟩ : ∃ u, u = w.alloc (.cells #[.int .i64 wr, .int .u64 (sq : Int), .int .u64 (tm : Int), .int .u8 (kd : Int), .string key, .slice A n c, .float .f64 num, .int .i64 node] 38) := ⟨_, rfl⟩
  have hb : Below w.heap.size w u := by rw [hu]; exact (Below.refl _ _).alloc (Nat.le_refl _) _
  have hgl := hs.lt
  have g3 : u.heap[w.heap.size]? = some (.cells #[.int .i64 wr, .int .u64 (sq : Int), .int .u64 (tm : Int), .int .u8 (kd : Int), .string key, .slice A n c, .float .f64 num, .int .i64 node] 38 (0, 0)) := by rw [hu]; exact heap_alloc_new w _
  obtain ⟨b, hbb⟩ : ∃ b, b = w.heap.size := ⟨_, rfl⟩
  rw [← hbb] at g3
  have hgb : g ≠ b := by omega
  obtain ⟨e0, e1, e2, e3, e4, e5, e6, e7⟩ := box8 g3
  have hs1 := hs.below hb
  have c72 := hs1.cC
  have y72 := hs1.frozen 72
  have hgu := hs1.lt
  have hmx : max (s.ck : Int) (tm : Int) = (tm : Int) := by omega
  have H2 := Lib.hid ((hs1.setC tm).below ((Below.refl _ _).drew))
  have G2 := Lib.hid (show (u.setCell ⟨g, 72, none⟩ (.int .u64 (tm : Int))).drew.heap[b]? = some (.cells #[.int .i64 wr, .int .u64 (sq : Int), .int .u64 (tm : Int), .int .u8 (kd : Int), .string key, .slice A n c, .float .f64 num, .int .i64 node] 38 (0, 0)) from (heapOther (w := u) hgb.symm).trans g3)
  have B2 := Lib.hid (show Beside [g] w (u.setCell ⟨g, 72, none⟩ (.int .u64 (tm : Int))).drew from ((Beside.of_below hb [g]).trans ((Beside.refl _ _).setCell (by simp) _) fun k hk => .inl hk).trans (Beside.of_below ((Below.refl _ _).drew) [g]) fun k hk => .inl hk)
  have HU := Lib.hid hu
  have HB := Lib.hid hbb
  have H5 := Lib.hid h5
  have H6 := Lib.hid h6
  clear hs hb hu hbb g3 hs1 hck h5 h6 hgl
  unfold Ev.val
  go_enter Tryz.func69, Tryz.ntmps69
  go_wp2_with fail
  rw [← HU.out, ← HB.out]
  go_still_tail 10, (by kernel_rfl)
  change wpList _ _ _ _ _ u.drew
  go_upto_region 2 with fail
  generalize (u.setCell ⟨g, 72, none⟩ (.int .u64 (tm : Int))).drew = w2 at H2 G2 B2 ⊢
  clear e0 e1 e2 e3 e4 e5 e6 e7 c72 y72 hgu hmx
  obtain ⟨e0, e1, e2, e3, e4, e5, e6, e7⟩ := box8 G2.out
  have HS3 := Lib.hid (fun (W : World) (hW : Below w2.heap.size w2 W) => H2.out.below hW)
  have hgw2 := H2.out.lt
  have fin : ∀ x, noteS s ⟨wr, sq, tm, kd, key, tx, num, node⟩ = x → noteS s ⟨wr, sq, tm, kd, key, tx, num, node⟩ = x := fun _ h => h
  by_cases k5 : kd = 5
  · obtain ⟨h50, h51⟩ := H5.out k5
    subst k5
    obtain ⟨nd, hnd⟩ : ∃ nd : Nat, node = (nd : Int) := ⟨node.toNat, by omega⟩
    subst hnd
    have hn64 : nd < 64 := by omega
    have hn64' : (nd : Int) < 64 := by omega
    have hn0 : (0 : Int) ≤ (nd : Int) := by omega
    have cJ := H2.out.cJ hn64
    have yJ := H2.out.frozen (73 + nd)
    have FIN := Lib.hid (And.intro ((H2.out.setJ hn64 true).below ((Below.refl _ _).drew)) (B2.out.trans (((Beside.refl [g] w2).setCell (p := ⟨g, 73 + nd, none⟩) (by simp) (.bool true)).trans (Beside.of_below ((Below.refl _ _).drew) [g]) fun k hk => .inl hk) fun k hk => .inl hk))
    clear fin HS3 hn64
    go_wp2
    go_still_tail 6, (by kernel_rfl)
    change wpList _ _ _ _ _ w2.drew
    go_wp2
    go_returns
    exact ⟨rfl, FIN.out.1, FIN.out.2⟩
  · by_cases k6 : kd = 6
    · obtain ⟨h60, h61⟩ := H6.out k6
      subst k6
      obtain ⟨nd, hnd⟩ : ∃ nd : Nat, wr = (nd : Int) := ⟨wr.toNat, by omega⟩
      subst hnd
      have hn64 : nd < 64 := by omega
      have hn64' : (nd : Int) < 64 := by omega
      have hn0 : (0 : Int) ≤ (nd : Int) := by omega
      have cR := H2.out.cR hn64
      have yR := H2.out.frozen (137 + nd)
      have FIN := Lib.hid (And.intro ((H2.out.setR hn64 true).below ((Below.refl _ _).drew)) (B2.out.trans (((Beside.refl [g] w2).setCell (p := ⟨g, 137 + nd, none⟩) (by simp) (.bool true)).trans (Beside.of_below ((Below.refl _ _).drew) [g]) fun k hk => .inl hk) fun k hk => .inl hk))
      clear fin HS3 hn64 k5
      go_wp2
      go_still_tail 6, (by kernel_rfl)
      change wpList _ _ _ _ _ w2.drew
      go_wp2
      go_returns
      exact ⟨rfl, FIN.out.1, FIN.out.2⟩
    · have q5 : ((kd : Int) == 5) = false := by rw [beq_eq_false_iff_ne]; omega
      have q6 : ((kd : Int) == 6) = false := by rw [beq_eq_false_iff_ne]; omega
      have hn : noteS s ⟨wr, sq, tm, kd, key, tx, num, node⟩ = { s with ck := tm } := by simp [noteS, k5, k6]
      have FIN : Hid (StoAt w2 g (noteS s ⟨wr, sq, tm, kd, key, tx, num, node⟩)) := Lib.hid (by rw [hn]; exact H2.out)
      clear fin HS3 hn k5 k6
      go_wp2
      go_returns
      exact ⟨rfl, FIN.out, B2.out⟩
end Go.Proofs.YtinjbdgjcadodaaGreatDoor.St
namespace Go.Proofs.YtinjbdgjcadodaaGreatDoor.St
open Go Go.RowKit Go.Proofs.YtinjbdgjcadodaaGreatDoor.Words Go.Proofs.YtinjbdgjcadodaaGreatDoor.Enc Go.Proofs.YtinjbdgjcadodaaGreatDoor.Made Go.Proofs.YtinjbdgjcadodaaGreatDoor.Dsk Go.Proofs.YtinjbdgjcadodaaGreatDoor.Seg Go.Proofs.YtinjbdgjcadodaaGreatDoor.Evt
open Go.Proofs.YtinjbdgjcadodaaGreatDoor.Fd (XS xsX xsO xsC Feed FeedAt FNext Part SegS blk bx hdA Rise evsP)
open Go.Proofs.YtinjbdgjcadodaaGreatDoor.Sht (headL headL_len titleL_len)
set_option linter.unusedVariables false
set_option linter.unusedSimpArgs false

/-- Behind the first event of a writer: the store's struct, and the feed. -/
def Adds (X : List Nat) (d f x g nd C : Nat) (sz : Int) (hnd : nd < 64) (hC : C ≤ 1000000) (S : List Nat) (s : Sto) (ev : Ev) (p : Part) (w w' : World) : Prop :=
  StoAt w' g (noteS s ev) ∧ ∃ acts' O', acts' ≤ 10 ∧ @Feed (ixS X nd C hnd hC) w' d f x sz 0 0 [p] 0 O' (@hdA (ixS X nd C hnd hC) acts') ∧ (∀ k ∈ O', k ∈ S ++ [f] ∨ w.heap.size ≤ k) ∧ Beside (g :: (S ++ [f])) w w'
set_option maxRecDepth 100000 in
set_option maxHeartbeats 1000000 in
theorem add_0 (X : List Nat) (d f x g nd C : Nat) (sz : Int) (S : List Nat) (s : Sto) (ev : Ev) (Be : Option Addr) (me ke : Nat) (w : World) (hnd : nd < 64) (hC : C ≤ 1000000) (hC0 : 10000 ≤ C) (hst : StoAt w g s) (hF : s.F[x]? = some (.pointer (some ⟨f, 0, none⟩))) (hf : Bare w d f x sz) (hd : Disk w d S [mfile nd] ⟨(C : Int), 4, -1, 0, false⟩) (hfS : f ∉ S) (hgS : g ∉ S ++ [f]) (hgX : g ∈ X) (hX : ∀ k ∈ X, k < w.heap.size)
    (T : TabsOn (S ++ [f]) w) (hs : Sees w Be me ev.text) (hout : Out (S ++ [f]) Be me) (hr : Right ev) (hfit : ev.Fit) (htx : ev.text.length ≤ 500) (hkey : ev.key.size ≤ 1048576) (hx : x < 64) (hwr : ev.writer = (x : Int)) (hsq : ev.seq = 1) (hck : s.ck ≤ ev.time) :
    Calls Tryz.prog 37 #[.pointer (some ⟨g, 0, none⟩), ev.val Be me ke] w fun e w' => e = .returned (.int .i64 0) ∧ Adds X d f x g nd C sz hnd hC S s ev (part1 x ev) w w' := by
  have hsf := store_float Tryz.prog
  obtain ⟨u, hu⟩ : ∃ u, u = w.alloc (.cells (ev.row Be me ke) 38) := ⟨_, rfl⟩
  have hb : Below w.heap.size w u := by rw [hu]; exact (Below.refl _ _).alloc (Nat.le_refl _) _
  have g3 : u.heap[w.heap.size]? = some (.cells (ev.row Be me ke) 38 (0, 0)) := by rw [hu]; exact heap_alloc_new w _
  have hfl := (Array.getElem?_eq_some_iff.1 hf).1
  have hbS : w.heap.size ∉ S ++ [f] := fun hm => by
    rcases List.mem_append.1 hm with h | h
    · have := hd.lt _ h; omega
    · simp at h; omega
  have hs1 := hst.below hb
  have cF := hs1.cF hx hF
  have hud : Below w.heap.size w u.drew := hb.drew
  have ADD := (feedAdd_0 X d f x nd C sz S ev Be me ke u.drew hnd hC hC0 (hf.below hud) (hd.below hud) hfS (fun k hk => Nat.lt_of_lt_of_le (hX k hk) hud.size) (T.below hud) (hs.below hud) hout hr hfit htx hkey hx hwr hsq)
  unfold Ev.val at ADD
  rw [hwr] at ADD
  have ADD := Lib.hid ADD
  have HG3 := Lib.hid g3
  have HST := Lib.hid (hst.below hud)
  have HUD := Lib.hid hud
  have HX := Lib.hid (And.intro hbS hgS)
  have HR := Lib.hid hr
  have HCK := Lib.hid hck
  have hx64 : (x : Int) < 64 := by omega
  have HBL := Lib.hid (show w.heap.size < u.drew.heap.size from (Array.getElem?_eq_some_iff.1 g3).1)
  unfold Ev.row at g3 hu
  obtain ⟨e0, e1, e2, e3, e4, e5, e6, e7⟩ := box8 g3
  rw [hwr] at e0
  have HU := Lib.hid hu
  have HWR := Lib.hid hwr
  have HGX := Lib.hid hgX
  clear hgX hX hst hF hf hd hfS hgS T hs hout hfit htx hkey hsq hck hb hfl hbS hs1 hud g3 hu hr hwr
  unfold Ev.val
  go_enter Tryz.func37, Tryz.ntmps37
  go_wp2_with fail
  rw [← HU.out]
  go_still_tail 8, (by kernel_rfl)
  change wpList _ _ _ _ _ u.drew
  go_wp2_with fail
  refine ADD.out.mono ?_
  rintro e w2 ⟨rfl, acts', ha, O', hF2, hb2, hk2⟩
  have G2 := (hb2.block w.heap.size HBL.out HX.out.1).trans (show u.drew.heap[w.heap.size]? = _ from HG3.out)
  have hst2 := HST.out.beside hb2 HX.out.2
  have hev : (⟨(x : Int), ev.seq, ev.time, ev.kind, ev.key, ev.text, ev.num, ev.node⟩ : Ev) = ev := by rw [← HWR.out]
  have NOTE := note_any g s (x : Int) ev.seq ev.time ev.kind ev.key ev.text Be me ke ev.num ev.node w2 hst2 HCK.out (fun h => by have := HR.out.n h; omega) (fun h => by omega)
  rw [hev] at NOTE
  unfold Ev.val at NOTE
  rw [HWR.out] at NOTE
  have NOTE := Lib.hid NOTE
  have H2 := Lib.hid (And.intro hF2 (And.intro hb2 hk2))
  have HGL := Lib.hid HST.out.lt
  unfold Ev.row at G2
  obtain ⟨e0, e1, e2, e3, e4, e5, e6, e7⟩ := box8 G2
  rw [HWR.out] at e0
  clear ADD G2 hst2 hev hF2 hb2 hk2
  go_wp2_with fail
  refine NOTE.out.mono ?_
  rintro e w3 ⟨rfl, hs3, hb3⟩
  obtain ⟨hF2, hb2, hk2⟩ := H2.out
  have hgO : g ∉ O' := fun hm => (hk2 g hm).elim HX.out.2 (fun h => by have := HGL.out; omega)
  have hF3 := @feed_beside (ixS X nd C hnd hC) _ _ _ _ _ _ _ _ _ _ _ _ hF2 _ hb3 (fun k hk => by
    simp at hk
    subst hk
    exact HGX.out) (fun k hk => by
    simp at hk
    subst hk
    exact hgO)
  have FIN : Hid (Adds X d f x g nd C sz hnd hC S s ev (part1 x ev) w w3) := Lib.hid ⟨hs3, acts', O', by omega, hF3, fun k hk => (hk2 k hk).imp id (fun h => Nat.le_trans HUD.out.size h), ((Beside.of_below HUD.out (g :: (S ++ [f]))).trans hb2 fun k hk => .inl (List.mem_cons.2 (.inr hk))).trans hb3 fun k hk => .inl (by simp at hk; simp [hk])⟩
  clear hs3 hb3 hF2 hb2 hk2 hF3 hgO e0 e1 e2 e3 e4 e5 e6 e7
  go_wp2
  go_ret
  exact ⟨rfl, FIN.out⟩
end Go.Proofs.YtinjbdgjcadodaaGreatDoor.St
