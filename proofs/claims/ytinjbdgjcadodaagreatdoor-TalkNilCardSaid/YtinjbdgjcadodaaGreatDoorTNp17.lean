/- disk.Names over many files, of which some begin otherwise, in order. feed: opened on a disk that has no file of it. -/
import Derived.Test.YtinjbdgjcadodaaGreatDoorTNp01
import Derived.Test.YtinjbdgjcadodaaGreatDoorTNp08
import Derived.Test.YtinjbdgjcadodaaGreatDoorTNp16
namespace Go.Proofs.YtinjbdgjcadodaaGreatDoor.Dsk
open Go Go.RowKit Go.Proofs.YtinjbdgjcadodaaGreatDoor.Words
set_option linter.unusedVariables false
set_option linter.unusedSimpArgs false

set_option maxRecDepth 100000 in
theorem names_pre (d mb : Nat) (fs : List Fil) (h : Hd) (bg : ByteArray) (w : World) (hd : DiskAt w d mb fs h) (hoff : h.off = false) (hfew : fs.length ≤ 100000) :
    Calls Tryz.prog 113 #[.pointer (some ⟨d, 0, none⟩), .string bg] w fun e w' => ∃ (A : Option Addr) (n c : Nat) (ss : List (List UInt8)), e = .returned (.slice A n c) ∧ ss.Perm ((fs.map (·.name)).filter fun s => Lib.hasPrefix s bg.data.toList) ∧ n = ss.length ∧ w'.ownsRow w.heap.size 9 1 (.slice A n c) n ((ss.mergeSort leB).map Go.Proofs.encStr) ∧ Below w.heap.size w w' := by
  obtain ⟨c0, _⟩ := hd.head.cells
  obtain ⟨i, hi, hz, hsz, hby⟩ := info_parts infoStr
  obtain ⟨D, hown, hsh⟩ := hd.map
  have hmlt := hd.map.lt
  have HND := Lib.hid hd.names
  have HSH := Lib.hid hsh
  clear hsh
  go_enter Tryz.func113, Tryz.ntmps113
  go_wp2_with fail
  refine (on_any d mb fs h w hd).mono ?_
  rintro e w1 ⟨rfl, rfl⟩
  rw [hoff]
  go_wp2_with (first | (at_range; refine wpList_range_own _ rfl _ 122 rfl 9 186 keyStr Tryz.underlying122 ptrElem mb fs.length D rfl hown ?_; intro w0 hrg0 hg0 hs0))
  go_frame
  go_loopw [5] (fun v wr => ∃ left cnt A c ss full, v = .slice A ss.length c ∧ wr.ranges Tryz.prog 9 ptrElem mb w.heap.size fs.length D left cnt ∧ Below w.heap.size w wr ∧ Hid (Met fs left full ∧ ss = full.filter fun s => Lib.hasPrefix s bg.data.toList) ∧ wr.ownsRow (w.heap.size + 1) 9 1 (.slice A ss.length c) ss.length (ss.map Go.Proofs.encStr)) (fun _ wr => wr.rangeLeft mb w.heap.size)
  case atStart =>
    refine ⟨_, _, none, 0, [], [], rfl, hrg0, (Below.refl _ _).grown hg0 (by omega) (fun k hk => by cases hk), Lib.hid ⟨Met.start fun s => ?_, rfl⟩, World.ownsRow_nil _ _ _ _⟩
    rw [HSH.out.2.1]
  case round =>
    obtain ⟨left, cnt, A, c, ss, full, rfl, hrg, hbs, HM, hv⟩ := hrel
    have HOLD := Lib.hid hrg.left_eq
    have hrlt := hrg.lt
    have hlen : ss.length ≤ 100000 := by
      have h1 := HM.out.1.len HND.out
      have h2 := List.length_filter_le (fun s => Lib.hasPrefix s bg.data.toList) full
      rw [← HM.out.2] at h2
      omega
    clear hg0 hs0 hrg0
    go_wp2_with (first | (at_next; refine wpList_next_ranges _ rfl _ rfl 9 keyStr ptrElem Value.string Value.pointer (fun _ _ hh => strKey_inv hh) (fun v y hh => (by obtain ⟨a, ha, _⟩ := ptrElem_inv hh; exact ⟨a, ha⟩)) mb w.heap.size fs.length D left cnt rfl hrg ?_ ?_))
    · intro hc0 hl0
      have HP := Lib.hid (show ss.Perm ((fs.map (·.name)).filter fun s => Lib.hasPrefix s bg.data.toList) by rw [HM.out.2]; exact (HM.out.1.all hl0 HND.out).filter _)
      clear hrg hl0
      rcases hv.2 with ⟨hnil, h0⟩ | ⟨g, cap, cur, hsl, hbase, hb, h1, h2, h3, h4⟩
      · have hss : ss = [] := List.eq_nil_of_length_eq_zero (by omega)
        clear HM
        subst hss
        injection hnil with hA _ hc
        subst hA; subst hc
        go_wp2_with fail
        refine (Tryz.slices_Sort_string_none none 0 wr).mono ?_
        rintro e w5 ⟨rfl, rfl⟩
        go_wp2
        go_returns
        exact ⟨none, 0, 0, [], rfl, HP.out, rfl, by simpa using World.ownsRow_nil _ _ _ _, hbs⟩
      · injection hsl with hA _ hc
        subst hA; subst hc
        have hgl : g < wr.heap.size := (Array.getElem?_eq_some_iff.1 hb).1
        have HH : Go.Sort.Holds Go.Proofs.encStr wr g 0 ss.toArray := holds_of_block hb (by simpa using h4)
        have HB := Lib.hid hb
        have HBB := Lib.hid hbs
        clear hb h4 hbs hv HM
        go_wp2_with fail
        refine (Tryz.slices_Sort_string g 0 c ss wr HH hgl (by omega)).mono ?_
        rintro e w5 ⟨rfl, nn, os, rfl⟩
        have own5 := ownsRow_sorted (n := nn) (os := os) (ts := ss.mergeSort leB) (by simp) hbase HB.out h1 h2 h3
        have b5 : Below w.heap.size wr (Go.Sort.grow (Go.Sort.putRow Go.Proofs.encStr (Go.Sort.ahead wr nn) g 0 (ss.mergeSort leB).toArray) os) := (Below.refl _ _).grown (grownBy_sorted _) HBB.out.size (fun k hk => by injection hk with hk; omega)
        have B5 := Lib.hid (HBB.out.trans b5)
        have O5 := Lib.hid own5
        clear own5 b5 HH
        go_wp2
        go_returns
        exact ⟨_, _, _, ss, rfl, HP.out, rfl, ⟨O5.out.1, O5.out.2.imp id (fun ⟨g', cap', cur', e1, e2, e3⟩ => ⟨g', cap', cur', e1, by omega, e3⟩)⟩, B5.out⟩
    · intro x a kl ya yb w1 cnt1 hkey hlk hRv hat hrg1 hlt hg1 hs1 hen
      obtain rfl := strKey_of hkey
      obtain ⟨s, hs⟩ : ∃ s, s = x.data.toList := ⟨_, rfl⟩
      rw [← hs] at hkey hlk hat hrg1
      have h2 := (HSH.out.2.1 s).symm.trans (Maps.has_true_of_atKey hat)
      have HM2 := Lib.hid (HM.out.1.step hlk h2 (keyStr.key hkey))
      have HMF := Lib.hid HM.out.2
      have hb1 : Below w.heap.size w w1 := hbs.grown hg1 hbs.size fun k hk => by injection hk with hk; omega
      have hv1 : w1.ownsRow (w.heap.size + 1) 9 1 (.slice A ss.length c) ss.length (ss.map Go.Proofs.encStr) := by
        refine hv.kept hg1 (.inr ?_)
        intro e
        have := hv.lt _ e
        omega
      have HS := Lib.hid hs
      have hr1lt := hrg1.lt
      have HV1 := Lib.hid hv1
      clear hs hlk hat hRv hkey h2 hs1 hv hv1 HM
      go_wp2_with fail
      refine (Tryz.strings_HasPrefix x bg w1).mono ?_
      rintro e w2 ⟨rfl, rfl⟩
      by_cases hsf : Lib.hasPrefix s bg.data.toList = true
      · rw [← HS.out, hsf]
        have o2 := HV1.out.alloc (.cells #[.string x] 9)
        have HF2 := Lib.hid (show ss ++ [s] = (full ++ [s]).filter (fun s => Lib.hasPrefix s bg.data.toList) by rw [List.filter_append, ← HMF.out]; simp [hsf])
        clear hsf
        go_wp2_with (first | (at_builtin; go_must (refine wpList_append_own _ rfl _ _ 182 rfl (w.heap.size + 1) 9 i (.string ByteArray.empty) 1 16 Tryz.underlying182 hi hz hsz hby rfl (by decide) (.slice A ss.length c) ss.length (ss.map Go.Proofs.encStr) rfl o2 ⟨w2.heap.size, 0, none⟩ 1 1 [.string x] rfl rfl ?c1 ?c2 ?c3 ?c4 ?c5 ?_)))
        case c1 =>
          intro j u hj
          match j, hj with
          | 0, hj => simp at hj; subst hj; simp [Addr.add]
        case c2 => intro u hu; simp at hu; subst hu; rfl
        case c3 => unfold maxLen; omega
        case c4 => omega
        case c5 => simp; omega
        intro v' w3 hown3 hgrow _
        have hb23 : Below (w.heap.size + 1) w2 w3 := ((Below.refl _ _).alloc (by have := hb1.size; omega) _).grown hgrow (by simp; omega) (fun g hg => by have := (o2.lt g hg).1; omega)
        have hrg3 := ranges_kept hrg1 (hb23.block mb (by omega)) (hb23.block w.heap.size (by omega))
        obtain ⟨A3, c3, rfl, _⟩ := Own.shape hown3
        go_wp2
        go_roundw
        case rel => exact ⟨_, _, A3, c3, ss ++ [s], full ++ [s], by simp, hrg3, hb1.trans (hb23.mono (by omega)), Lib.hid ⟨HM2.out, HF2.out⟩, by simpa [HS.out] using hown3⟩
        case measure => rw [hrg3.left_eq, HOLD.out]; omega
      · have hsf' : Lib.hasPrefix s bg.data.toList = false := by simpa using hsf
        rw [← HS.out, hsf']
        have HF2 := Lib.hid (show ss = (full ++ [s]).filter (fun s => Lib.hasPrefix s bg.data.toList) by rw [List.filter_append, ← HMF.out]; simp [hsf'])
        clear hsf hsf'
        go_wp2
        go_roundw
        case rel => exact ⟨_, _, A, c, ss, full ++ [s], rfl, hrg1, hb1, Lib.hid ⟨HM2.out, HF2.out⟩, HV1.out⟩
        case measure => rw [hrg1.left_eq, HOLD.out]; omega
/-- No file begins so. -/
theorem names_no (d : Nat) (S : List Nat) (files : List File) (h : Hd) (bg : ByteArray) (w : World) (hd : Disk w d S files h) (hoff : h.off = false) (hfew : files.length ≤ 100000) (hno : ∀ f ∈ files, Lib.hasPrefix f.name bg.data.toList = false) :
    Calls Tryz.prog 113 #[.pointer (some ⟨d, 0, none⟩), .string bg] w fun e w' => ∃ A c, e = .returned (.slice A 0 c) ∧ Below w.heap.size w w' := by
  obtain ⟨mb, fs, hda, hab, rfl⟩ := hd
  have hl : fs.length = files.length := by
    have := congrArg List.length hab
    simpa [abs] using this
  have hn : ∀ f ∈ fs, Lib.hasPrefix f.name bg.data.toList = false := by
    intro f hf
    have : f.name ∈ (abs fs).map File.name := by
      simp only [abs, List.map_map, List.mem_map]
      exact ⟨f, hf, rfl⟩
    rw [hab] at this
    obtain ⟨g, hg, hgn⟩ := List.mem_map.1 this
    rw [← hgn]
    exact hno g hg
  refine (names_pre d mb fs h bg w hda hoff (by omega)).mono ?_
  rintro e w' ⟨A, n, c, ss, rfl, hp, rfl, ho, hb⟩
  have h0 : (fs.map (·.name)).filter (fun s => Lib.hasPrefix s bg.data.toList) = [] := by
    rw [List.filter_eq_nil_iff]
    intro s hs
    obtain ⟨f, hf, rfl⟩ := List.mem_map.1 hs
    rw [hn f hf]
    simp
  rw [h0] at hp
  obtain rfl := List.perm_nil.1 hp
  exact ⟨A, c, rfl, hb⟩
end Go.Proofs.YtinjbdgjcadodaaGreatDoor.Dsk
namespace Go.Proofs.YtinjbdgjcadodaaGreatDoor.Fd
open Go Go.RowKit Go.Proofs.YtinjbdgjcadodaaGreatDoor.Words Go.Proofs.YtinjbdgjcadodaaGreatDoor.Enc Go.Proofs.YtinjbdgjcadodaaGreatDoor.Evt Go.Proofs.YtinjbdgjcadodaaGreatDoor.Made Go.Proofs.YtinjbdgjcadodaaGreatDoor.Dsk Go.Proofs.YtinjbdgjcadodaaGreatDoor.Seg
set_option linter.unusedVariables false
set_option linter.unusedSimpArgs false

set_option maxRecDepth 100000 in
theorem openE (d : Nat) (S : List Nat) (files : List File) (h : Hd) (x sz : Int) (floor time : Nat) (w : World) (T : STabs w) (hd : Disk w d S files h) (hoff : h.off = false) (hfew : files.length ≤ 100000) (hno : ∀ f ∈ files, Lib.hasPrefix f.name (beginL x) = false) (h0 : 0 ≤ x) (h1 : x < 64) :
    Calls Tryz.prog 186 #[.pointer (some ⟨d, 0, none⟩), .int .i64 x, .int .i64 sz, .int .u64 (floor : Int), .int .u64 (time : Int)] w fun e w' =>
      ∃ f, e = .returned (.tuple #[.pointer (some ⟨f, 0, none⟩), .int .i64 0]) ∧ w.heap.size ≤ f ∧ w'.heap[f]? = some (.cells (cells d x sz floor time (.slice none 0 0) 0) 132 (0, 0)) ∧ Below w.heap.size w w' := by
  have k0 : decide (x < 0) = false := by simp; omega
  have k1 : decide ((64 : Int) ≤ x) = false := by simp; omega
  go_enter Tryz.func186, Tryz.ntmps186
  go_wp2_with fail
  refine (onC d S files h w hd).mono ?_
  rintro e w1 ⟨rfl, rfl⟩
  rw [hoff]
  have hb0 := (Below.refl w.heap.size w).alloc (Nat.le_refl _) (.cells (cells d x sz floor time (.slice none 0 0) 0) 132)
  have g0 := heap_alloc_new w (.cells (cells d x sz floor time (.slice none 0 0) 0) 132)
  unfold cells at *
  go_wp2_with fail
  refine (begin_any x (by omega) (by omega) _ (T.below hb0)).mono ?_
  rintro e w2 ⟨rfl, hb2⟩
  have b2 := hb0.trans (hb2.mono hb0.size)
  have g2 := (hb2.block w.heap.size (by simp)).trans g0
  go_wp2_with fail
  refine (names_no d S files h _ w2 (hd.below b2) hoff hfew (by simpa using hno)).mono ?_
  rintro e w3 ⟨NA, nc, rfl, hb3⟩
  have b3 := b2.trans (hb3.mono b2.size)
  have g3 := (hb3.block w.heap.size (Array.getElem?_eq_some_iff.1 g2).1).trans g2
  clear hb0 g0 hb2 b2 g2 hb3
  go_wp2
  go_loopw [41] (fun v wr => v = .int .i64 0 ∧ wr = w3) (fun _ _ => 0)
  case atStart => exact ⟨rfl, rfl⟩
  case round =>
    obtain ⟨rfl, rfl⟩ := hrel
    go_wp2
    go_ret2
    exact ⟨_, rfl, Nat.le_refl _, g3, b3⟩


set_option maxRecDepth 100000 in
theorem loose0 (d f : Nat) (x sz : Int) (floor time : Nat) (w : World) (g : w.heap[f]? = some (.cells (cells d x sz floor time (.slice none 0 0) 0) 132 (0, 0))) :
    Calls Tryz.prog 70 #[.pointer (some ⟨f, 0, none⟩)] w fun e w' => e = .returned (.slice none 0 0) ∧ Below w.heap.size w w' := by
  have c5 : w.cell? ⟨f, 5, none⟩ = some (.slice none 0 0) := by rw [cell_of_row w f _ _ _ _ g]; rfl
  have c6 : w.cell? ⟨f, 6, none⟩ = some (.int .i64 0) := by rw [cell_of_row w f _ _ _ _ g]; rfl
  have hlt : f < w.heap.size := (Array.getElem?_eq_some_iff.1 g).1
  clear g
  go_enter Tryz.func70, Tryz.ntmps70
  go_wp2_with fail
  go_quiet (fail)
  have hb1 : Below w.heap.size w (w.drewN nq) := ⟨rfl, rfl, rfl, Nat.le_refl _, fun _ _ => rfl⟩
  generalize w.drewN nq = w1 at hb1 ⊢
  clear c5 c6
  go_wp2
  go_loopw [3, 16] (fun v3 v16 wr => v3 = .slice none 0 0 ∧ v16 = .int .i64 0 ∧ wr = w1) (fun _ _ _ => 0)
  case atStart => exact ⟨rfl, rfl, rfl⟩
  case round =>
    obtain ⟨rfl, rfl, rfl⟩ := hrel
    go_wp2
    go_ret
    exact ⟨rfl, hb1⟩
set_option maxRecDepth 100000 in
theorem sync0 (d f : Nat) (x sz : Int) (floor time : Nat) (w : World) (g : w.heap[f]? = some (.cells (cells d x sz floor time (.slice none 0 0) 0) 132 (0, 0))) :
    Calls Tryz.prog 38 #[.pointer (some ⟨f, 0, none⟩)] w fun e w' => e = .returned (.int .i64 0) ∧ w'.heap[f]? = some (.cells (cells d x sz floor time (.slice none 0 0) 0) 132 (0, 0)) ∧ Beside [f] w w' := by
  have hl := Lib.hid (loose0 d f x sz floor time w g)
  have G := Lib.hid g
  clear g
  go_enter Tryz.func38, Tryz.ntmps38
  go_wp2_with fail
  refine hl.out.mono ?_
  rintro e w1 ⟨rfl, hb1⟩
  have g1 := (hb1.block f (Array.getElem?_eq_some_iff.1 G.out).1).trans G.out
  have c5 : w1.cell? ⟨f, 5, none⟩ = some (.slice none 0 0) := by rw [cell_of_row w1 f _ _ _ _ g1]; rfl
  have c6 : w1.cell? ⟨f, 6, none⟩ = some (.int .i64 0) := by rw [cell_of_row w1 f _ _ _ _ g1]; rfl
  have y6 : w1.frozen? ⟨f, 6, none⟩ = false := frozen_row0 g1
  have G1 := Lib.hid g1
  have B1 := Lib.hid hb1
  clear g1 hb1 hl
  go_wp2
  go_loopw [11] (fun v wr => v = .int .i64 0 ∧ wr = w1) (fun _ _ => 0)
  case atStart => exact ⟨rfl, rfl⟩
  case round =>
    obtain ⟨rfl, rfl⟩ := hrel
    go_wp2
    go_ret
    exact ⟨rfl, (heapSame (i := 6) (v := .int .i64 0) G1.out).trans rfl, (Beside.of_below B1.out [f]).trans ((Beside.refl _ _).setCell (by simp) _) fun k hk => .inl hk⟩
set_option maxRecDepth 100000 in
theorem get0 (k : Nat) (w : World) : Calls Tryz.prog 187 #[.slice none 0 0, .int .i64 (k : Int)] w fun e w' => e = .returned (.int .u64 0) ∧ w' = w := by
  have d0 : decide ((k : Int) < 0) = false := decide_eq_false (by omega)
  have d1 : decide ((0 : Int) ≤ (k : Int)) = true := decide_eq_true (by omega)
  go_enter Tryz.func187, Tryz.ntmps187
  go_wp2
  go_ret
  exact ⟨rfl, rfl⟩
end Go.Proofs.YtinjbdgjcadodaaGreatDoor.Fd
