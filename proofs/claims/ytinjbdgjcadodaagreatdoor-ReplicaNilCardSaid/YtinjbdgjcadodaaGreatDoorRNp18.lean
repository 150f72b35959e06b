/- Texts of the law ReplicaNil, put together. -/
import Derived.Deep.RegionWith
import Derived.Deep.RegionHeld3
import Derived.Test.YtinjbdgjcadodaaGreatDoorRNp03
import Derived.Test.YtinjbdgjcadodaaGreatDoorRNp08
import Derived.Test.YtinjbdgjcadodaaGreatDoorRNp14
import Derived.Test.YtinjbdgjcadodaaGreatDoorRNp16
import Derived.Test.YtinjbdgjcadodaaGreatDoorRNp17
set_option linter.unusedVariables false
set_option linter.unusedSimpArgs false
set_option maxRecDepth 100000
namespace Go.Proofs.YtinjbdgjcadodaaGreatDoor.St
open Go Go.RowKit Words Enc Go.Proofs.YtinjbdgjcadodaaGreatDoor.Made Evt
def zRowE : Array Value := #[.int .i64 0, .int .u64 0, .int .u64 0, .int .u8 0, .string ⟨#[]⟩, .slice none 0 0, .float .f64 0, .int .i64 0]
def zEv : Value := .agg zRowE
structure Boxes (w u : World) (g : Nat) (s : Sto) (ev : Ev) (Be : Option Addr) (me ke : Nat) : Prop where
 below : Below w.heap.size w u
 sto : StoAt u g s
 e : u.heap[w.heap.size]? = some (.cells (ev.row Be me ke) 38 (0, 0))
 z : u.heap[w.heap.size + 1]? = some (.cells zRowE 38 (0, 0))
theorem boxes_new (w : World) (g : Nat) (s : Sto) (ev : Ev) (Be : Option Addr) (me ke : Nat) (hs : StoAt w g s) : Boxes w ((w.alloc (.cells (ev.row Be me ke) 38)).alloc (.cells zRowE 38)) g s ev Be me ke := by
 have h1 : Below w.heap.size w (w.alloc (.cells (ev.row Be me ke) 38)) := (Below.refl _ _).alloc (Nat.le_refl _) _
 have h2 : Below w.heap.size w ((w.alloc (.cells (ev.row Be me ke) 38)).alloc (.cells zRowE 38)) := h1.alloc h1.size _
 have e1 := heap_alloc_new w (.cells (ev.row Be me ke) 38)
 refine ⟨h2, hs.below h2, (Below.heap_alloc _ _ w.heap.size (by simp)).trans e1, ?_⟩
 have := heap_alloc_new (w.alloc (.cells (ev.row Be me ke) 38)) (.cells zRowE 38)
 rw [show (w.alloc (.cells (ev.row Be me ke) 38)).heap.size = w.heap.size + 1 by simp] at this
 exact this
theorem Boxes.next {w u v : World} {g : Nat} {s : Sto} {ev : Ev} {Be : Option Addr} {me ke : Nat} (h : Boxes w u g s ev Be me ke) (hb : Below u.heap.size u v) : Boxes w v g s ev Be me ke :=
 ⟨h.below.trans (hb.mono h.below.size), h.sto.below hb, (hb.block _ (Array.getElem?_eq_some_iff.1 h.e).1).trans h.e, (hb.block _ (Array.getElem?_eq_some_iff.1 h.z).1).trans h.z⟩
end Go.Proofs.YtinjbdgjcadodaaGreatDoor.St
namespace Go.Proofs.YtinjbdgjcadodaaGreatDoor.Rp
open Go Go.RowKit Words Enc Go.Proofs.YtinjbdgjcadodaaGreatDoor.Made Evt St
theorem store_nil (w : World) : Calls Tryz.prog 27 #[.pointer none] w fun e w' => e = .returned (.pointer none) ∧ w' = w := by
 go_enter Tryz.func27, Tryz.ntmps27
 go_wp2
 go_ret
 exact ⟨rfl, rfl⟩
theorem matrix_nil (w : World) : Calls Tryz.prog 28 #[.pointer none] w fun e w' => e = .returned (.pointer none) ∧ w' = w := by
 go_enter Tryz.func28, Tryz.ntmps28
 go_wp2
 go_ret
 exact ⟨rfl, rfl⟩
theorem stable_nil (w : World) : Calls Tryz.prog 25 #[.pointer none] w fun e w' => e = .returned (.int .u64 0) ∧ w' = w := by
 go_enter Tryz.func25, Tryz.ntmps25
 go_wp2
 go_ret
 exact ⟨rfl, rfl⟩
theorem trunc_nil (w : World) : Calls Tryz.prog 26 #[.pointer none] w fun e w' => e = .returned (.int .i64 2) ∧ w' = w := by
 go_enter Tryz.func26, Tryz.ntmps26
 go_wp2
 go_ret
 exact ⟨rfl, rfl⟩
theorem begin_nil (to : Int) (w : World) : Calls Tryz.prog 20 #[.pointer none, .int .i64 to] w fun e w' => e = .returned (.tuple #[.slice none 0 0, .int .i64 2]) ∧ w' = w := by
 go_enter Tryz.func20, Tryz.ntmps20
 go_wp2
 go_ret2
 exact ⟨rfl, rfl⟩
theorem hear_nil (A : Option Addr) (n c : Nat) (w : World) : Calls Tryz.prog 21 #[.pointer none, .slice A n c] w fun e w' => e = .returned (.tuple #[.slice none 0 0, .int .i64 2]) ∧ w' = w := by
 go_enter Tryz.func21, Tryz.ntmps21
 go_wp2
 go_ret2
 exact ⟨rfl, rfl⟩
theorem base_nil (w : World) : Calls Tryz.prog 103 #[.pointer none] w fun e w' => e = .returned (.pointer none) ∧ w' = w := by
 go_enter Tryz.func103, Tryz.ntmps103
 go_wp2
 go_ret
 exact ⟨rfl, rfl⟩
theorem lists_nil (w : World) : Calls Tryz.prog 100 #[.pointer none] w fun e w' => e = .returned (.slice none 0 0) ∧ w' = w := by
 go_enter Tryz.func100, Tryz.ntmps100
 go_wp2
 go_ret
 exact ⟨rfl, rfl⟩
theorem have_nil (w : World) : Calls Tryz.prog 45 #[.pointer none] w fun e w' => e = .returned (.slice none 0 0) ∧ w' = w := by
 go_enter Tryz.func45, Tryz.ntmps45
 go_wp2
 go_ret
 exact ⟨rfl, rfl⟩
theorem by_nil (A : Option Addr) (n c : Nat) (w : World) : Calls Tryz.prog 107 #[.pointer none, .slice A n c] w fun e w' => e = .returned (.tuple #[.pointer none, .int .i64 2]) ∧ w' = w := by
 go_enter Tryz.func107, Tryz.ntmps107
 go_wp2
 go_ret2
 exact ⟨rfl, rfl⟩
theorem end_nil (w : World) : Calls Tryz.prog 86 #[.pointer none] w fun e w' => e = .returned (.pointer none) ∧ w' = w := by
 go_enter Tryz.func86, Tryz.ntmps86
 go_wp2
 go_ret
 exact ⟨rfl, rfl⟩
theorem of_nil (w : World) : Calls Tryz.prog 57 #[.pointer none] w fun e w' => e = .returned (.pointer none) ∧ w' = w := by
 go_enter Tryz.func57, Tryz.ntmps57
 go_wp2_with fail
 refine (base_nil _).mono ?_
 rintro e w1 ⟨rfl, rfl⟩
 go_wp2_with fail
 refine (lists_nil _).mono ?_
 rintro e w2 ⟨rfl, rfl⟩
 go_wp2_with fail
 refine (by_nil _ _ _ _).mono ?_
 rintro e w3 ⟨rfl, rfl⟩
 go_wp2
 go_ret
 exact ⟨rfl, rfl⟩
theorem view_nil (w : World) : Calls Tryz.prog 29 #[.pointer none] w fun e w' => e = .returned (.pointer none) ∧ w' = w := by
 go_enter Tryz.func29, Tryz.ntmps29
 go_wp2_with fail
 refine (store_nil _).mono ?_
 rintro e w1 ⟨rfl, rfl⟩
 go_wp2_with fail
 refine (of_nil _).mono ?_
 rintro e w2 ⟨rfl, rfl⟩
 go_wp2
 go_ret
 exact ⟨rfl, rfl⟩
theorem vector_nil (w : World) : Calls Tryz.prog 30 #[.pointer none] w fun e w' => e = .returned (.slice none 0 0) ∧ w' = w := by
 go_enter Tryz.func30, Tryz.ntmps30
 go_wp2_with fail
 refine (store_nil _).mono ?_
 rintro e w1 ⟨rfl, rfl⟩
 go_wp2_with fail
 refine (have_nil _).mono ?_
 rintro e w2 ⟨rfl, rfl⟩
 go_wp2
 go_ret
 exact ⟨rfl, rfl⟩
def zCell : Array Value := #[.int .u8 0, .slice none 0 0, .float .f64 0]
theorem cellF_nil (key : ByteArray) (w : World) : Calls Tryz.prog 87 #[.pointer none, .string key] w fun e w' => e = .returned (.tuple #[.agg zCell, .bool false]) ∧ Below w.heap.size w w' := by
 have hsf := store_float Tryz.prog
 have HB := Lib.hid ((Below.refl w.heap.size w).alloc (Nat.le_refl _) (.cells zCell 63))
 unfold zCell at HB ⊢
 go_enter Tryz.func87, Tryz.ntmps87
 go_wp2
 trace_state
 go_returns
 exact ⟨rfl, HB.out⟩
set_option maxHeartbeats 1000000 in
theorem writeS_nil (ev : Ev) (Be : Option Addr) (me ke : Nat) (w : World) : Calls Tryz.prog 7 #[.pointer none, ev.val Be me ke] w fun e w' => e = .returned (.tuple #[zEv, .int .i64 2]) ∧ Below w.heap.size w w' := by
 have hsf := store_float Tryz.prog
 have hb1 := (Below.refl w.heap.size w).alloc (Nat.le_refl _) (.cells (ev.row Be me ke) 38)
 have hb2 := hb1.alloc hb1.size (.cells zRowE 38)
 have G4 := heap_alloc_new (w.alloc (.cells (ev.row Be me ke) 38)) (.cells zRowE 38)
 rw [show (w.alloc (.cells (ev.row Be me ke) 38)).heap.size = w.heap.size + 1 by simp] at G4
 have HB := Lib.hid hb2
 have G4 := Lib.hid G4
 clear hb1 hb2
 unfold Ev.row zRowE at HB G4
 unfold Ev.val
 go_enter Tryz.func7, Tryz.ntmps7
 go_wp2_with (first
  | (refine wpList_putRow rfl 38 (.tmp 4) (.tmp 13) rfl (w.heap.size + 1) 38 zRowE zRowE rfl rfl G4.out (by kernel_rfl) rfl (by simp [zRowE, Value.oneCell']) ?_))
 intro w3 hW3 hbe3
 have BEL := Lib.hid (Below.beside HB.out hbe3 HB.out.size (by simp))
 unfold zRowE at hW3
 obtain ⟨k0, k1, k2, k3, k4, k5, k6, k7⟩ := box8 hW3
 clear hW3 hbe3
 go_wp2
 refine bodyPost_ret (v := .tuple #[zEv, .int .i64 2]) ?_ rfl ⟨rfl, BEL.out⟩
 simp [results, zEv, zRowE, Tryz.results7, go_sem, k0, k1, k2, k3, k4, k5, k6, k7]
end Go.Proofs.YtinjbdgjcadodaaGreatDoor.Rp
namespace Go.Proofs.YtinjbdgjcadodaaGreatDoor.Dsk
open Go Go.RowKit Words
theorem names_pre (d mb : Nat) (fs : List Fil) (h : Hd) (bg : ByteArray) (w : World) (hd : DiskAt w d mb fs h) (hoff : h.off = false) (hfew : fs.length ≤ 100000) :
  Calls Tryz.prog 113 #[.pointer (some ⟨d, 0, none⟩), .string bg] w fun e w' => ∃ (A : Option Addr) (n c : Nat) (ss : List (List UInt8)), e = .returned (.slice A n c) ∧ ss.Perm ((fs.map (·.name)).filter fun s => Lib.hasPrefix s bg.data.toList) ∧ n = ss.length ∧ w'.ownsRow w.heap.size 9 1 (.slice A n c) n ((ss.mergeSort leB).map Go.Proofs.encStr) ∧ Below w.heap.size w w' := by
 obtain ⟨c0, _⟩ := hd.head.cells
 obtain ⟨i, hi, hz, hsz, hby⟩ := info_parts infoStr
 obtain ⟨D, hown, hsh⟩ := hd.map
 have hmlt := hd.map.lt
 have HND := Lib.hid hd.names
 have HSH := Lib.hid hsh
 clear hsh
 go_enter Tryz.func113, Tryz.ntmps113
 go_wp2_with fail
 refine (on_any d mb fs h w hd).mono ?_
 rintro e w1 ⟨rfl, rfl⟩
 rw [hoff]
 go_wp2_with (first | (at_range; refine wpList_range_own _ rfl _ 122 rfl 9 186 keyStr Tryz.underlying122 ptrElem mb fs.length D rfl hown ?_; intro w0 hrg0 hg0 hs0))
 go_frame
 go_loopw [5] (fun v wr => ∃ left cnt A c ss full, v = .slice A ss.length c ∧ wr.ranges Tryz.prog 9 ptrElem mb w.heap.size fs.length D left cnt ∧ Below w.heap.size w wr ∧ Hid (Met fs left full ∧ ss = full.filter fun s => Lib.hasPrefix s bg.data.toList) ∧ wr.ownsRow (w.heap.size + 1) 9 1 (.slice A ss.length c) ss.length (ss.map Go.Proofs.encStr)) (fun _ wr => wr.rangeLeft mb w.heap.size)
 case atStart =>
  refine ⟨_, _, none, 0, [], [], rfl, hrg0, (Below.refl _ _).grown hg0 (by omega) (fun k hk => by cases hk), Lib.hid ⟨Met.start fun s => ?_, rfl⟩, World.ownsRow_nil _ _ _ _⟩
  rw [HSH.out.2.1]
 case round =>
  obtain ⟨left, cnt, A, c, ss, full, rfl, hrg, hbs, HM, hv⟩ := hrel
  have HOLD := Lib.hid hrg.left_eq
  have hrlt := hrg.lt
  have hlen : ss.length ≤ 100000 := by
   have h1 := HM.out.1.len HND.out
   have h2 := List.length_filter_le (fun s => Lib.hasPrefix s bg.data.toList) full
   rw [← HM.out.2] at h2
   omega
  clear hg0 hs0 hrg0
  go_wp2_with (first | (at_next; refine wpList_next_ranges _ rfl _ rfl 9 keyStr ptrElem Value.string Value.pointer (fun _ _ hh => strKey_inv hh) (fun v y hh => (by obtain ⟨a, ha, _⟩ := ptrElem_inv hh; exact ⟨a, ha⟩)) mb w.heap.size fs.length D left cnt rfl hrg ?_ ?_))
  ·intro hc0 hl0
   have HP := Lib.hid (show ss.Perm ((fs.map (·.name)).filter fun s => Lib.hasPrefix s bg.data.toList) by rw [HM.out.2]; exact (HM.out.1.all hl0 HND.out).filter _)
   clear hrg hl0
   rcases hv.2 with ⟨hnil, h0⟩ | ⟨g, cap, cur, hsl, hbase, hb, h1, h2, h3, h4⟩
   ·have hss : ss = [] := List.eq_nil_of_length_eq_zero (by omega)
    clear HM
    subst hss
    injection hnil with hA _ hc
    subst hA; subst hc
    go_wp2_with fail
    refine (Tryz.slices_Sort_string_none none 0 wr).mono ?_
    rintro e w5 ⟨rfl, rfl⟩
    go_wp2
    go_returns
    exact ⟨none, 0, 0, [], rfl, HP.out, rfl, by simpa using World.ownsRow_nil _ _ _ _, hbs⟩
   ·injection hsl with hA _ hc
    subst hA; subst hc
    have hgl : g < wr.heap.size := (Array.getElem?_eq_some_iff.1 hb).1
    have HH : Go.Sort.Holds Go.Proofs.encStr wr g 0 ss.toArray := holds_of_block hb (by simpa using h4)
    have HB := Lib.hid hb
    have HBB := Lib.hid hbs
    clear hb h4 hbs hv HM
    go_wp2_with fail
    refine (Tryz.slices_Sort_string g 0 c ss wr HH hgl (by omega)).mono ?_
    rintro e w5 ⟨rfl, nn, os, rfl⟩
    have own5 := ownsRow_sorted (n := nn) (os := os) (ts := ss.mergeSort leB) (by simp) hbase HB.out h1 h2 h3
    have b5 : Below w.heap.size wr (Go.Sort.grow (Go.Sort.putRow Go.Proofs.encStr (Go.Sort.ahead wr nn) g 0 (ss.mergeSort leB).toArray) os) := (Below.refl _ _).grown (grownBy_sorted _) HBB.out.size (fun k hk => by injection hk with hk; omega)
    have B5 := Lib.hid (HBB.out.trans b5)
    have O5 := Lib.hid own5
    clear own5 b5 HH
    go_wp2
    go_returns
    exact ⟨_, _, _, ss, rfl, HP.out, rfl, ⟨O5.out.1, O5.out.2.imp id (fun ⟨g', cap', cur', e1, e2, e3⟩ => ⟨g', cap', cur', e1, by omega, e3⟩)⟩, B5.out⟩
  ·intro x a kl ya yb w1 cnt1 hkey hlk hRv hat hrg1 hlt hg1 hs1 hen
   obtain rfl := strKey_of hkey
   obtain ⟨s, hs⟩ : ∃ s, s = x.data.toList := ⟨_, rfl⟩
   rw [← hs] at hkey hlk hat hrg1
   have h2 := (HSH.out.2.1 s).symm.trans (Maps.has_true_of_atKey hat)
   have HM2 := Lib.hid (HM.out.1.step hlk h2 (keyStr.key hkey))
   have HMF := Lib.hid HM.out.2
   have hb1 : Below w.heap.size w w1 := hbs.grown hg1 hbs.size fun k hk => by injection hk with hk; omega
   have hv1 : w1.ownsRow (w.heap.size + 1) 9 1 (.slice A ss.length c) ss.length (ss.map Go.Proofs.encStr) := by
    refine hv.kept hg1 (.inr ?_)
    intro e
    have := hv.lt _ e
    omega
   have HS := Lib.hid hs
   have hr1lt := hrg1.lt
   have HV1 := Lib.hid hv1
   clear hs hlk hat hRv hkey h2 hs1 hv hv1 HM
   go_wp2_with fail
   refine (Tryz.strings_HasPrefix x bg w1).mono ?_
   rintro e w2 ⟨rfl, rfl⟩
   by_cases hsf : Lib.hasPrefix s bg.data.toList = true
   ·rw [← HS.out, hsf]
    have o2 := HV1.out.alloc (.cells #[.string x] 9)
    have HF2 := Lib.hid (show ss ++ [s] = (full ++ [s]).filter (fun s => Lib.hasPrefix s bg.data.toList) by rw [List.filter_append, ← HMF.out]; simp [hsf])
    clear hsf
    go_wp2_with (first | (at_builtin; go_must (refine wpList_append_own _ rfl _ _ 182 rfl (w.heap.size + 1) 9 i (.string ByteArray.empty) 1 16 Tryz.underlying182 hi hz hsz hby rfl (by decide) (.slice A ss.length c) ss.length (ss.map Go.Proofs.encStr) rfl o2 ⟨w2.heap.size, 0, none⟩ 1 1 [.string x] rfl rfl ?c1 ?c2 ?c3 ?c4 ?c5 ?_)))
    case c1 =>
     intro j u hj
     match j, hj with
     | 0, hj => simp at hj; subst hj; simp [Addr.add]
    case c2 => intro u hu; simp at hu; subst hu; rfl
    case c3 => unfold maxLen; omega
    case c4 => omega
    case c5 => simp; omega
    intro v' w3 hown3 hgrow _
    have hb23 : Below (w.heap.size + 1) w2 w3 := ((Below.refl _ _).alloc (by have := hb1.size; omega) _).grown hgrow (by simp; omega) (fun g hg => by have := (o2.lt g hg).1; omega)
    have hrg3 := ranges_kept hrg1 (hb23.block mb (by omega)) (hb23.block w.heap.size (by omega))
    obtain ⟨A3, c3, rfl, _⟩ := Own.shape hown3
    go_wp2
    go_roundw
    case rel => exact ⟨_, _, A3, c3, ss ++ [s], full ++ [s], by simp, hrg3, hb1.trans (hb23.mono (by omega)), Lib.hid ⟨HM2.out, HF2.out⟩, by simpa [HS.out] using hown3⟩
    case measure => rw [hrg3.left_eq, HOLD.out]; omega
   ·have hsf' : Lib.hasPrefix s bg.data.toList = false := by simpa using hsf
    rw [← HS.out, hsf']
    have HF2 := Lib.hid (show ss = (full ++ [s]).filter (fun s => Lib.hasPrefix s bg.data.toList) by rw [List.filter_append, ← HMF.out]; simp [hsf'])
    clear hsf hsf'
    go_wp2
    go_roundw
    case rel => exact ⟨_, _, A, c, ss, full ++ [s], rfl, hrg1, hb1, Lib.hid ⟨HM2.out, HF2.out⟩, HV1.out⟩
    case measure => rw [hrg1.left_eq, HOLD.out]; omega
theorem names_no (d : Nat) (S : List Nat) (files : List File) (h : Hd) (bg : ByteArray) (w : World) (hd : Disk w d S files h) (hoff : h.off = false) (hfew : files.length ≤ 100000) (hno : ∀ f ∈ files, Lib.hasPrefix f.name bg.data.toList = false) :
  Calls Tryz.prog 113 #[.pointer (some ⟨d, 0, none⟩), .string bg] w fun e w' => ∃ A c, e = .returned (.slice A 0 c) ∧ Below w.heap.size w w' := by
 obtain ⟨mb, fs, hda, hab, rfl⟩ := hd
 have hl : fs.length = files.length := by
  have := congrArg List.length hab
  simpa [abs] using this
 have hn : ∀ f ∈ fs, Lib.hasPrefix f.name bg.data.toList = false := by
  intro f hf
  have : f.name ∈ (abs fs).map File.name := by
   simp only [abs, List.map_map, List.mem_map]
   exact ⟨f, hf, rfl⟩
  rw [hab] at this
  obtain ⟨g, hg, hgn⟩ := List.mem_map.1 this
  rw [← hgn]
  exact hno g hg
 refine (names_pre d mb fs h bg w hda hoff (by omega)).mono ?_
 rintro e w' ⟨A, n, c, ss, rfl, hp, rfl, ho, hb⟩
 have h0 : (fs.map (·.name)).filter (fun s => Lib.hasPrefix s bg.data.toList) = [] := by
  rw [List.filter_eq_nil_iff]
  intro s hs
  obtain ⟨f, hf, rfl⟩ := List.mem_map.1 hs
  rw [hn f hf]
  simp
 rw [h0] at hp
 obtain rfl := List.perm_nil.1 hp
 exact ⟨A, c, rfl, hb⟩
end Go.Proofs.YtinjbdgjcadodaaGreatDoor.Dsk
namespace Go.Proofs.YtinjbdgjcadodaaGreatDoor.Fd
open Go Go.RowKit Words Enc Evt Go.Proofs.YtinjbdgjcadodaaGreatDoor.Made Dsk Seg
theorem openE (d : Nat) (S : List Nat) (files : List File) (h : Hd) (x sz : Int) (floor time : Nat) (w : World) (T : STabs w) (hd : Disk w d S files h) (hoff : h.off = false) (hfew : files.length ≤ 100000) (hno : ∀ f ∈ files, Lib.hasPrefix f.name (beginL x) = false) (h0 : 0 ≤ x) (h1 : x < 64) :
  Calls Tryz.prog 186 #[.pointer (some ⟨d, 0, none⟩), .int .i64 x, .int .i64 sz, .int .u64 (floor : Int), .int .u64 (time : Int)] w fun e w' =>
   ∃ f, e = .returned (.tuple #[.pointer (some ⟨f, 0, none⟩), .int .i64 0]) ∧ w.heap.size ≤ f ∧ w'.heap[f]? = some (.cells (cells d x sz floor time (.slice none 0 0) 0) 132 (0, 0)) ∧ Below w.heap.size w w' := by
 have k0 : decide (x < 0) = false := by simp; omega
 have k1 : decide ((64 : Int) ≤ x) = false := by simp; omega
 go_enter Tryz.func186, Tryz.ntmps186
 go_wp2_with fail
 refine (onC d S files h w hd).mono ?_
 rintro e w1 ⟨rfl, rfl⟩
 rw [hoff]
 have hb0 := (Below.refl w.heap.size w).alloc (Nat.le_refl _) (.cells (cells d x sz floor time (.slice none 0 0) 0) 132)
 have g0 := heap_alloc_new w (.cells (cells d x sz floor time (.slice none 0 0) 0) 132)
 unfold cells at *
 go_wp2_with fail
 refine (begin_any x (by omega) (by omega) _ (T.below hb0)).mono ?_
 rintro e w2 ⟨rfl, hb2⟩
 have b2 := hb0.trans (hb2.mono hb0.size)
 have g2 := (hb2.block w.heap.size (by simp)).trans g0
 go_wp2_with fail
 refine (names_no d S files h _ w2 (hd.below b2) hoff hfew (by simpa using hno)).mono ?_
 rintro e w3 ⟨NA, nc, rfl, hb3⟩
 have b3 := b2.trans (hb3.mono b2.size)
 have g3 := (hb3.block w.heap.size (Array.getElem?_eq_some_iff.1 g2).1).trans g2
 clear hb0 g0 hb2 b2 g2 hb3
 go_wp2
 go_loopw [41] (fun v wr => v = .int .i64 0 ∧ wr = w3) (fun _ _ => 0)
 case atStart => exact ⟨rfl, rfl⟩
 case round =>
  obtain ⟨rfl, rfl⟩ := hrel
  go_wp2
  go_ret2
  exact ⟨_, rfl, Nat.le_refl _, g3, b3⟩
theorem loose0 (d f : Nat) (x sz : Int) (floor time : Nat) (w : World) (g : w.heap[f]? = some (.cells (cells d x sz floor time (.slice none 0 0) 0) 132 (0, 0))) :
  Calls Tryz.prog 70 #[.pointer (some ⟨f, 0, none⟩)] w fun e w' => e = .returned (.slice none 0 0) ∧ Below w.heap.size w w' := by
 have c5 : w.cell? ⟨f, 5, none⟩ = some (.slice none 0 0) := by rw [cell_of_row w f _ _ _ _ g]; rfl
 have c6 : w.cell? ⟨f, 6, none⟩ = some (.int .i64 0) := by rw [cell_of_row w f _ _ _ _ g]; rfl
 have hlt : f < w.heap.size := (Array.getElem?_eq_some_iff.1 g).1
 clear g
 go_enter Tryz.func70, Tryz.ntmps70
 go_wp2_with fail
 go_quiet (fail)
 have hb1 : Below w.heap.size w (w.drewN nq) := ⟨rfl, rfl, rfl, Nat.le_refl _, fun _ _ => rfl⟩
 generalize w.drewN nq = w1 at hb1 ⊢
 clear c5 c6
 go_wp2
 go_loopw [3, 16] (fun v3 v16 wr => v3 = .slice none 0 0 ∧ v16 = .int .i64 0 ∧ wr = w1) (fun _ _ _ => 0)
 case atStart => exact ⟨rfl, rfl, rfl⟩
 case round =>
  obtain ⟨rfl, rfl, rfl⟩ := hrel
  go_wp2
  go_ret
  exact ⟨rfl, hb1⟩
theorem sync0 (d f : Nat) (x sz : Int) (floor time : Nat) (w : World) (g : w.heap[f]? = some (.cells (cells d x sz floor time (.slice none 0 0) 0) 132 (0, 0))) :
  Calls Tryz.prog 38 #[.pointer (some ⟨f, 0, none⟩)] w fun e w' => e = .returned (.int .i64 0) ∧ w'.heap[f]? = some (.cells (cells d x sz floor time (.slice none 0 0) 0) 132 (0, 0)) ∧ Beside [f] w w' := by
 have hl := Lib.hid (loose0 d f x sz floor time w g)
 have G := Lib.hid g
 clear g
 go_enter Tryz.func38, Tryz.ntmps38
 go_wp2_with fail
 refine hl.out.mono ?_
 rintro e w1 ⟨rfl, hb1⟩
 have g1 := (hb1.block f (Array.getElem?_eq_some_iff.1 G.out).1).trans G.out
 have c5 : w1.cell? ⟨f, 5, none⟩ = some (.slice none 0 0) := by rw [cell_of_row w1 f _ _ _ _ g1]; rfl
 have c6 : w1.cell? ⟨f, 6, none⟩ = some (.int .i64 0) := by rw [cell_of_row w1 f _ _ _ _ g1]; rfl
 have y6 : w1.frozen? ⟨f, 6, none⟩ = false := frozen_row0 g1
 have G1 := Lib.hid g1
 have B1 := Lib.hid hb1
 clear g1 hb1 hl
 go_wp2
 go_loopw [11] (fun v wr => v = .int .i64 0 ∧ wr = w1) (fun _ _ => 0)
 case atStart => exact ⟨rfl, rfl⟩
 case round =>
  obtain ⟨rfl, rfl⟩ := hrel
  go_wp2
  go_ret
  exact ⟨rfl, (heapSame (i := 6) (v := .int .i64 0) G1.out).trans rfl, (Beside.of_below B1.out [f]).trans ((Beside.refl _ _).setCell (by simp) _) fun k hk => .inl hk⟩
theorem get0 (k : Nat) (w : World) : Calls Tryz.prog 187 #[.slice none 0 0, .int .i64 (k : Int)] w fun e w' => e = .returned (.int .u64 0) ∧ w' = w := by
 have d0 : decide ((k : Int) < 0) = false := decide_eq_false (by omega)
 have d1 : decide ((0 : Int) ≤ (k : Int)) = true := decide_eq_true (by omega)
 go_enter Tryz.func187, Tryz.ntmps187
 go_wp2
 go_ret
 exact ⟨rfl, rfl⟩
end Go.Proofs.YtinjbdgjcadodaaGreatDoor.Fd
namespace Go.Proofs.YtinjbdgjcadodaaGreatDoor.St
open Go Go.RowKit Words Enc Go.Proofs.YtinjbdgjcadodaaGreatDoor.Made Dsk Seg
def NoFeed (files : List File) : Prop := ∀ x : Nat, x < 64 → ∀ f ∈ files, Lib.hasPrefix f.name (beginL (x : Int)) = false
def Bare (w : World) (d f k : Nat) (sz : Int) : Prop := w.heap[f]? = some (.cells (Fd.cells d (k : Int) sz 0 0 (.slice none 0 0) 0) 132 (0, 0))
theorem Bare.below {w w' : World} {d f k : Nat} {sz : Int} (h : Bare w d f k sz) (hb : Below w.heap.size w w') : Bare w' d f k sz := (hb.block f (Array.getElem?_eq_some_iff.1 h).1).trans h
set_option maxHeartbeats 1000000 in
theorem openFeed_0 (g k : Nat) (s : Sto) (S : List Nat) (files : List File) (h : Hd) (w : World) (hs : StoAt w g s) (hd : Disk w s.d S files h) (T : STabs w) (hoff : h.off = false) (hfew : files.length ≤ 100000) (hno : NoFeed files) (hk : k < 64) (hfl : s.fl = .slice none 0 0) (htm : s.tm = 0) :
  Calls Tryz.prog 117 #[.pointer (some ⟨g, 0, none⟩), .int .i64 (k : Int)] w fun e w' => e = .returned (.int .i64 0) ∧ ∃ f, StoAt w' g { s with F := s.F.set k (.pointer (some ⟨f, 0, none⟩)) } ∧ Bare w' s.d f k s.sz ∧ w.heap.size ≤ f ∧ Beside [g] w w' := by
 have HS := Lib.hid (fun W (hW : Below w.heap.size w W) => hs.below hW)
 have hg0 := hs.lt
 obtain ⟨v, hv⟩ : ∃ v, s.F[k]? = some v := ⟨_, List.getElem?_eq_getElem (by rw [hs.ok.f]; exact hk)⟩
 have CELLS : ∀ w', Below w.heap.size w w' → (w'.cell? ⟨g, 0, none⟩ = some (.pointer (some ⟨s.d, 0, none⟩)) ∧ w'.cell? ⟨g, 1, none⟩ = some (.int .i64 s.sz) ∧ w'.cell? ⟨g, 4, none⟩ = some (.slice none 0 0) ∧ w'.cell? ⟨g, 5, none⟩ = some (.int .u64 0)) ∧ w'.cell? ⟨g, 8 + k, none⟩ = some v ∧ w'.frozen? ⟨g, 8 + k, none⟩ = false ∧ g < w'.heap.size := fun W hW => by
  have hq := hs.below hW
  obtain ⟨c0, c1, _, _, c4, c5, _⟩ := hq.head
  rw [hfl] at c4
  rw [htm] at c5
  exact ⟨⟨c0, c1, c4, c5⟩, hq.cF hk hv, hq.frozen _, hq.lt⟩
 have KEEP := Lib.hid (fun (W : World) (f : Nat) (hW : Below w.heap.size w W) => (by
  obtain ⟨c0, c1, _, _, c4, c5, _⟩ := ((hs.below hW).setF hk (.pointer (some ⟨f, 0, none⟩))).head
  exact ⟨c0, c1, c4.trans (congrArg some hfl), c5.trans (show some (Value.int .u64 ((s.tm : Nat) : Int)) = some (.int .u64 0) by rw [htm]; rfl)⟩ : (W.setCell ⟨g, 8 + k, none⟩ (.pointer (some ⟨f, 0, none⟩))).cell? ⟨g, 0, none⟩ = some (.pointer (some ⟨s.d, 0, none⟩)) ∧ (W.setCell ⟨g, 8 + k, none⟩ (.pointer (some ⟨f, 0, none⟩))).cell? ⟨g, 1, none⟩ = some (.int .i64 s.sz) ∧ (W.setCell ⟨g, 8 + k, none⟩ (.pointer (some ⟨f, 0, none⟩))).cell? ⟨g, 4, none⟩ = some (.slice none 0 0) ∧ (W.setCell ⟨g, 8 + k, none⟩ (.pointer (some ⟨f, 0, none⟩))).cell? ⟨g, 5, none⟩ = some (.int .u64 0)))
 have GET : ∀ W, Below w.heap.size w W → Calls Tryz.prog 187 #[.slice none 0 0, .int .i64 (k : Int)] W fun e w' => e = .returned (.int .u64 0) ∧ Hid (Below w.heap.size w w') ∧ (w'.cell? ⟨g, 0, none⟩ = some (.pointer (some ⟨s.d, 0, none⟩)) ∧ w'.cell? ⟨g, 1, none⟩ = some (.int .i64 s.sz) ∧ w'.cell? ⟨g, 4, none⟩ = some (.slice none 0 0) ∧ w'.cell? ⟨g, 5, none⟩ = some (.int .u64 0)) ∧ w'.cell? ⟨g, 8 + k, none⟩ = some v ∧ w'.frozen? ⟨g, 8 + k, none⟩ = false ∧ g < w'.heap.size := fun W hW => by
  refine (Fd.get0 k W).mono ?_
  rintro e w' ⟨rfl, rfl⟩
  exact ⟨rfl, Lib.hid hW, CELLS _ hW⟩
 have OPEN : ∀ W, Below w.heap.size w W → Calls Tryz.prog 186 #[.pointer (some ⟨s.d, 0, none⟩), .int .i64 (k : Int), .int .i64 s.sz, .int .u64 0, .int .u64 0] W fun e w' => ∃ f, e = .returned (.tuple #[.pointer (some ⟨f, 0, none⟩), .int .i64 0]) ∧ Hid (Below w.heap.size w w' ∧ Bare w' s.d f k s.sz ∧ w.heap.size ≤ f) ∧ (w'.cell? ⟨g, 0, none⟩ = some (.pointer (some ⟨s.d, 0, none⟩)) ∧ w'.cell? ⟨g, 1, none⟩ = some (.int .i64 s.sz) ∧ w'.cell? ⟨g, 4, none⟩ = some (.slice none 0 0) ∧ w'.cell? ⟨g, 5, none⟩ = some (.int .u64 0)) ∧ w'.cell? ⟨g, 8 + k, none⟩ = some v ∧ w'.frozen? ⟨g, 8 + k, none⟩ = false ∧ g < w'.heap.size := fun W hW => by
  refine (Fd.openE s.d S files h (k : Int) s.sz 0 0 W (T.below hW) (hd.below hW) hoff hfew (hno k hk) (by omega) (by omega)).mono ?_
  rintro e w' ⟨f, rfl, hf, hbx, hb⟩
  have hb2 := hW.trans (hb.mono hW.size)
  exact ⟨f, rfl, Lib.hid ⟨hb2, hbx, Nat.le_trans hW.size hf⟩, CELLS _ hb2⟩
 obtain ⟨⟨c0, c1, c4, c5⟩, cF, fF, hg⟩ := CELLS w (Below.refl _ _)
 have HK : (k : Int) < 64 := by omega
 have HK0 : (0 : Int) ≤ (k : Int) := by omega
 have HKN := Lib.hid hk
 have HG0 := Lib.hid hg0
 clear CELLS hs hd T hno hv hfl htm hk hg0
 go_enter Tryz.func117, Tryz.ntmps117
 go_upto_region 1 with fail
 go_region_held3 (fun w' => w'.cell? ⟨g, 0, none⟩ = some (.pointer (some ⟨s.d, 0, none⟩)) ∧ w'.cell? ⟨g, 1, none⟩ = some (.int .i64 s.sz) ∧ w'.cell? ⟨g, 4, none⟩ = some (.slice none 0 0) ∧ w'.cell? ⟨g, 5, none⟩ = some (.int .u64 0)) (first | go_keep | exact KEEP.out _ _ HO.out.1)
  (first
   | (go_at_call 187
      refine (GET _ ?h1).mono ?_
      case h1 => first | exact Below.refl _ _ | exact (Below.refl _ _).drew
      rintro e w6 ⟨rfl, HG, ⟨c0, c1, c4, c5⟩, cF, fF, hg⟩)
   | (go_at_call 186
      refine (OPEN _ ?h2).mono ?_
      case h2 => first | exact HG.out | exact HG.out.drew
      rintro e w7 ⟨f, rfl, HO, ⟨c0, c1, c4, c5⟩, cF, fF, hg⟩))
 all_goals go_wp2
 all_goals go_ret
 all_goals exact ⟨rfl, f, (HS.out _ HO.out.1).setF HKN.out _, (heapOther (by have := HO.out.2.2; have := HG0.out; omega)).trans HO.out.2.1, HO.out.2.2, (Beside.of_below HO.out.1 [g]).trans ((Beside.refl _ _).setCell (by simp) _) fun k hk => .inl hk⟩
end Go.Proofs.YtinjbdgjcadodaaGreatDoor.St
namespace Go.Proofs.YtinjbdgjcadodaaGreatDoor.Fd
open Go Go.RowKit Words Enc Evt Go.Proofs.YtinjbdgjcadodaaGreatDoor.Made Dsk Seg
set_option maxHeartbeats 1000000 in
theorem from0 (d f : Nat) (x sz : Int) (floor time : Nat) (seq : Nat) (most : Int) (w : World) (g : w.heap[f]? = some (.cells (cells d x sz floor time (.slice none 0 0) 0) 132 (0, 0))) :
  Calls Tryz.prog 221 #[.pointer (some ⟨f, 0, none⟩), .int .u64 (seq : Int), .int .i64 most] w fun e w' => e = .returned (.slice none 0 0) ∧ Below w.heap.size w w' := by
 have hfl : f < w.heap.size := (Array.getElem?_eq_some_iff.1 g).1
 have hbx := (Below.refl w.heap.size w).alloc (Nat.le_refl _) (.cells #[.pointer (some ⟨f, 0, none⟩)] 84)
 have hby' := hbx.alloc hbx.size (.cells #[.int .u64 (seq : Int)] 22)
 have e3 := heap_alloc_new w (.cells #[.pointer (some ⟨f, 0, none⟩)] 84)
 have e3' := (Below.heap_alloc (w.alloc (.cells #[.pointer (some ⟨f, 0, none⟩)] 84)) (.cells #[.int .u64 (seq : Int)] 22) w.heap.size (by simp)).trans e3
 go_enter Tryz.func221, Tryz.ntmps221
 go_upto_region 1 with fail
 generalize (w.alloc (.cells #[.pointer (some ⟨f, 0, none⟩)] 84)).alloc (.cells #[.int .u64 (seq : Int)] 22) = w2 at hby' e3' ⊢
 obtain ⟨b3, hb3⟩ : ∃ b3, b3 = w.heap.size := ⟨_, rfl⟩
 obtain ⟨b4, hb4⟩ : ∃ b4, b4 = w.heap.size + 1 := ⟨_, rfl⟩
 rw [← hb4]
 rw [← hb3] at e3' ⊢
 have g2 := (hby'.block f hfl).trans g
 have q3 : w2.cell? ⟨b3, 0, none⟩ = some (.pointer (some ⟨f, 0, none⟩)) := by rw [cell_of_row w2 b3 _ _ _ _ e3']; rfl
 have c5 : w2.cell? ⟨f, 5, none⟩ = some (.slice none 0 0) := by rw [cell_of_row w2 f _ _ _ _ g2]; rfl
 have hsr : Calls Tryz.prog 159 #[.int .i64 0, .func (.func 273) #[] #[.pointer (some ⟨b3, 0, none⟩), .pointer (some ⟨b4, 0, none⟩)]] w2 _ := search_any (.pointer (some ⟨b3, 0, none⟩)) (.pointer (some ⟨b4, 0, none⟩)) 0 (fun _ => true) w2 (by omega) (fun W i _ hi => absurd hi (by omega)) (fun _ _ _ _ _ => rfl)
 have HSR := Lib.hid hsr
 have G2 := Lib.hid g2
 have E3 := Lib.hid e3'
 have B2 := Lib.hid hby'
 clear hsr hb3 hb4 hby' hbx e3 g g2 e3'
 go_wp2_with fail
 refine HSR.out.mono ?_
 rintro e w3 ⟨k, rfl, hk, -, -, hb3⟩
 obtain rfl : k = 0 := by omega
 have g3 := (hb3.block f (Array.getElem?_eq_some_iff.1 G2.out).1).trans G2.out
 have h3 := (hb3.block b3 (Array.getElem?_eq_some_iff.1 E3.out).1).trans E3.out
 have q3 : w3.cell? ⟨b3, 0, none⟩ = some (.pointer (some ⟨f, 0, none⟩)) := by rw [cell_of_row w3 b3 _ _ _ _ h3]; rfl
 have c5 : w3.cell? ⟨f, 5, none⟩ = some (.slice none 0 0) := by rw [cell_of_row w3 f _ _ _ _ g3]; rfl
 have B3 := Lib.hid (B2.out.trans (hb3.mono B2.out.size))
 clear g3 h3 hb3 HSR
 go_wp2
 go_loopw [8, 26] (fun v8 v26 wr => v8 = .slice none 0 0 ∧ v26 = .int .i64 0 ∧ wr = w3) (fun _ _ _ => 0)
 case atStart => exact ⟨rfl, rfl, rfl⟩
 case round =>
  obtain ⟨rfl, rfl, rfl⟩ := hrel
  go_wp2
  go_ret
  exact ⟨rfl, B3.out⟩
theorem all0 (d f : Nat) (x sz : Int) (time : Nat) (w : World) (g : w.heap[f]? = some (.cells (cells d x sz 0 time (.slice none 0 0) 0) 132 (0, 0))) :
  Calls Tryz.prog 158 #[.pointer (some ⟨f, 0, none⟩)] w fun e w' => e = .returned (.slice none 0 0) ∧ Below w.heap.size w w' := by
 have hlt := (Array.getElem?_eq_some_iff.1 g).1
 have GB := Lib.hid (fun W (hW : Below w.heap.size w W) => (hW.block f hlt).trans g)
 have c3 : ∀ W, Below w.heap.size w W → W.cell? ⟨f, 3, none⟩ = some (.int .u64 0) := fun W hW => by rw [cell_of_row W f _ _ _ _ (GB.out W hW)]; rfl
 have N1 : ∀ W, Below w.heap.size w W → Calls Tryz.prog 35 #[.pointer (some ⟨f, 0, none⟩)] W fun e w' => e = .returned (.int .u64 1) ∧ Hid (Below w.heap.size w w') ∧ w'.cell? ⟨f, 3, none⟩ = some (.int .u64 0) := fun W hW => by
  refine (next_bare d f x sz 0 time none 0 0 W (GB.out W hW) (by omega)).mono ?_
  rintro e w' ⟨rfl, hb⟩
  have b := hW.trans (hb.mono hW.size)
  exact ⟨rfl, Lib.hid b, c3 w' b⟩
 have R1 : ∀ W, Below w.heap.size w W → Calls Tryz.prog 221 #[.pointer (some ⟨f, 0, none⟩), .int .u64 1, .int .i64 0] W fun e w' => e = .returned (.slice none 0 0) ∧ Hid (Below w.heap.size w w') ∧ w'.cell? ⟨f, 3, none⟩ = some (.int .u64 0) := fun W hW => by
  refine (from0 d f x sz 0 time 1 0 W (GB.out W hW)).mono ?_
  rintro e w' ⟨rfl, hb⟩
  have b := hW.trans (hb.mono hW.size)
  exact ⟨rfl, Lib.hid b, c3 w' b⟩
 have k3 := c3 w (Below.refl _ _)
 clear c3 g
 go_enter Tryz.func158, Tryz.ntmps158
 go_upto_region 3 with fail
 go_region_held3 (fun w' => w'.cell? ⟨f, 3, none⟩ = some (.int .u64 0)) (go_keep)
  (first
   | (go_at_call 35
      refine (N1 _ ?h1).mono ?_
      case h1 => first | exact Below.refl _ _ | exact (Below.refl _ _).drew
      rintro e w6 ⟨rfl, HN, k3⟩)
   | (go_at_call 221
      refine (R1 _ ?h2).mono ?_
      case h2 => first | exact HN.out | exact HN.out.drew
      rintro e w7 ⟨rfl, HF, k3⟩))
 go_wp2
 go_ret
 exact ⟨rfl, HF.out⟩
end Go.Proofs.YtinjbdgjcadodaaGreatDoor.Fd
namespace Go.Proofs.YtinjbdgjcadodaaGreatDoor.St
open Go Go.RowKit Words Enc Go.Proofs.YtinjbdgjcadodaaGreatDoor.Made Dsk Seg
structure Opened (B : Nat) (w : World) (g : Nat) (s : Sto) (j : Nat) : Prop where
 sto : StoAt w g s
 fs : ∀ i, i < j → ∃ f, s.F[i]? = some (.pointer (some ⟨f, 0, none⟩)) ∧ Bare w s.d f i s.sz ∧ B ≤ f
theorem Bare.lt {w : World} {d f k : Nat} {sz : Int} (h : Bare w d f k sz) : f < w.heap.size := (Array.getElem?_eq_some_iff.1 h).1
theorem Opened.next {B : Nat} {w w5 w6 : World} {g f j : Nat} {s : Sto} (h : Opened B w g s j) (hg : g < B) (hj : j < 64) (h5 : StoAt w5 g { s with F := s.F.set j (.pointer (some ⟨f, 0, none⟩)) }) (hf : w.heap.size ≤ f) (hB : B ≤ w.heap.size) (b5 : Beside [g] w w5) (h6 : Bare w6 s.d f j s.sz) (b6 : Beside [f] w5 w6) :
  Opened B w6 g { s with F := s.F.set j (.pointer (some ⟨f, 0, none⟩)) } (j + 1) := by
 have hgw := h.sto.lt
 refine ⟨h5.beside b6 (by simp; omega), fun i hi => ?_⟩
 by_cases e : i = j
 ·subst e
  exact ⟨f, by simp [List.getElem?_set, h.sto.ok.f, hj], h6, by omega⟩
 ·obtain ⟨f', h1, h2, h3⟩ := h.fs i (by omega)
  have hl := h2.lt
  have hl5 : f' < w5.heap.size := Nat.lt_of_lt_of_le hl b5.size
  refine ⟨f', by rw [List.getElem?_set_ne (by omega)]; exact h1, ?_, h3⟩
  exact (b6.block f' hl5 (by simp; omega)).trans ((b5.block f' hl (by simp; omega)).trans h2)
set_option maxHeartbeats 1000000 in
theorem openFeeds_0 (g : Nat) (s : Sto) (S : List Nat) (files : List File) (h : Hd) (w : World) (hs : StoAt w g s) (hd : Disk w s.d S files h) (hgS : g ∉ S) (T : TabsOn (S ++ [g]) w) (hoff : h.off = false) (hfew : files.length ≤ 100000) (hno : NoFeed files) (hfl : s.fl = .slice none 0 0) (htm : s.tm = 0) :
  Calls Tryz.prog 61 #[.pointer (some ⟨g, 0, none⟩)] w fun e w' => e = .returned (.int .i64 0) ∧ ∃ F, Opened w.heap.size w' g { s with F := F } 64 ∧ Beside [g] w w' := by
 have hg := hs.lt
 have OF := Lib.hid (fun (F : List Value) (j : Nat) (W : World) (hj : j < 64) (hW : Beside [g] w W) (hst : StoAt W g { s with F := F }) => openFeed_0 g j { s with F := F } S files h W hst (hd.beside hW (by simpa using fun hm => hgS hm)) (T W (hW.wider fun k hk => .inl (List.mem_append.2 (.inr hk)))).2 hoff hfew hno hj hfl htm)
 have H0 := Lib.hid (⟨hs, fun i hi => by omega⟩ : Opened w.heap.size w g { s with F := s.F } 0)
 have HG := Lib.hid hg
 clear hs hd hgS T hno hfl htm hg
 go_enter Tryz.func61, Tryz.ntmps61
 go_wp2
 go_loopw [6] (fun v wr => ∃ (j : Nat) (F : List Value), v = .int .i64 (j : Int) ∧ j ≤ 64 ∧ Hid (Opened w.heap.size wr g { s with F := F } j) ∧ Hid (Beside [g] w wr)) (fun v _ => 64 - (intOf v).toNat)
 case atStart => exact ⟨0, s.F, rfl, Nat.zero_le _, H0, Lib.hid (Beside.refl _ _)⟩
 case round =>
  obtain ⟨j, F, rfl, hj, HO, HB⟩ := hrel
  by_cases hlt : j < 64
  ·have hd1 : decide ((j : Int) < 64) = true := decide_eq_true (by omega)
   have OFJ := Lib.hid (OF.out F j wr hlt HB.out HO.out.sto)
   have hJ := Lib.hid hlt
   clear hlt
   go_wp2_with fail
   refine OFJ.out.mono ?_
   rintro e w5 ⟨rfl, f, h5, hbare, hf, hb5⟩
   have c8 : w5.cell? ⟨g, 8 + j, none⟩ = some (.pointer (some ⟨f, 0, none⟩)) := h5.cF hJ.out (by simp [List.getElem?_set, HO.out.sto.ok.f, hJ.out])
   have HSY := Lib.hid (Fd.sync0 s.d f (j : Int) s.sz 0 0 w5 hbare)
   have H5 := Lib.hid (And.intro h5 (And.intro hf hb5))
   have q0 : (0 : Int) ≤ (j : Int) := by omega
   have q1 : (j : Int) < 64 := by have := hJ.out; omega
   clear h5 hbare hf hb5 OFJ
   go_wp2_with fail
   refine HSY.out.mono ?_
   rintro e w6 ⟨rfl, hbx, hb6⟩
   have HN := Lib.hid (HO.out.next HG.out hJ.out H5.out.1 H5.out.2.1 HB.out.size H5.out.2.2 hbx hb6)
   have HB6 := Lib.hid ((HB.out.trans H5.out.2.2 fun k hk => .inl hk).trans hb6 fun k hk => by
    have h1 := HB.out.size
    have h2 := H5.out.2.1
    simp at hk
    subst hk
    exact .inr (by omega))
   clear hbx hb6 c8
   go_wp2
   go_roundw
   case rel => exact ⟨j + 1, _, by simp, hJ.out, HN, HB6⟩
   case measure => have := hJ.out; simp [intOf]; omega
  ·have hd1 : decide ((j : Int) < 64) = false := decide_eq_false (by omega)
   obtain rfl : j = 64 := by omega
   clear hlt
   go_wp2
   go_ret
   exact ⟨rfl, F, HO.out, HB.out⟩
end Go.Proofs.YtinjbdgjcadodaaGreatDoor.St
