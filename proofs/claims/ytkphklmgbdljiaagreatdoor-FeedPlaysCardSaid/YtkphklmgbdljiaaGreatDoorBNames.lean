/- disk.Names over many files, in order. -/
import Derived.Test.YtkphklmgbdljiaaGreatDoorFdNil
import Derived.Test.YtkphklmgbdljiaaGreatDoorShelfN
import Derived.Sort.OwnSorted
import Derived.Sort.KeysCollected
namespace Go.Proofs.YtkphklmgbdljiaaGreatDoor.Dsk
open Go Go.RowKit Go.Proofs.YtkphklmgbdljiaaGreatDoor.Words
set_option linter.unusedVariables false
set_option linter.unusedSimpArgs false

theorem look_some {s : List UInt8} {fs : List Fil} : (look s fs).isSome = true ↔ s ∈ fs.map (·.name) := by
  rw [look, List.find?_isSome]
  simp [List.mem_map, decide_eq_true_eq]
/-- What a range over the files has met so far. -/
structure Met (fs : List Fil) (left : Lit → Bool) (ss : List (List UInt8)) : Prop where
  once : ss.Nodup
  mem : ∀ s, s ∈ ss ↔ (look s fs).isSome = true ∧ left (.string s) = false
theorem Met.start {fs : List Fil} {left : Lit → Bool} (h : ∀ s, left (.string s) = (look s fs).isSome) : Met fs left [] :=
  ⟨List.nodup_nil, fun s => by
    rw [h s]
    cases (look s fs).isSome <;> simp⟩
theorem Met.step {fs : List Fil} {left : Lit → Bool} {ss : List (List UInt8)} (m : Met fs left ss) {s : List UInt8} (hl : left (.string s) = true) (hs : (look s fs).isSome = true) (hk : WideAt.IsKeyLit (.string s)) :
    Met fs (fun z => left z && !z.sameKey (.string s)) (ss ++ [s]) := by
  have hn : s ∉ ss := fun h => by have := (m.mem s).1 h; rw [hl] at this; cases this.2
  refine ⟨List.nodup_append.2 ⟨m.once, by simp, fun a ha b hb => by simp at hb; subst hb; exact fun e => hn (e ▸ ha)⟩, fun t => ?_⟩
  by_cases e : t = s
  · subst e
    simp [hs, WideAt.sameKey_self hk]
  · have h1 : (Lit.string t).sameKey (.string s) = false := Maps.sameKey_ne (by intro h; injection h with h; exact e h)
    simp only [List.mem_append, List.mem_singleton, e, or_false, h1, Bool.not_false, Bool.and_true]
    exact m.mem t
theorem perm_of_nodup {l m : List (List UInt8)} (hl : l.Nodup) (hm : m.Nodup) (h : ∀ s, s ∈ l ↔ s ∈ m) : l.Perm m := by
  rw [List.perm_iff_count]
  intro a
  rw [hl.count, hm.count]
  simp [h a]
theorem Met.len {fs : List Fil} {left : Lit → Bool} {ss : List (List UInt8)} (m : Met fs left ss) (hn : (fs.map (·.name)).Nodup) : ss.length ≤ fs.length := by
  have : ss.Perm ((fs.map (·.name)).filter fun s => !left (.string s)) := by
    refine perm_of_nodup m.once (hn.sublist List.filter_sublist) fun s => ?_
    rw [m.mem s, look_some, List.mem_filter]
    simp
  rw [this.length_eq]
  have h1 := List.length_filter_le (fun s => !left (.string s)) (fs.map (·.name))
  rw [List.length_map] at h1
  exact h1
theorem Met.all {fs : List Fil} {left : Lit → Bool} {ss : List (List UInt8)} (m : Met fs left ss) (hl : ∀ z, left z = false) (hn : (fs.map (·.name)).Nodup) : ss.Perm (fs.map (·.name)) := by
  refine perm_of_nodup m.once hn fun s => ?_
  rw [m.mem s, look_some]
  simp [hl]

set_option maxRecDepth 100000 in
theorem names_any (d mb : Nat) (fs : List Fil) (h : Hd) (bg : ByteArray) (w : World) (hd : DiskAt w d mb fs h) (hoff : h.off = false) (hpre : ∀ f ∈ fs, Lib.hasPrefix f.name bg.data.toList = true) (hfew : fs.length ≤ 100000) :
    Calls Tryz.prog 14 #[.pointer (some ⟨d, 0, none⟩), .string bg] w fun e w' => ∃ (A : Option Addr) (n c : Nat) (ss : List (List UInt8)), e = .returned (.slice A n c) ∧ ss.Perm (fs.map (·.name)) ∧ n = ss.length ∧ w'.ownsRow w.heap.size 9 1 (.slice A n c) n ((ss.mergeSort leB).map Go.Proofs.encStr) ∧ Below w.heap.size w w' := by
  obtain ⟨c0, _⟩ := hd.head.cells
  obtain ⟨i, hi, hz, hsz, hby⟩ := info_parts infoStr
  obtain ⟨D, hown, hsh⟩ := hd.map
  have hmlt := hd.map.lt
  have HND := Lib.hid hd.names
  have HSH := Lib.hid hsh
  clear hsh
  go_enter Tryz.func14, Tryz.ntmps14
  go_wp2_with fail
  refine (on_any d mb fs h w hd).mono ?_
  rintro e w1 ⟨rfl, rfl⟩
  rw [hoff]
  go_wp2_with (first | (at_range; refine wpList_range_own _ rfl _ 55 rfl 9 83 keyStr Tryz.underlying55 ptrElem mb fs.length D rfl hown ?_; intro w0 hrg0 hg0 hs0))
  go_frame
  go_loopw [5] (fun v wr => ∃ left cnt A c ss, v = .slice A ss.length c ∧ wr.ranges Tryz.prog 9 ptrElem mb w.heap.size fs.length D left cnt ∧ Below w.heap.size w wr ∧ Hid (Met fs left ss) ∧ wr.ownsRow (w.heap.size + 1) 9 1 (.slice A ss.length c) ss.length (ss.map Go.Proofs.encStr)) (fun _ wr => wr.rangeLeft mb w.heap.size)
  case atStart =>
    refine ⟨_, _, none, 0, [], rfl, hrg0, (Below.refl _ _).grown hg0 (by omega) (fun k hk => by cases hk), Lib.hid (Met.start fun s => ?_), World.ownsRow_nil _ _ _ _⟩
    rw [HSH.out.2.1]
  case round =>
    obtain ⟨left, cnt, A, c, ss, rfl, hrg, hbs, HM, hv⟩ := hrel
    have HOLD := Lib.hid hrg.left_eq
    have hrlt := hrg.lt
    clear hg0 hs0 hrg0
    go_wp2_with (first | (at_next; refine wpList_next_ranges _ rfl _ rfl 9 keyStr ptrElem Value.string Value.pointer (fun _ _ hh => strKey_inv hh) (fun v y hh => (by obtain ⟨a, ha, _⟩ := ptrElem_inv hh; exact ⟨a, ha⟩)) mb w.heap.size fs.length D left cnt rfl hrg ?_ ?_))
    · intro hc0 hl0
      have HP := Lib.hid (HM.out.all hl0 HND.out)
      have hlen : ss.length ≤ 100000 := by have := HP.out.length_eq; rw [List.length_map] at this; omega
      clear hrg hl0
      rcases hv.2 with ⟨hnil, h0⟩ | ⟨g, cap, cur, hsl, hbase, hb, h1, h2, h3, h4⟩
      · have hss : ss = [] := List.eq_nil_of_length_eq_zero (by omega)
        subst hss
        injection hnil with hA _ hc
        subst hA; subst hc
        go_wp2_with fail
        refine (Tryz.slices_Sort_string_none none 0 wr).mono ?_
        rintro e w5 ⟨rfl, rfl⟩
        go_wp2
        go_returns
        exact ⟨none, 0, 0, [], rfl, HP.out, rfl, by simpa using World.ownsRow_nil _ _ _ _, hbs⟩
      · injection hsl with hA _ hc
        subst hA; subst hc
        have hgl : g < wr.heap.size := (Array.getElem?_eq_some_iff.1 hb).1
        have HH : Go.Sort.Holds Go.Proofs.encStr wr g 0 ss.toArray := holds_of_block hb (by simpa using h4)
        have HB := Lib.hid hb
        have HBB := Lib.hid hbs
        clear hb h4 hbs hv
        go_wp2_with fail
        refine (Tryz.slices_Sort_string g 0 c ss wr HH hgl (by omega)).mono ?_
        rintro e w5 ⟨rfl, nn, os, rfl⟩
        have own5 := ownsRow_sorted (n := nn) (os := os) (ts := ss.mergeSort leB) (by simp) hbase HB.out h1 h2 h3
        have b5 : Below w.heap.size wr (Go.Sort.grow (Go.Sort.putRow Go.Proofs.encStr (Go.Sort.ahead wr nn) g 0 (ss.mergeSort leB).toArray) os) := (Below.refl _ _).grown (grownBy_sorted _) HBB.out.size (fun k hk => by injection hk with hk; omega)
        have B5 := Lib.hid (HBB.out.trans b5)
        have O5 := Lib.hid own5
        clear own5 b5 HH
        go_wp2
        go_returns
        exact ⟨_, _, _, ss, rfl, HP.out, rfl, ⟨O5.out.1, O5.out.2.imp id (fun ⟨g', cap', cur', e1, e2, e3⟩ => ⟨g', cap', cur', e1, by omega, e3⟩)⟩, B5.out⟩
    · intro x a kl ya yb w1 cnt1 hkey hlk hRv hat hrg1 hlt hg1 hs1 hen
      obtain rfl := strKey_of hkey
      obtain ⟨s, hs⟩ : ∃ s, s = x.data.toList := ⟨_, rfl⟩
      rw [← hs] at hkey hlk hat hrg1
      have h2 := (HSH.out.2.1 s).symm.trans (Maps.has_true_of_atKey hat)
      have HM2 := Lib.hid (HM.out.step hlk h2 (keyStr.key hkey))
      have hsf : Lib.hasPrefix s bg.data.toList = true := by
        obtain ⟨f, hf, hfs⟩ := List.mem_map.1 (look_some.1 h2)
        have := hpre f hf
        rw [hfs] at this
        exact this
      have hb1 : Below w.heap.size w w1 := hbs.grown hg1 hbs.size fun k hk => by injection hk with hk; omega
      have hv1 : w1.ownsRow (w.heap.size + 1) 9 1 (.slice A ss.length c) ss.length (ss.map Go.Proofs.encStr) := by
        refine hv.kept hg1 (.inr ?_)
        intro e
        have := hv.lt _ e
        omega
      have hlen : ss.length ≤ 100000 := Nat.le_trans (HM.out.len HND.out) hfew
      have HS := Lib.hid hs
      have hr1lt := hrg1.lt
      have HV1 := Lib.hid hv1
      clear hs hlk hat hRv hkey h2 hs1 hv hv1
      go_wp2_with fail
      refine (Tryz.strings_HasPrefix x bg w1).mono ?_
      rintro e w2 ⟨rfl, rfl⟩
      rw [← HS.out, hsf]
      have o2 := HV1.out.alloc (.cells #[.string x] 9)
      go_wp2_with (first | (at_builtin; go_must (refine wpList_append_own _ rfl _ _ 43 rfl (w.heap.size + 1) 9 i (.string ByteArray.empty) 1 16 Tryz.underlying43 hi hz hsz hby rfl (by decide) (.slice A ss.length c) ss.length (ss.map Go.Proofs.encStr) rfl o2 ⟨w2.heap.size, 0, none⟩ 1 1 [.string x] rfl rfl ?c1 ?c2 ?c3 ?c4 ?c5 ?_)))
      case c1 =>
        intro j u hj
        match j, hj with
        | 0, hj => simp at hj; subst hj; simp [Addr.add]
      case c2 => intro u hu; simp at hu; subst hu; rfl
      case c3 => unfold maxLen; omega
      case c4 => omega
      case c5 => simp; omega
      intro v' w3 hown3 hgrow _
      have hb23 : Below (w.heap.size + 1) w2 w3 := ((Below.refl _ _).alloc (by have := hb1.size; omega) _).grown hgrow (by simp; omega) (fun g hg => by have := (o2.lt g hg).1; omega)
      have hrg3 := ranges_kept hrg1 (hb23.block mb (by omega)) (hb23.block w.heap.size (by omega))
      obtain ⟨A3, c3, rfl, _⟩ := Own.shape hown3
      go_wp2
      go_roundw
      case rel => exact ⟨_, _, A3, c3, ss ++ [s], by simp, hrg3, hb1.trans (hb23.mono (by omega)), HM2, by simpa [HS.out] using hown3⟩
      case measure => rw [hrg3.left_eq, HOLD.out]; omega
end Go.Proofs.YtkphklmgbdljiaaGreatDoor.Dsk
