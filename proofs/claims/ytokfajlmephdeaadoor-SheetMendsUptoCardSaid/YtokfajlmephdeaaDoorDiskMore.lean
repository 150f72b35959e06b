/- A file less, a file of another name: the words in memory. disk.Arm, Widen, Cut, Remove: their contracts. disk.Move: its contract. -/
import Derived.Test.YtokfajlmephdeaaDoorDiskCrash
namespace Go.Proofs.YtokfajlmephdeaaDoor.Dsk
open Go Go.RowKit Go.Proofs.YtokfajlmephdeaaDoor.Words
set_option linter.unusedVariables false

/-- The block bears no more entries than are shown. -/
theorem ownsMap_tight {w : World} {b n : Nat} {D : DataW (Option Addr)} (h : w.ownsMap Tryd.prog 9 ptrElem b n D) : w.ownsMap Tryd.prog 9 ptrElem b (Maps.size D) D := by
  obtain ⟨es, clock, hb, F, hs, rfl⟩ := h
  refine ⟨es, clock, hb, F, ?_, rfl⟩
  simp [Maps.size, length_sorted]

theorem look_other {s : List UInt8} {l m : List Fil} {f : Fil} (h : f.name ≠ s) : look s (l ++ f :: m) = look s (l ++ m) := by
  rw [look_append, look_append]
  simp [look, h]
theorem look_here {s : List UInt8} {l m : List Fil} {f : Fil} (h : f.name = s) (hl : ∀ x ∈ l ++ m, x.name ≠ s) : look s (l ++ f :: m) = some f ∧ look s (l ++ m) = none := by
  have h1 : look s l = none := look_none.2 fun x hx => hl x (by simp [hx])
  refine ⟨?_, look_none.2 hl⟩
  rw [look_append, h1]
  simp [look, h]

/-- 'delete(m, name)', of a name that is there. -/
theorem MapAt.run_del {w : World} {mb : Nat} {l m : List Fil} {f : Fil} (h : MapAt w mb (l ++ f :: m)) {s : List UInt8} (hn : f.name = s) (hl : ∀ x ∈ l ++ m, x.name ≠ s) (hs : s.length ≤ 100000) (ty : TypeId) :
    ∃ w', (Builtin.delete_ #[55, 9] ty #[.map (some mb), .string ⟨s.toArray⟩]).run Tryd.prog w = .ok (.tuple #[]) w' ∧ MapAt w' mb (l ++ m) ∧ w.mapTurned w' mb := by
  obtain ⟨D, ho, h1, h2, h3⟩ := h
  obtain ⟨hhere, hgone⟩ := look_here hn hl
  obtain ⟨w', hr, ho', ht⟩ := ho.drop keyStr Tryd.underlying55 (key_mk hs) ty
  have hsz := Maps.size_del (k := .string s) (ho.tidy keyStr)
  rw [h2 s, hhere, h3] at hsz
  have hsz2 : Maps.size (D.del (.string s)) = (l ++ m).length := by simp at hsz ⊢; omega
  refine ⟨w', hr, ⟨_, by rw [← hsz2]; exact ownsMap_tight ho', fun k => ?_, fun k => ?_, hsz2⟩, ht⟩
  · by_cases e : k = s
    · subst e
      rw [Maps.atKey_del_same, hgone]
      rfl
    · rw [Maps.atKey_del_other (by intro h; injection h with h; exact e h), h1, look_other (by rw [hn]; exact Ne.symm e)]
  · by_cases e : k = s
    · subst e
      rw [Maps.has_del_same, hgone]
      rfl
    · rw [Maps.has_del_other (by intro h; injection h with h; exact e h), h2, look_other (by rw [hn]; exact Ne.symm e)]

/-- 'm[name] = f', of a name that is there. -/
theorem MapAt.run_replace {w : World} {mb : Nat} {l m : List Fil} {f : Fil} (h : MapAt w mb (l ++ f :: m)) {s : List UInt8} (hn : f.name = s) (hl : ∀ x ∈ l ++ m, x.name ≠ s) (hs : s.length ≤ 100000) (hlen : (l ++ f :: m).length < 1000000000000) (f' : Fil) (hn' : f'.name = s) :
    ∃ w', (Instr.mapUpdate 55 (.map (some mb)) (.string ⟨s.toArray⟩) (.pointer (some ⟨f'.g, 0, none⟩))).run Tryd.prog w = .ok () w' ∧ MapAt w' mb (l ++ f' :: m) ∧ w.mapTurned w' mb := by
  obtain ⟨D, ho, h1, h2, h3⟩ := h
  obtain ⟨hhere, hgone⟩ := look_here hn hl
  obtain ⟨hhere', _⟩ := look_here (f := f') hn' hl
  obtain ⟨w', hr, ho', ht⟩ := ho.store keyStr Tryd.underlying55 (by unfold maxLen; omega) (key_mk hs) (ptrElem_mk (some ⟨f'.g, 0, none⟩))
  have hsz2 : Maps.size (D.put (.string s) (.held (some ⟨f'.g, 0, none⟩))) = (l ++ f' :: m).length := by
    rw [Maps.size_put (ho.tidy keyStr), h2, hhere, h3]
    simp
  refine ⟨w', hr, ⟨_, by rw [← hsz2]; exact ownsMap_tight ho', fun k => ?_, fun k => ?_, hsz2⟩, ht⟩
  · by_cases e : k = s
    · subst e
      rw [Maps.atKey_put_same ho.isMap (keyStr.key (key_mk hs)), hhere']
      simp [at_]
    · rw [Maps.atKey_put_other (by intro h; injection h with h; exact e h), h1, look_other (by rw [hn]; exact Ne.symm e), look_other (by rw [hn']; exact Ne.symm e)]
  · by_cases e : k = s
    · subst e
      rw [Maps.has_put_same ho.isMap (keyStr.key (key_mk hs)), hhere']
      rfl
    · rw [Maps.has_put_other (by intro h; injection h with h; exact e h), h2, look_other (by rw [hn]; exact Ne.symm e), look_other (by rw [hn']; exact Ne.symm e)]

theorem wpList_del {w : World} {ops : Array Oper} {rest : List Oper} {o : Oper} {a : Act} {Q : Exit → Act → World → Prop} (hg : o.guard = none) (m x : Operand)
    (hop : o.op = Op.call { callee := Callee.builtin Builtin.delete, args := #[m, x], argTypes := #[55, 9] }) (mb : Nat) (l : List Fil) (f : Fil) (m' : List Fil) (s : List UInt8)
    (hm : a.eval m = .map (some mb)) (hx : a.eval x = .string ⟨s.toArray⟩) (h : MapAt w mb (l ++ f :: m')) (hn : f.name = s) (hl : ∀ x ∈ l ++ m', x.name ≠ s) (hs : s.length ≤ 100000)
    (hK : ∀ w', MapAt w' mb (l ++ m') → w.mapTurned w' mb → wpList Tryd.prog ops Q rest (a.put o.dst (.tuple #[])) w') : wpList Tryd.prog ops Q (o :: rest) a w := by
  refine wpList_plain hg fun K' hK' => ?_
  obtain ⟨w', hrun, r1, r2⟩ := h.run_del hn hl hs o.type
  unfold Oper.wp
  simp [execOp, hop, resolve, invoke, builtin, hm, hx, hrun, Result.andThen]
  exact hK' _ _ (hK w' r1 r2)

/-- Other files out of those that were there: their memory is as it was. -/
theorem DiskAt.pick {w w' : World} {d mb : Nat} {fs fs' : List Fil} {h h' : Hd} (hd : DiskAt w d mb fs h) (hb : Beside [d, mb] w w') (hh : HeadAt w' d mb (total fs') h') (hm : MapAt w' mb fs')
    (hfs : ∀ x ∈ fs', ∃ y ∈ fs, x = { y with name := x.name }) (ha : (own d mb fs').Nodup) (hn : (fs'.map (·.name)).Nodup) : DiskAt w' d mb fs' h' := by
  have hap := hd.apart
  unfold own at hap
  rw [List.nodup_cons, List.nodup_cons] at hap
  refine ⟨hh, hm, fun x hx => ?_, ha, hn, fun x hx => ?_⟩
  · obtain ⟨y, hy, e⟩ := hfs x hx
    have hk : FilAt w' y := (hd.files y hy).kept fun k hk => hb.block k (hd.lt k (own_sub hy k hk)) fun hc => by
      have hkm : k ∈ fs.flatMap Fil.own := List.mem_flatMap.2 ⟨y, hy, hk⟩
      simp only [List.mem_cons, List.not_mem_nil, or_false] at hc
      rcases hc with rfl | rfl
      · exact hap.1 (List.mem_cons_of_mem _ hkm)
      · exact hap.2.1 hkm
    rw [e]
    exact hk
  · obtain ⟨y, hy, e⟩ := hfs x hx
    rw [e]
    exact hd.safe y hy
theorem own_pick {d mb : Nat} {fs fs' : List Fil} (hfs : ∀ x ∈ fs', ∃ y ∈ fs, x = { y with name := x.name }) : ∀ k ∈ own d mb fs', k ∈ own d mb fs := by
  intro k hk
  unfold own at hk ⊢
  rcases List.mem_cons.1 hk with rfl | hk
  · simp
  · rcases List.mem_cons.1 hk with rfl | hk
    · simp
    · obtain ⟨x, hx, hkx⟩ := List.mem_flatMap.1 hk
      obtain ⟨y, hy, e⟩ := hfs x hx
      rw [e] at hkx
      exact List.mem_cons_of_mem _ (List.mem_cons_of_mem _ (List.mem_flatMap.2 ⟨y, hy, hkx⟩))

/-- The files without that of a name. -/
def dropF (s : List UInt8) (fs : List File) : List File := fs.filter fun f => decide (f.name ≠ s)
theorem dropF_split {s : List UInt8} {l m : List Fil} {f : Fil} (hn : f.name = s) (hl : ∀ x ∈ l ++ m, x.name ≠ s) : dropF s (abs (l ++ f :: m)) = abs (l ++ m) := by
  have h : ∀ k : List Fil, (∀ x ∈ k, x.name ≠ s) → dropF s (abs k) = abs k := by
    intro k hk
    unfold dropF abs
    rw [List.filter_eq_self]
    intro x hx
    obtain ⟨y, hy, rfl⟩ := List.mem_map.1 hx
    exact decide_eq_true (hk y hy)
  have h1 := h l fun x hx => hl x (by simp [hx])
  have h2 := h m fun x hx => hl x (by simp [hx])
  simp only [dropF, abs, List.map_append, List.map_cons, List.filter_append] at h1 h2 ⊢
  rw [h1, List.filter_cons, if_neg (by simp [Fil.abs, hn]), h2]
theorem dropF_none {s : List UInt8} {fs : List Fil} (h : look s fs = none) : dropF s (abs fs) = abs fs := by
  unfold dropF abs
  rw [List.filter_eq_self]
  intro x hx
  obtain ⟨y, hy, rfl⟩ := List.mem_map.1 hx
  exact decide_eq_true (look_none.1 h y hy)
theorem names_drop {l m : List Fil} {f : Fil} (h : ((l ++ f :: m).map (·.name)).Nodup) : ((l ++ m).map (·.name)).Nodup := by
  rw [List.map_append, List.map_cons, List.perm_middle.nodup_iff, List.nodup_cons, ← List.map_append] at h
  exact h.2
theorem total_drop (l : List Fil) (f : Fil) (m : List Fil) : total (l ++ f :: m) = f.p.length + total (l ++ m) := by
  rw [total_append, total_append]
  simp only [total]
  omega
end Go.Proofs.YtokfajlmephdeaaDoor.Dsk
namespace Go.Proofs.YtokfajlmephdeaaDoor.Dsk
open Go Go.RowKit Go.Proofs.YtokfajlmephdeaaDoor.Words
set_option linter.unusedVariables false

theorem arm_any (d mb : Nat) (fs : List Fil) (h : Hd) (acts torn : Int) (w : World) (hd : DiskAt w d mb fs h) :
    Calls Tryd.prog 21 #[.pointer (some ⟨d, 0, none⟩), .int .i64 acts, .int .i64 torn] w fun e w' => e = .returned (.tuple #[]) ∧ Makes d mb fs w (abs fs) { h with left := acts, torn := torn } w' := by
  have f4 := hd.head.frozen 4
  have f5 := hd.head.frozen 5
  obtain ⟨_, _, _, _, c4, c5, _⟩ := hd.head.cells
  have HH := Lib.hid hd.head
  go_enter Tryd.func21, Tryd.ntmps21
  go_wp2
  go_returns
  have hh := HH.out
  unfold HeadAt at hh
  have hbb : Beside [d] w ((w.setCell ⟨d, 4, none⟩ (.int .i64 acts)).setCell ⟨d, 5, none⟩ (.int .i64 torn)) := ((Beside.refl _ _).setCell (by simp) _).setCell (by simp) _
  exact ⟨rfl, _, Does.head (h' := { h with left := acts, torn := torn }) hd hbb (by
    unfold HeadAt
    rw [heapSame (heapSame hh)]
    simp), rfl⟩

theorem widen_any (d mb : Nat) (fs : List Fil) (h : Hd) (room : Int) (w : World) (hd : DiskAt w d mb fs h) :
    Calls Tryd.prog 24 #[.pointer (some ⟨d, 0, none⟩), .int .i64 room] w fun e w' => e = .returned (.tuple #[]) ∧ Makes d mb fs w (abs fs) { h with room := room } w' := by
  have f1 := hd.head.frozen 1
  obtain ⟨_, c1, _⟩ := hd.head.cells
  have HH := Lib.hid hd.head
  go_enter Tryd.func24, Tryd.ntmps24
  go_wp2
  go_returns
  have hh := HH.out
  unfold HeadAt at hh
  have hbb : Beside [d] w (w.setCell ⟨d, 1, none⟩ (.int .i64 room)) := (Beside.refl _ _).setCell (by simp) _
  exact ⟨rfl, _, Does.head (h' := { h with room := room }) hd hbb (by
    unfold HeadAt
    rw [heapSame hh]
    simp), rfl⟩

/-- What Cut answers, and what it leaves. -/
def cutE (h : Hd) (s : List UInt8) (n : Int) (fs : List File) : Int := if h.may then (match lookA s fs with | some f => if n < 0 ∨ (f.p.length : Int) < n then 1 else 0 | none => 2) else 7
def cutG (n : Int) (f : File) : File := if n < 0 ∨ (f.p.length : Int) < n then f else ⟨f.name, f.p.take n.toNat, n.toNat⟩

set_option maxRecDepth 100000 in
theorem cutOp_any (d mb : Nat) (fs : List Fil) (h : Hd) (s : List UInt8) (n : Int) (w : World) (hd : DiskAt w d mb fs h) (hf : h.fits) (hs2 : s.length ≤ 100000) (ht : total fs ≤ 1000000000000) :
    Calls Tryd.prog 39 #[.pointer (some ⟨d, 0, none⟩), .string ⟨s.toArray⟩, .int .i64 n] w fun e w' => e = .returned (.int .i64 (cutE h s n (abs fs))) ∧ Makes d mb fs w (thereF h s (cutG n) (abs fs)) h.act w' := by
  cases hm : h.may with
  | false =>
    have e1 : cutE h s n (abs fs) = 7 := by simp [cutE, hm]
    have e2 : thereF h s (cutG n) (abs fs) = abs fs := by simp [thereF, hm]
    rw [e1, e2]
    clear e1 e2
    go_enter Tryd.func39, Tryd.ntmps39
    go_wp2_with fail
    refine (open_any d mb fs h s w hd hf hs2).mono ?_
    rintro e w1 ⟨rfl, hdo⟩
    rw [hm, show openE false (look s fs) = 7 from rfl]
    go_wp2
    go_returns
    exact ⟨rfl, Makes.after hdo (makes_same hdo.1)⟩
  | true =>
    cases hl : look s fs with
    | none =>
      have e1 : cutE h s n (abs fs) = 2 := by simp [cutE, hm, lookA_abs, hl]
      have e2 : thereF h s (cutG n) (abs fs) = abs fs := by simp [thereF, hm, upd_none hl]
      rw [e1, e2]
      clear e1 e2
      have e3 : openE true (look s fs) = 2 := by rw [hl]; rfl
      have E3 := Lib.hid e3
      clear e3 hl
      go_enter Tryd.func39, Tryd.ntmps39
      go_wp2_with fail
      refine (open_any d mb fs h s w hd hf hs2).mono ?_
      rintro e w1 ⟨rfl, hdo⟩
      rw [hm, E3.out]
      go_wp2
      go_returns
      exact ⟨rfl, Makes.after hdo (makes_same hdo.1)⟩
    | some f =>
      have e1 : cutE h s n (abs fs) = if n < 0 ∨ (f.p.length : Int) < n then 1 else 0 := by simp [cutE, hm, lookA_abs, hl, Fil.abs]
      have e2 : thereF h s (cutG n) (abs fs) = upd s (cutG n) (abs fs) := by simp [thereF, hm]
      rw [e1, e2]
      clear e1 e2
      have e3 : openE true (look s fs) = 0 := by rw [hl]; rfl
      have e4 : openP true (look s fs) = some ⟨f.g, 0, none⟩ := by rw [hl]; rfl
      obtain ⟨l, m, rfl, hn1, hn2⟩ := look_split hl hd.names
      have E3 := Lib.hid e3
      have E4 := Lib.hid e4
      have N1 := Lib.hid hn1
      have N2 := Lib.hid hn2
      clear e3 e4 hl hn1 hn2
      by_cases hbad : n < 0 ∨ (f.p.length : Int) < n
      · have eu : upd s (cutG n) (abs (l ++ f :: m)) = abs (l ++ f :: m) := (upd_split (f' := f) N1.out N2.out (by unfold cutG; rw [if_pos (by simpa [Fil.abs] using hbad)])).symm
        rw [if_pos hbad, eu]
        have HB := Lib.hid hbad
        clear hbad eu
        go_enter Tryd.func39, Tryd.ntmps39
        go_wp2_with fail
        refine (open_any d mb _ h s w hd hf hs2).mono ?_
        rintro e w1 ⟨rfl, hdo⟩
        rw [hm, E3.out, E4.out]
        have hfl := hdo.1.files f (by simp)
        obtain ⟨g0, g1⟩ := hfl.cells
        rcases HB.out with hbn | hbl
        · clear hfl
          go_wp2
          go_returns
          exact ⟨rfl, Makes.after hdo (makes_same hdo.1)⟩
        · have hb0 : decide (n < 0) = false := by simp; omega
          clear hfl
          go_wp2
          go_returns
          exact ⟨rfl, Makes.after hdo (makes_same hdo.1)⟩
      · obtain ⟨k, hk⟩ : ∃ k : Nat, n = (k : Int) := ⟨n.toNat, by omega⟩
        subst hk
        have hkl : k ≤ f.p.length := by omega
        have eu : upd s (cutG (k : Int)) (abs (l ++ f :: m)) = abs (l ++ f.cut k :: m) := (upd_split (f' := f.cut k) N1.out N2.out (by unfold cutG; rw [if_neg (by simpa [Fil.abs] using hbad)]; simp [Fil.abs, Fil.cut])).symm
        rw [if_neg hbad, eu]
        have hb0 : decide ((k : Int) < 0) = false := by simp
        have hb1 : decide ((f.p.length : Int) < (k : Int)) = false := by simp; omega
        clear hbad eu
        go_enter Tryd.func39, Tryd.ntmps39
        go_wp2_with fail
        refine (open_any d mb _ h s w hd hf hs2).mono ?_
        rintro e w1 ⟨rfl, hdo⟩
        rw [hm, E3.out, E4.out]
        have hfl := hdo.1.files f (by simp)
        obtain ⟨g0, g1⟩ := hfl.cells
        clear hfl
        go_wp2_with fail
        refine (cut_any d mb l f m h.act k w1 hdo.1 ht hkl).mono ?_
        rintro e w2 ⟨rfl, hdo2, _⟩
        go_wp2
        go_returns
        exact ⟨rfl, Makes.after hdo ⟨_, hdo2, rfl⟩⟩

/-- What Remove leaves. -/
def removeF (h : Hd) (s : List UInt8) (fs : List File) : List File := if h.may then dropF s fs else fs

set_option maxRecDepth 100000 in
theorem remove_any (d mb : Nat) (fs : List Fil) (h : Hd) (s : List UInt8) (w : World) (hd : DiskAt w d mb fs h) (hf : h.fits) (hs2 : s.length ≤ 100000) (ht : total fs ≤ 1000000000000) :
    Calls Tryd.prog 40 #[.pointer (some ⟨d, 0, none⟩), .string ⟨s.toArray⟩] w fun e w' => e = .returned (.int .i64 (thereE h s (abs fs))) ∧ Makes d mb fs w (removeF h s (abs fs)) h.act w' := by
  cases hm : h.may with
  | false =>
    have e1 : thereE h s (abs fs) = 7 := by simp [thereE, hm]
    have e2 : removeF h s (abs fs) = abs fs := by simp [removeF, hm]
    rw [e1, e2]
    clear e1 e2
    go_enter Tryd.func40, Tryd.ntmps40
    go_wp2_with fail
    refine (open_any d mb fs h s w hd hf hs2).mono ?_
    rintro e w1 ⟨rfl, hdo⟩
    rw [hm, show openE false (look s fs) = 7 from rfl]
    go_wp2
    go_returns
    exact ⟨rfl, Makes.after hdo (makes_same hdo.1)⟩
  | true =>
    cases hl : look s fs with
    | none =>
      have e1 : thereE h s (abs fs) = 2 := by simp [thereE, hm, lookA_abs, hl]
      have e2 : removeF h s (abs fs) = abs fs := by simp [removeF, hm, dropF_none hl]
      rw [e1, e2]
      clear e1 e2
      have e3 : openE true (look s fs) = 2 := by rw [hl]; rfl
      have E3 := Lib.hid e3
      clear e3 hl
      go_enter Tryd.func40, Tryd.ntmps40
      go_wp2_with fail
      refine (open_any d mb fs h s w hd hf hs2).mono ?_
      rintro e w1 ⟨rfl, hdo⟩
      rw [hm, E3.out]
      go_wp2
      go_returns
      exact ⟨rfl, Makes.after hdo (makes_same hdo.1)⟩
    | some f =>
      have e1 : thereE h s (abs fs) = 0 := by simp [thereE, hm, lookA_abs, hl]
      have e3 : openE true (look s fs) = 0 := by rw [hl]; rfl
      have e4 : openP true (look s fs) = some ⟨f.g, 0, none⟩ := by rw [hl]; rfl
      obtain ⟨l, m, rfl, hn1, hn2⟩ := look_split hl hd.names
      have e2 : removeF h s (abs (l ++ f :: m)) = abs (l ++ m) := by simp only [removeF, hm, if_true]; exact dropF_split hn1 hn2
      rw [e1, e2]
      clear e1 e2
      have E3 := Lib.hid e3
      have E4 := Lib.hid e4
      have N1 := Lib.hid hn1
      have N2 := Lib.hid hn2
      have htd := total_drop l f m
      have HT := Lib.hid htd
      obtain ⟨tot, htt⟩ : ∃ tot, tot = total (l ++ f :: m) := ⟨_, rfl⟩
      obtain ⟨len, hlen⟩ : ∃ len, len = f.p.length := ⟨_, rfl⟩
      have hle : len ≤ tot := by omega
      have hw1 : IntKind.i64.wrap ((tot : Int) - (len : Int)) = (tot : Int) - (len : Int) := IntWalk.i64_in _ (by omega)
      have HTT := Lib.hid htt
      have HL := Lib.hid hlen
      clear e3 e4 hl hn1 hn2 htd htt hlen
      go_enter Tryd.func40, Tryd.ntmps40
      go_wp2_with fail
      refine (open_any d mb _ h s w hd hf hs2).mono ?_
      rintro e w1 ⟨rfl, hdo⟩
      rw [hm, E3.out, E4.out]
      have hfl := hdo.1.files f (by simp)
      obtain ⟨g0, g1⟩ := hfl.cells
      rw [← HL.out] at g0
      obtain ⟨c0, _, c2, _⟩ := hdo.1.head.cells
      rw [← HTT.out] at c2
      have f2 := hdo.1.head.frozen 2
      have hap := hdo.1.apart
      have hdm : d ≠ mb := (own_ne hap).2.2.1
      have HD := Lib.hid hdo
      clear hfl hdo
      go_wp2
      go_still_tail 12, (by kernel_rfl)
      change wpList _ _ _ _ _ w1.drew
      have hmap1 : MapAt (w1.drew.setCell ⟨d, 2, none⟩ (.int .i64 ((tot : Int) - (len : Int)))) mb (l ++ f :: m) := HD.out.1.map.kept (heapOther (Ne.symm hdm))
      go_wp2_with (first | (at_delete; refine wpList_del rfl _ _ rfl mb l f m s rfl rfl hmap1 N1.out N2.out hs2 ?_; intro w2 hmap2 hturn))
      go_wp2
      go_returns
      have hdo := HD.out
      have hh := hdo.1.head
      unfold HeadAt at hh
      have hg2 := hturn.grown
      have hbb : Beside [d, mb] w1 w2 := ((((Beside.refl [d, mb] w1).drew).setCell (by simp) _).grown hg2 (fun k hk => by cases hk; exact .inl (by simp)))
      have hpick : ∀ x ∈ l ++ m, ∃ y ∈ l ++ f :: m, x = { y with name := x.name } := fun x hx => ⟨x, by simp at hx ⊢; rcases hx with h1 | h1 <;> simp [h1], rfl⟩
      have hd2 : DiskAt w2 d mb (l ++ m) h.act := by
        refine hdo.1.pick hbb ?_ hmap2 hpick (own_self hap).2.1 (names_drop hdo.1.names)
        unfold HeadAt
        rw [hg2.block d (by have := hdo.1.head.lt; simpa using this) (by simpa using hdm)]
        show (w1.setCell _ _).heap[d]? = _
        rw [heapSame hh]
        have e : (tot : Int) - (len : Int) = ((total (l ++ m) : Nat) : Int) := by have h1 := HT.out; have h2 := HTT.out; have h3 := HL.out; omega
        rw [e]
        simp
      refine ⟨rfl, Makes.after hdo ⟨_, ⟨hd2, hbb.wider ?_, fun k hk => .inl (own_pick hpick k hk)⟩, rfl⟩⟩
      intro x hx
      simp at hx
      rcases hx with rfl | rfl <;> exact .inl (by simp [own])
end Go.Proofs.YtokfajlmephdeaaDoor.Dsk
namespace Go.Proofs.YtokfajlmephdeaaDoor.Dsk
open Go Go.RowKit Go.Proofs.YtokfajlmephdeaaDoor.Words
set_option linter.unusedVariables false

/-- What Move leaves, where it may be done. -/
def moved (s t : List UInt8) (fs : List File) : List File :=
  match lookA s fs with
  | none => fs
  | some f => if (lookA t (dropF s fs)).isSome then upd t (fun _ => { f with name := t }) (dropF s fs) else dropF s fs ++ [{ f with name := t }]
def moveF (h : Hd) (s t : List UInt8) (fs : List File) : List File := if h.may then moved s t fs else fs

theorem moved_to_new {s t : List UInt8} {l m : List Fil} {f : Fil} (hn : f.name = s) (hl : ∀ x ∈ l ++ m, x.name ≠ s) (ht : look t (l ++ m) = none) : moved s t (abs (l ++ f :: m)) = abs (l ++ m ++ [{ f with name := t }]) := by
  unfold moved
  rw [lookA_abs, (look_here hn hl).1]
  simp only [Option.map_some]
  rw [dropF_split hn hl, lookA_abs, ht]
  simp [abs, Fil.abs]
theorem moved_to_old {s t : List UInt8} {l m l2 m2 : List Fil} {f g : Fil} (hn : f.name = s) (hl : ∀ x ∈ l ++ m, x.name ≠ s) (he : l ++ m = l2 ++ g :: m2) (hg : g.name = t) (hl2 : ∀ x ∈ l2 ++ m2, x.name ≠ t) :
    moved s t (abs (l ++ f :: m)) = abs (l2 ++ { f with name := t } :: m2) := by
  unfold moved
  rw [lookA_abs, (look_here hn hl).1]
  simp only [Option.map_some]
  rw [dropF_split hn hl, he, lookA_abs, (look_here hg hl2).1]
  simp only [Option.map_some, Option.isSome_some, if_true]
  exact (upd_split (f' := { f with name := t }) hg hl2 rfl).symm

set_option maxRecDepth 100000 in
theorem move_any (d mb : Nat) (fs : List Fil) (h : Hd) (s t : List UInt8) (w : World) (hd : DiskAt w d mb fs h) (hf : h.fits) (hs2 : s.length ≤ 100000) (hok : okName t = true) (htot : total fs ≤ 1000000000000) (hlen : fs.length < 1000000000000) :
    Calls Tryd.prog 43 #[.pointer (some ⟨d, 0, none⟩), .string ⟨s.toArray⟩, .string ⟨t.toArray⟩] w fun e w' => e = .returned (.int .i64 (thereE h s (abs fs))) ∧ Makes d mb fs w (moveF h s t (abs fs)) h.act w' := by
  have ht2 := okName_len hok
  have HOK := Lib.hid hok
  clear hok
  cases hm : h.may with
  | false =>
    have e1 : thereE h s (abs fs) = 7 := by simp [thereE, hm]
    have e2 : moveF h s t (abs fs) = abs fs := by simp [moveF, hm]
    rw [e1, e2]
    clear e1 e2
    go_enter Tryd.func43, Tryd.ntmps43
    go_wp2_with fail
    refine (named_any t w HOK.out).mono ?_
    rintro e w0 ⟨rfl, hb0⟩
    have hd0 := hd.below hb0
    go_wp2_with fail
    refine (open_any d mb fs h s w0 hd0 hf hs2).mono ?_
    rintro e w1 ⟨rfl, hdo⟩
    rw [hm, show openE false (look s fs) = 7 from rfl]
    go_wp2
    go_returns
    exact ⟨rfl, (Makes.after hdo (makes_same hdo.1)).below hb0⟩
  | true =>
    cases hl : look s fs with
    | none =>
      have e1 : thereE h s (abs fs) = 2 := by simp [thereE, hm, lookA_abs, hl]
      have e2 : moveF h s t (abs fs) = abs fs := by simp [moveF, moved, hm, lookA_abs, hl]
      rw [e1, e2]
      clear e1 e2
      have e3 : openE true (look s fs) = 2 := by rw [hl]; rfl
      have E3 := Lib.hid e3
      clear e3 hl
      go_enter Tryd.func43, Tryd.ntmps43
      go_wp2_with fail
      refine (named_any t w HOK.out).mono ?_
      rintro e w0 ⟨rfl, hb0⟩
      have hd0 := hd.below hb0
      go_wp2_with fail
      refine (open_any d mb fs h s w0 hd0 hf hs2).mono ?_
      rintro e w1 ⟨rfl, hdo⟩
      rw [hm, E3.out]
      go_wp2
      go_returns
      exact ⟨rfl, (Makes.after hdo (makes_same hdo.1)).below hb0⟩
    | some f =>
      have e1 : thereE h s (abs fs) = 0 := by simp [thereE, hm, lookA_abs, hl]
      have e3 : openE true (look s fs) = 0 := by rw [hl]; rfl
      have e4 : openP true (look s fs) = some ⟨f.g, 0, none⟩ := by rw [hl]; rfl
      obtain ⟨l, m, rfl, hn1, hn2⟩ := look_split hl hd.names
      have e2 : moveF h s t (abs (l ++ f :: m)) = moved s t (abs (l ++ f :: m)) := by simp only [moveF, hm, if_true]
      rw [e1, e2]
      clear e1 e2
      have E3 := Lib.hid e3
      have E4 := Lib.hid e4
      have N1 := Lib.hid hn1
      have N2 := Lib.hid hn2
      have htd := total_drop l f m
      have HT := Lib.hid htd
      have hlen2 : (l ++ m).length < 1000000000000 := by simp at hlen ⊢; omega
      clear e3 e4 hl htd
      cases hlt : look t (l ++ m) with
      | none =>
        have hmv := moved_to_new hn1 hn2 hlt
        rw [hmv]
        have HLT := Lib.hid hlt
        clear hn1 hn2 hmv
        go_enter Tryd.func43, Tryd.ntmps43
        go_wp2_with fail
        refine (named_any t w HOK.out).mono ?_
        rintro e w0 ⟨rfl, hb0⟩
        have hd0 := hd.below hb0
        go_wp2_with fail
        refine (open_any d mb _ h s w0 hd0 hf hs2).mono ?_
        rintro e w1 ⟨rfl, hdo⟩
        rw [hm, E3.out, E4.out]
        obtain ⟨c0, _⟩ := hdo.1.head.cells
        have hap := hdo.1.apart
        have hdm : d ≠ mb := (own_ne hap).2.2.1
        have hmap1 := hdo.1.map
        have hdlt := hdo.1.head.lt
        have HD := Lib.hid hdo
        clear hdo hlt
        go_wp2_with (first | (at_delete; refine wpList_del rfl _ _ rfl mb l f m s rfl rfl hmap1 N1.out N2.out hs2 ?_))
        intro w2 hmap2 hturn
        have hg2 := hturn.grown
        have hh2 : HeadAt w2 d mb (total (l ++ f :: m)) h.act := (hg2.block d hdlt (by simpa using hdm)).trans HD.out.1.head
        obtain ⟨c02, _⟩ := hh2.cells
        have hlk := hmap2.run_look ht2
        rw [HLT.out, show at_ none = none from rfl] at hlk
        obtain ⟨w3, hst, hmap3, hturn3⟩ := hmap2.run_store (f := { f with name := t }) HLT.out ht2 hlen2
        have HG := Lib.hid hg2
        have HT3 := Lib.hid hturn3
        have HH2 := Lib.hid hh2
        clear hg2 hturn3 hh2 hturn
        simp only [] at hst
        go_wp2
        go_returns
        have hdo := HD.out
        have hg3 := HT3.out.grown
        have hbb : Beside [d, mb] w1 w3 := ((Beside.refl [d, mb] w1).grown HG.out (fun k hk => by cases hk; exact .inl (by simp))).grown hg3 (fun k hk => by cases hk; exact .inl (by simp))
        have hpick : ∀ x ∈ l ++ m ++ [{ f with name := t }], ∃ y ∈ l ++ f :: m, x = { y with name := x.name } := fun x hx => by
          simp at hx
          rcases hx with h1 | h1 | h1
          · exact ⟨x, by simp [h1], rfl⟩
          · exact ⟨x, by simp [h1], rfl⟩
          · exact ⟨f, by simp, by rw [h1]⟩
        obtain ⟨a1, a2, a3⟩ := own_self hap
        have hd3 : DiskAt w3 d mb (l ++ m ++ [{ f with name := t }]) h.act := by
          refine hdo.1.pick hbb ?_ hmap3 hpick ?_ ?_
          · have e : total (l ++ m ++ [{ f with name := t }]) = total (l ++ f :: m) := by rw [HT.out, total_append (l ++ m)]; simp only [total]; omega
            rw [e]
            exact (hg3.block d HH2.out.lt (by simpa using hdm)).trans HH2.out
          · have := own_split d mb (l ++ m) { f with name := t } []
            rw [List.append_nil] at this
            rw [this.nodup_iff, List.nodup_append]
            exact ⟨a1, a2, fun k hk j hj e => a3 k hk (e ▸ hj)⟩
          · rw [List.map_append, List.nodup_append]
            refine ⟨names_drop hdo.1.names, by simp, fun a ha b hb e => ?_⟩
            obtain ⟨x, hx, rfl⟩ := List.mem_map.1 ha
            simp at hb
            exact look_none.1 HLT.out x hx (e.trans hb)
        refine ⟨rfl, (Makes.after hdo ⟨_, ⟨hd3, hbb.wider ?_, fun k hk => .inl (own_pick hpick k hk)⟩, rfl⟩).below hb0⟩
        intro x hx
        simp at hx
        rcases hx with rfl | rfl <;> exact .inl (by simp [own])
      | some g =>
        have hnd2 := names_drop hd.names
        obtain ⟨l2, m2, he, hg1, hg2'⟩ := look_split hlt hnd2
        have hmv := moved_to_old hn1 hn2 he hg1 hg2'
        rw [hmv]
        have htd2 := total_drop l2 g m2
        rw [← he] at htd2
        have HLT := Lib.hid hlt
        have HE := Lib.hid he
        have G1 := Lib.hid hg1
        have G2 := Lib.hid hg2'
        obtain ⟨tot, htt⟩ : ∃ tot, tot = total (l ++ f :: m) := ⟨_, rfl⟩
        obtain ⟨len, hlen'⟩ : ∃ len, len = g.p.length := ⟨_, rfl⟩
        have hle : len ≤ tot := by have := HT.out; omega
        have hw1 : IntKind.i64.wrap ((tot : Int) - (len : Int)) = (tot : Int) - (len : Int) := IntWalk.i64_in _ (by omega)
        have HTT := Lib.hid htt
        have HL := Lib.hid hlen'
        have HT2 := Lib.hid htd2
        clear hn1 hn2 hmv hg1 hg2' he htd2 htt hlen' hlt
        go_enter Tryd.func43, Tryd.ntmps43
        go_wp2_with fail
        refine (named_any t w HOK.out).mono ?_
        rintro e w0 ⟨rfl, hb0⟩
        have hd0 := hd.below hb0
        go_wp2_with fail
        refine (open_any d mb _ h s w0 hd0 hf hs2).mono ?_
        rintro e w1 ⟨rfl, hdo⟩
        rw [hm, E3.out, E4.out]
        obtain ⟨c0, _⟩ := hdo.1.head.cells
        have hap := hdo.1.apart
        have hdm : d ≠ mb := (own_ne hap).2.2.1
        have hmap1 := hdo.1.map
        have hdlt := hdo.1.head.lt
        have hgin : g ∈ l ++ m := by rw [HE.out]; simp
        have hgin' : g ∈ l ++ f :: m := by simp at hgin ⊢; rcases hgin with h1 | h1 <;> simp [h1]
        have hfg := hdo.1.files g hgin'
        have hglt := hfg.lt g.g (by simp [Fil.own])
        have hgmb : g.g ≠ mb := by
          intro e
          have h1 := hap
          unfold own at h1
          rw [List.nodup_cons, List.nodup_cons] at h1
          exact h1.2.1 (e ▸ List.mem_flatMap.2 ⟨g, hgin', by simp [Fil.own]⟩)
        have HGM := Lib.hid hgmb
        have HFG := Lib.hid hfg
        have HD := Lib.hid hdo
        clear hdo hfg hgin hgin' hgmb
        go_wp2_with (first | (at_delete; refine wpList_del rfl _ _ rfl mb l f m s rfl rfl hmap1 N1.out N2.out hs2 ?_))
        intro w2 hmap2 hturn
        have hg2 := hturn.grown
        have hh2 : HeadAt w2 d mb (total (l ++ f :: m)) h.act := (hg2.block d hdlt (by simpa using hdm)).trans HD.out.1.head
        have hc2 : w2.cell? ⟨g.g, 0, none⟩ = some (.slice g.A g.p.length g.c) := by
          rw [cell_of_row w2 g.g _ _ _ _ ((hg2.block g.g hglt (by simpa using HGM.out)).trans HFG.out.1)]
          rfl
        rw [← HL.out] at hc2
        obtain ⟨c02, _, c22, _⟩ := hh2.cells
        rw [← HTT.out] at c22
        have f22 := hh2.frozen 2
        have hlk := hmap2.run_look ht2
        rw [HLT.out, show at_ (some g) = some ⟨g.g, 0, none⟩ from rfl] at hlk
        have hmap2' := hmap2
        rw [HE.out] at hmap2'
        have hdlt2 := hh2.lt
        have hmap3 : MapAt (w2.setCell ⟨d, 2, none⟩ (.int .i64 ((tot : Int) - (len : Int)))).drew mb (l2 ++ g :: m2) := hmap2'.kept (heapOther (Ne.symm hdm))
        obtain ⟨w4, hst, hmap4, hturn4⟩ := hmap3.run_replace G1.out G2.out ht2 (by rw [HE.out] at hlen2; exact hlen2) { f with name := t } rfl
        have HG := Lib.hid hg2
        have HT4 := Lib.hid hturn4
        have HH2 := Lib.hid hh2
        clear hg2 hturn4 hh2 hturn hmap2 hmap2' hmap3
        simp only [] at hst
        go_wp2
        go_still_tail 12, (by kernel_rfl)
        change wpList _ _ _ _ _ w2.drew
        go_wp2
        go_returns
        have hdo := HD.out
        have hg4 := HT4.out.grown
        have hh := HH2.out
        unfold HeadAt at hh
        have hbb : Beside [d, mb] w1 w4 := ((((Beside.refl [d, mb] w1).grown HG.out (fun k hk => by cases hk; exact .inl (by simp))).setCell (by simp) _).drew).grown hg4 (fun k hk => by cases hk; exact .inl (by simp))
        have hsub : ∀ x ∈ l2 ++ g :: m2, x ∈ l ++ f :: m := fun x hx => by
          rw [← HE.out] at hx
          simp at hx ⊢
          rcases hx with h1 | h1 <;> simp [h1]
        have hpick : ∀ x ∈ l2 ++ { f with name := t } :: m2, ∃ y ∈ l ++ f :: m, x = { y with name := x.name } := fun x hx => by
          simp at hx
          rcases hx with h1 | h1 | h1
          · exact ⟨x, hsub x (by simp [h1]), rfl⟩
          · exact ⟨f, by simp, by rw [h1]⟩
          · exact ⟨x, hsub x (by simp [h1]), rfl⟩
        obtain ⟨a1, a2, a3⟩ := own_self hap
        have a2' := a2
        rw [HE.out] at a2'
        obtain ⟨b1, b2, b3⟩ := own_self a2'
        have hd4 : DiskAt w4 d mb (l2 ++ { f with name := t } :: m2) h.act := by
          refine hdo.1.pick hbb ?_ hmap4 hpick ?_ ?_
          · unfold HeadAt
            rw [hg4.block d (by simpa using hdlt2) (by simpa using hdm)]
            show (w2.setCell _ _).heap[d]? = _
            rw [heapSame hh]
            have e : (tot : Int) - (len : Int) = ((total (l2 ++ { f with name := t } :: m2) : Nat) : Int) := by
              have h1 := HT.out
              have h2 := HT2.out
              have h3 := HTT.out
              have h4 := HL.out
              have h5 := total_drop l2 { f with name := t } m2
              simp only [] at h5
              omega
            rw [e]
            simp
          · rw [(own_split d mb l2 { f with name := t } m2).nodup_iff, List.nodup_append]
            exact ⟨a1, b2, fun k hk j hj e => a3 k hk (by rw [HE.out, e]; exact mem_own_split.2 (.inr hj))⟩
          · have hnm := names_drop hdo.1.names
            rw [HE.out] at hnm
            simpa [G1.out] using hnm
        refine ⟨rfl, (Makes.after hdo ⟨_, ⟨hd4, hbb.wider ?_, fun k hk => .inl (own_pick hpick k hk)⟩, rfl⟩).below hb0⟩
        intro x hx
        simp at hx
        rcases hx with rfl | rfl <;> exact .inl (by simp [own])
end Go.Proofs.YtokfajlmephdeaaDoor.Dsk
