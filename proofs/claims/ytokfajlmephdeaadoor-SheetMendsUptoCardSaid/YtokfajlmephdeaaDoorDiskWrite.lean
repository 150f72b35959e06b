/- disk.cut: its contract. disk.write: its contract. -/
import Derived.Test.YtokfajlmephdeaaDoorDiskAct
import Derived.StillTailTactics
import Derived.BigRegion
namespace Go.Proofs.YtokfajlmephdeaaDoor.Dsk
open Go Go.RowKit Go.Proofs.YtokfajlmephdeaaDoor.Words
set_option linter.unusedVariables false

/-- A file of n bytes, all safe. -/
def Fil.cut (f : Fil) (n : Nat) : Fil := { f with c := n, p := f.p.take n, safe := n }

theorem own_ne {d mb : Nat} {l m : List Fil} {f : Fil} (h : (own d mb (l ++ f :: m)).Nodup) : f.g ≠ d ∧ f.g ≠ mb ∧ d ≠ mb ∧ ∀ a, f.A = some a → a.block ≠ d ∧ a.block ≠ mb ∧ a.block ≠ f.g := by
  obtain ⟨a1, a2, a3⟩ := own_self h
  have hd : d ∈ own d mb (l ++ m) := by simp [own]
  have hm : mb ∈ own d mb (l ++ m) := by simp [own]
  refine ⟨fun e => a3 f.g (by simp [Fil.own]) (e ▸ hd), fun e => a3 f.g (by simp [Fil.own]) (e ▸ hm), fun e => ?_, fun a ha => ⟨fun e => a3 a.block (by simp [Fil.own, ha]) (e ▸ hd), fun e => a3 a.block (by simp [Fil.own, ha]) (e ▸ hm), fun e => ?_⟩⟩
  · unfold own at a2
    rw [List.nodup_cons] at a2
    exact a2.1 (by simp [e])
  · simp [Fil.own, ha] at a1
    exact a1 e.symm

set_option maxRecDepth 100000 in
theorem cut_any (d mb : Nat) (l : List Fil) (f : Fil) (m : List Fil) (h : Hd) (n : Nat) (w : World) (hd : DiskAt w d mb (l ++ f :: m) h) (ht : total (l ++ f :: m) ≤ 1000000000000) (hn : n ≤ f.p.length) :
    Calls Tryd.prog 44 #[.pointer (some ⟨d, 0, none⟩), .pointer (some ⟨f.g, 0, none⟩), .int .i64 (n : Int)] w fun e w' => e = .returned (.tuple #[]) ∧ Does d mb (l ++ f :: m) w (l ++ f.cut n :: m) h w' ∧ Beside (d :: f.own) w w' := by
  have hfl := hd.files f (by simp)
  obtain ⟨n1, n2, n3, n4⟩ := own_ne hd.apart
  obtain ⟨_, _, c2, _⟩ := hd.head.cells
  obtain ⟨g0, g1⟩ := hfl.cells
  have f2 := hd.head.frozen 2
  have q0 := hfl.frozen 0
  have q1 := hfl.frozen 1
  have hcap := hfl.2.cap
  have htot : total (l ++ f.cut n :: m) + f.p.length = total (l ++ f :: m) + n := by
    rw [total_append, total_append]
    simp only [total, Fil.cut, List.length_take]
    omega
  have hle : f.p.length ≤ total (l ++ f :: m) := by
    rw [total_append]
    simp only [total]
    omega
  have hfl0 := hfl
  have HH := Lib.hid hd.head
  have HD := Lib.hid hd
  have HT := Lib.hid htot
  have NE := Lib.hid n1
  have NE2 := Lib.hid n4
  obtain ⟨len, hlen⟩ : ∃ len, len = f.p.length := ⟨_, rfl⟩
  rw [← hlen] at g0 hle hcap hn
  obtain ⟨cap, hc⟩ : ∃ cap, cap = f.c := ⟨_, rfl⟩
  rw [← hc] at g0 hcap
  obtain ⟨tot, htt⟩ : ∃ tot, tot = total (l ++ f :: m) := ⟨_, rfl⟩
  rw [← htt] at c2 hle ht
  have HL := Lib.hid hlen
  have HTT := Lib.hid htt
  have hw1 : IntKind.i64.wrap ((len : Int) - (n : Int)) = (len : Int) - (n : Int) := IntWalk.i64_in _ (by omega)
  have hw2 : IntKind.i64.wrap ((tot : Int) - ((len : Int) - (n : Int))) = (tot : Int) - ((len : Int) - (n : Int)) := IntWalk.i64_in _ (by omega)
  clear hd hfl hlen htt htot n4 n2 n3
  have hn2 : n ≤ cap := by omega
  go_enter Tryd.func44, Tryd.ntmps44
  go_wp2
  go_still_tail 14, (by kernel_rfl)
  change wpList _ _ _ _ _ w.drew
  go_wp2
  go_end0
  have hd := HD.out
  have hh := HH.out
  have hn4 := NE2.out
  have htot := HT.out
  have hlen := HL.out
  have htt := HTT.out
  unfold HeadAt at hh
  refine ⟨rfl, ⟨hd.turnFile (f := f) ((((((Beside.refl _ _).setCell (by simp) _).setCell (by simp [Fil.own]) _).setCell (by simp [Fil.own]) _).drew)) ?_ ⟨?_, ?_⟩ rfl rfl (fun k hk => .inl hk) (own_self hd.apart).1 (by simp [Fil.cut]; omega), ?_, ?_⟩, (((((Beside.refl _ _).setCell (by simp) _).setCell (by simp [Fil.own]) _).setCell (by simp [Fil.own]) _).drew)⟩
  · unfold HeadAt
    show (((w.setCell _ _).setCell _ _).setCell _ _).heap[d]? = _
    rw [heapOther (Ne.symm n1), heapOther (Ne.symm n1), heapSame hh]
    have e : (tot : Int) - ((len : Int) - (n : Int)) = ((total (l ++ f.cut n :: m) : Nat) : Int) := by omega
    rw [e]
    simp
  · show (((w.setCell _ _).setCell _ _).setCell _ _).heap[f.g]? = _
    rw [heapSame (heapSame ((heapOther n1).trans hfl0.1))]
    have e : (f.cut n).p.length = n := by simp [Fil.cut]; omega
    rw [e]
    rfl
  · have e : (f.cut n).p.length = n := by simp [Fil.cut]; omega
    rw [e]
    refine (hfl0.2.cut (k := n) (by omega)).kept fun a ha => ?_
    obtain ⟨b1, _, b3⟩ := hn4 a ha
    show (((w.setCell _ _).setCell _ _).setCell _ _).heap[a.block]? = _
    rw [heapOther b3, heapOther b3, heapOther b1]
  · exact (((((Beside.refl _ _).setCell (by simp [own]) _).setCell (mem_own_split.2 (.inl (by simp [Fil.own]))) _).setCell (mem_own_split.2 (.inl (by simp [Fil.own]))) _).drew)
  · intro k hk
    rw [mem_own_split] at hk
    exact .inl (mem_own_split.2 hk)
end Go.Proofs.YtokfajlmephdeaaDoor.Dsk
namespace Go.Proofs.YtokfajlmephdeaaDoor.Dsk
open Go Go.RowKit Go.Proofs.YtokfajlmephdeaaDoor.Words
set_option linter.unusedVariables false

/-- A file, without where it lies. -/
structure File where
  name : List UInt8
  p : List UInt8
  safe : Nat
def Fil.abs (f : Fil) : File := ⟨f.name, f.p, f.safe⟩
def abs (fs : List Fil) : List File := fs.map Fil.abs
/-- Bytes behind a file's, which is there then. -/
def put (s q : List UInt8) : List File → List File
  | [] => [⟨s, q, 0⟩]
  | f :: r => if f.name = s then { f with p := f.p ++ q } :: r else f :: put s q r
theorem put_there {s q : List UInt8} (f : Fil) (f' : Fil) (hs : f.name = s) (h1 : f'.name = s) (h2 : f'.p = f.p ++ q) (h3 : f'.safe = f.safe) (m : List Fil) : ∀ l : List Fil, (∀ x ∈ l, x.name ≠ s) → abs (l ++ f' :: m) = put s q (abs (l ++ f :: m))
  | [], _ => by
    simp only [abs, List.nil_append, List.map_cons, put, Fil.abs, hs, h1, h2, h3]
    simp
  | x :: l, h => by
    have hx : x.name ≠ s := h x (by simp)
    have ih := put_there f f' hs h1 h2 h3 m l fun y hy => h y (by simp [hy])
    simp only [abs, List.cons_append, List.map_cons] at ih ⊢
    have e : put s q (Fil.abs x :: (l ++ f :: m).map Fil.abs) = Fil.abs x :: put s q ((l ++ f :: m).map Fil.abs) := by
      conv => lhs; unfold put
      rw [if_neg (by simpa [Fil.abs] using hx)]
    rw [e, ih]
theorem put_new {s q : List UInt8} (f : Fil) (h1 : f.name = s) (h2 : f.p = q) (h3 : f.safe = 0) : ∀ l : List Fil, (∀ x ∈ l, x.name ≠ s) → abs (l ++ [f]) = put s q (abs l)
  | [], _ => by simp [abs, put, Fil.abs, h1, h2, h3]
  | x :: l, h => by
    have hx : x.name ≠ s := h x (by simp)
    have ih := put_new f h1 h2 h3 l fun y hy => h y (by simp [hy])
    simp only [abs, List.cons_append, List.map_cons] at ih ⊢
    have e : put s q (Fil.abs x :: l.map Fil.abs) = Fil.abs x :: put s q (l.map Fil.abs) := by
      conv => lhs; unfold put
      rw [if_neg (by simpa [Fil.abs] using hx)]
    rw [e, ih]

/-- The file with bytes behind its own. -/
def Fil.grow (f : Fil) (A : Option Addr) (c : Nat) (q : List UInt8) : Fil := { f with A := A, c := c, p := f.p ++ q }

/-- A call on the disk that leaves these files. -/
def Makes (d mb : Nat) (fs : List Fil) (w : World) (files : List File) (h' : Hd) (w' : World) : Prop := ∃ fs', Does d mb fs w fs' h' w' ∧ abs fs' = files

theorem infoU8 : (Tryd.prog.info? 5).map (fun i => (i.zero, i.size, i.bytes)) = some (some (.int .u8 0), 1, 1) := by kernel_rfl

set_option maxRecDepth 100000 in
theorem write_old (d mb : Nat) (l : List Fil) (f : Fil) (m : List Fil) (h : Hd) (s : List UInt8) (S : Option Addr) (n c : Nat) (q : List UInt8) (w : World) (hd : DiskAt w d mb (l ++ f :: m) h) (hs : f.name = s) (hl : ∀ x ∈ l ++ m, x.name ≠ s) (hs2 : s.length ≤ 100000)
    (ht : total (l ++ f :: m) ≤ 1000000000000) (hn : n ≤ 1000000000000) (hq : Sees w S n q) :
    Calls Tryd.prog 38 #[.pointer (some ⟨d, 0, none⟩), .string ⟨s.toArray⟩, .slice S n c] w fun e w' => e = .returned (.tuple #[]) ∧ Makes d mb (l ++ f :: m) w (put s q (abs (l ++ f :: m))) h w' := by
  obtain ⟨i, hi, hz, hsz, hby⟩ := info_parts infoU8
  have hfl := hd.files f (by simp)
  obtain ⟨n1, n2, n3, n4⟩ := own_ne hd.apart
  obtain ⟨c0, _, c2, _⟩ := hd.head.cells
  obtain ⟨g0, g1⟩ := hfl.cells
  have f2 := hd.head.frozen 2
  have q0 := hfl.frozen 0
  have hlk := hd.map.run_look hs2
  have hle : f.p.length ≤ total (l ++ f :: m) := by
    rw [total_append]
    simp only [total]
    omega
  have hlook : look s (l ++ f :: m) = some f := by
    have h1 : look s l = none := look_none.2 fun x hx => hl x (by simp [hx])
    rw [look_append, h1]
    simp [look, hs]
  rw [hlook, show at_ (some f) = some ⟨f.g, 0, none⟩ from rfl] at hlk
  have HD := Lib.hid hd
  have HL := Lib.hid hl
  have HS := Lib.hid hs
  have NE2 := Lib.hid n4
  have HF := Lib.hid hfl
  obtain ⟨tot, htt⟩ : ∃ tot, tot = total (l ++ f :: m) := ⟨_, rfl⟩
  rw [← htt] at c2 hle ht
  have HTT := Lib.hid htt
  have hw2 : IntKind.i64.wrap ((tot : Int) + (n : Int)) = (tot : Int) + (n : Int) := IntWalk.i64_in _ (by omega)
  clear hd hl hs n4 htt hfl hlook
  go_enter Tryd.func38, Tryd.ntmps38
  go_wp2_with (first | (at_builtin; refine wpList_data rfl _ _ 37 rfl 5 i (.int .u8 0) Tryd.underlying37 hi hz hsz hby rfl f.A f.p.length f.c f.p rfl HF.out.2 S n c q rfl hq ?c1 ?_))
  case c1 => omega
  intro A' c' w1 hD hB hwh
  have hdis : ∀ x, x ≠ d → True := fun _ _ => trivial
  have hdn : d ∉ (f.A.map (·.block)).toList := by
    intro hm
    simp only [Option.mem_toList, Option.map_eq_some_iff] at hm
    obtain ⟨a, ha, e⟩ := hm
    exact (NE2.out a ha).1 e
  have hgn : f.g ∉ (f.A.map (·.block)).toList := by
    intro hm
    simp only [Option.mem_toList, Option.map_eq_some_iff] at hm
    obtain ⟨a, ha, e⟩ := hm
    exact (NE2.out a ha).2.2 e
  have hh1 : HeadAt w1 d mb (total (l ++ f :: m)) h := (hB.block d HD.out.head.lt hdn).trans HD.out.head
  have hg1 : w1.heap[f.g]? = _ := (hB.block f.g (HF.out.lt _ (by simp [Fil.own])) hgn).trans HF.out.1
  obtain ⟨_, _, e2, _⟩ := hh1.cells
  rw [← HTT.out] at e2
  have x2 := hh1.frozen 2
  have x0 : w1.frozen? ⟨f.g, 0, none⟩ = false := frozen_row0 hg1
  have y0 : w1.cell? ⟨f.g, 0, none⟩ = some (.slice f.A f.p.length f.c) := by rw [cell_of_row w1 f.g _ _ _ _ hg1]; rfl
  have HH := Lib.hid hh1
  have HG := Lib.hid hg1
  have HDN := Lib.hid hD
  have HB := Lib.hid hB
  have HW := Lib.hid hwh
  clear hh1 hg1 hD hB hwh hdn hgn hdis
  go_wp2
  go_end0
  have hd := HD.out
  have hn4 := NE2.out
  have hB := HB.out
  have hwh := HW.out
  have hrow := HDN.out
  have hdg : f.g < w.heap.size := HF.out.lt _ (by simp [Fil.own])
  have hlenq : q.length = n := hq.1
  have hlen : (f.p ++ q).length = f.p.length + n := by rw [List.length_append, hlenq]
  have htot : total (l ++ f.grow A' c' q :: m) = tot + n := by
    rw [HTT.out, total_append, total_append]
    simp only [total, Fil.grow, hlen]
    omega
  have hA' : ∀ a', A' = some a' → a'.block ≠ d ∧ a'.block ≠ f.g := by
    intro a' ha'
    rcases hwh a' ha' with ⟨a, ha, e⟩ | h1
    · have := hn4 a ha
      rw [e]
      exact ⟨this.1, this.2.2⟩
    · have := hd.head.lt
      exact ⟨by omega, by omega⟩
  have hbes : Beside (d :: f.own) w ((w1.setCell ⟨f.g, 0, none⟩ (.slice A' (f.p.length + n) c')).setCell ⟨d, 2, none⟩ (.int .i64 ((tot : Int) + (n : Int)))) :=
    ((hB.wider (S1 := d :: f.own) (fun x hx => .inl (by simp only [Fil.own]; exact List.mem_cons_of_mem _ (List.mem_cons_of_mem _ hx)))).setCell (by simp [Fil.own]) _).setCell (by simp) _
  refine ⟨rfl, _, ⟨hd.turnFile (f' := f.grow A' c' q) hbes ?_ ⟨?_, ?_⟩ rfl rfl ?_ ?_ ?_, hbes.wider ?_, ?_⟩, put_there f (f.grow A' c' q) HS.out HS.out rfl rfl m l fun x hx => HL.out x (by simp [hx])⟩
  · rw [htot]
    unfold HeadAt
    have hh := HH.out
    unfold HeadAt at hh
    rw [heapSame ((heapOther (Ne.symm n1)).trans hh)]
    simp
  · refine (heapOther n1).trans ((heapSame HG.out).trans ?_)
    simp [Fil.grow, hlen]
  · show ByteRow _ _ A' (f.p ++ q).length c' (f.p ++ q)
    rw [hlen]
    refine hrow.kept fun a' ha' => ?_
    rw [heapOther (hA' a' ha').1, heapOther (hA' a' ha').2]
  · intro k hk
    simp only [Fil.own, Fil.grow, List.mem_cons, Option.mem_toList, Option.map_eq_some_iff] at hk
    rcases hk with rfl | ⟨a', ha', rfl⟩
    · exact .inl (by simp [Fil.own])
    · rcases hwh a' ha' with ⟨a, ha, e⟩ | h1
      · exact .inl (by simp [Fil.own, ha, e])
      · exact .inr h1
  · cases hA2 : A' with
    | none => simp [Fil.own, Fil.grow]
    | some a' => simp [Fil.own, Fil.grow]; exact Ne.symm (hA' a' hA2).2
  · have := hd.safe f (by simp)
    simp only [Fil.grow, hlen]
    omega
  · intro x hx
    rcases List.mem_cons.1 hx with rfl | hx
    · exact .inl (by simp [own])
    · exact .inl (mem_own_split.2 (.inl hx))
  · intro k hk
    rcases mem_own_split.1 hk with hk | hk
    · simp only [Fil.own, Fil.grow, List.mem_cons, Option.mem_toList, Option.map_eq_some_iff] at hk
      rcases hk with rfl | ⟨a', ha', rfl⟩
      · exact .inl (mem_own_split.2 (.inl (by simp [Fil.own])))
      · rcases hwh a' ha' with ⟨a, ha, e⟩ | h1
        · exact .inl (mem_own_split.2 (.inl (by simp [Fil.own, ha, e])))
        · exact .inr h1
    · exact .inl (mem_own_split.2 (.inr hk))

set_option maxRecDepth 100000 in
theorem write_new (d mb : Nat) (fs : List Fil) (h : Hd) (s : List UInt8) (S : Option Addr) (n c : Nat) (q : List UInt8) (w : World) (hd : DiskAt w d mb fs h) (hl : look s fs = none) (hs2 : s.length ≤ 100000)
    (ht : total fs ≤ 1000000000000) (hfs : fs.length < 1000000000000) (hn : n ≤ 1000000000000) (hq : Sees w S n q) :
    Calls Tryd.prog 38 #[.pointer (some ⟨d, 0, none⟩), .string ⟨s.toArray⟩, .slice S n c] w fun e w' => e = .returned (.tuple #[]) ∧ Makes d mb fs w (put s q (abs fs)) h w' := by
  obtain ⟨i, hi, hz, hsz, hby⟩ := info_parts infoU8
  obtain ⟨c0, _, c2, _⟩ := hd.head.cells
  have f2 := hd.head.frozen 2
  have hlk := hd.map.run_look hs2
  rw [hl, show at_ none = none from rfl] at hlk
  have hap := hd.apart
  unfold own at hap
  rw [List.nodup_cons] at hap
  have hdm : d ≠ mb := fun e => hap.1 (by simp [e])
  have hdlt := hd.head.lt
  have hmlt := hd.map.lt
  obtain ⟨w2, hst, hmap2, hturn⟩ := (hd.map.kept (w' := w.alloc (.cells #[.slice none 0 0, .int .i64 0] 63)) (Below.heap_alloc _ _ _ hmlt)).run_store (f := ⟨s, w.heap.size, none, 0, [], 0⟩) hl hs2 hfs
  have hg2 := hturn.grown
  have hh2 : HeadAt w2 d mb (total fs) h := (hg2.block d (by simp; omega) (by simpa using hdm)).trans ((Below.heap_alloc _ _ _ hdlt).trans hd.head)
  have hf2 : w2.heap[w.heap.size]? = some (.cells #[.slice none 0 0, .int .i64 0] 63 (0, 0)) := (hg2.block _ (by simp) (by simp; omega)).trans (heap_alloc_new w _)
  have hb2 : Beside [mb] w w2 := ((Beside.refl [mb] w).alloc _).grown hg2 (fun k hk => by cases hk; exact .inl (by simp))
  have hq2 : Sees w2 S n q := by
    refine ⟨hq.1, fun hn0 => ?_⟩
    obtain ⟨b, o, hA, hc⟩ := hq.2 hn0
    refine ⟨b, o, hA, fun j u hu => ?_⟩
    have hcj := hc j u hu
    have hne : b ≠ mb := by
      intro e
      obtain ⟨D, ⟨es, clock, hb, _⟩, _⟩ := hd.map
      rw [e] at hcj
      simp [World.cell?, hb] at hcj
    exact hb2.cell hcj (by simpa using hne)
  obtain ⟨a0, _, a2, _⟩ := hh2.cells
  have x2 := hh2.frozen 2
  have z0 : w2.cell? ⟨w.heap.size, 0, none⟩ = some (.slice none 0 0) := by rw [cell_of_row w2 _ _ _ _ _ hf2]; rfl
  have u0 : w2.frozen? ⟨w.heap.size, 0, none⟩ = false := frozen_row0 hf2
  have HD := Lib.hid hd
  have HL := Lib.hid hl
  have HM := Lib.hid hmap2
  have HH := Lib.hid hh2
  have HF := Lib.hid hf2
  have HB := Lib.hid hb2
  obtain ⟨tot, htt⟩ : ∃ tot, tot = total fs := ⟨_, rfl⟩
  rw [← htt] at c2 a2 ht
  have HTT := Lib.hid htt
  have hw2 : IntKind.i64.wrap ((tot : Int) + (n : Int)) = (tot : Int) + (n : Int) := IntWalk.i64_in _ (by omega)
  clear hd hl htt hturn hg2 hh2 hf2 hb2 hmap2 hq hap
  go_enter Tryd.func38, Tryd.ntmps38
  go_wp2_with (first | (at_builtin; refine wpList_data rfl _ _ 37 rfl 5 i (.int .u8 0) Tryd.underlying37 hi hz hsz hby rfl none 0 0 [] rfl (ByteRow.nil _ _) S n c q rfl hq2 ?c1 ?_))
  case c1 => omega
  intro A' c' w3 hD hB hwh
  have hsz2 := HB.out.size
  have hsz3 := hB.size
  have hlt2 : w.heap.size < w2.heap.size := (Array.getElem?_eq_some_iff.1 HF.out).1
  have hh3 : HeadAt w3 d mb (total fs) h := (hB.block d (by omega) (by simp)).trans HH.out
  have hf3 := (hB.block w.heap.size hlt2 (by simp)).trans HF.out
  obtain ⟨_, _, e2, _⟩ := hh3.cells
  rw [← HTT.out] at e2
  have y2 := hh3.frozen 2
  have y0 : w3.frozen? ⟨w.heap.size, 0, none⟩ = false := frozen_row0 hf3
  have y1 : w3.cell? ⟨w.heap.size, 0, none⟩ = some (.slice none 0 0) := by rw [cell_of_row w3 _ _ _ _ _ hf3]; rfl
  have H3 := Lib.hid hh3
  have F3 := Lib.hid hf3
  have R3 := Lib.hid hD
  have B3 := Lib.hid hB
  have W3 := Lib.hid hwh
  have hnd : w.heap.size ≠ d := by omega
  have hq2' := hq2
  clear hh3 hf3 hD hB hwh hq2
  go_wp2
  go_end0
  have hd := HD.out
  have hB := B3.out
  have hwh := W3.out
  have hrow := R3.out
  have hlenq : q.length = n := hq2'.1
  have hA' : ∀ a', A' = some a' → w2.heap.size ≤ a'.block := by
    intro a' ha'
    have h1 := hwh a' ha'
    simpa using h1
  have htot : total (fs ++ [⟨s, w.heap.size, A', c', q, 0⟩]) = tot + n := by
    rw [HTT.out, total_append]
    simp only [total, hlenq]
    omega
  have hbes : Beside [d, mb] w ((w3.setCell ⟨w.heap.size, 0, none⟩ (.slice A' n c')).setCell ⟨d, 2, none⟩ (.int .i64 ((tot : Int) + (n : Int)))) :=
    (((HB.out.wider (S1 := [d, mb]) (fun x hx => .inl (by simp at hx; simp [hx]))).trans hB (fun x hx => by cases hx)).setNew (by simp) _).setCell (by simp) _
  have hmb3 : ((w3.setCell ⟨w.heap.size, 0, none⟩ (.slice A' n c')).setCell ⟨d, 2, none⟩ (.int .i64 ((tot : Int) + (n : Int)))).heap[mb]? = w2.heap[mb]? := by
    rw [heapOther (Ne.symm hdm), heapOther (by omega)]
    exact hB.block mb HM.out.lt (by simp)
  refine ⟨rfl, _, ⟨hd.more (f := ⟨s, w.heap.size, A', c', q, 0⟩) hbes ?_ ((HM.out.kept hmb3).swap (l := fs) (m := []) rfl rfl) ⟨?_, ?_⟩ HL.out ?_ ?_ (Nat.zero_le _), hbes.wider ?_, ?_⟩, put_new ⟨s, w.heap.size, A', c', q, 0⟩ rfl rfl rfl fs (look_none.1 HL.out)⟩
  · rw [htot]
    unfold HeadAt
    have hh := H3.out
    unfold HeadAt at hh
    rw [heapSame ((heapOther (Ne.symm hnd)).trans hh)]
    simp
  · refine (heapOther hnd).trans ((heapSame F3.out).trans ?_)
    simp [hlenq]
  · show ByteRow _ _ A' q.length c' q
    rw [hlenq]
    have hrow' : ByteRow 5 w3 A' n c' q := by simpa using hrow
    refine hrow'.kept fun a' ha' => ?_
    have := hA' a' ha'
    rw [heapOther (by omega), heapOther (by omega)]
  · intro k hk
    simp only [Fil.own, List.mem_cons, Option.mem_toList, Option.map_eq_some_iff] at hk
    rcases hk with rfl | ⟨a', ha', rfl⟩
    · exact Nat.le_refl _
    · have := hA' a' ha'
      omega
  · cases hA2 : A' with
    | none => simp [Fil.own]
    | some a' => simp [Fil.own]; have := hA' a' hA2; omega
  · intro x hx
    simp at hx
    rcases hx with rfl | rfl <;> exact .inl (by simp [own])
  · intro k hk
    rcases mem_own_split.1 hk with hk | hk
    · simp only [Fil.own, List.mem_cons, Option.mem_toList, Option.map_eq_some_iff] at hk
      rcases hk with rfl | ⟨a', ha', rfl⟩
      · exact .inr (Nat.le_refl _)
      · have := hA' a' ha'
        exact .inr (by omega)
    · exact .inl (by simpa using hk)

theorem write_any (d mb : Nat) (fs : List Fil) (h : Hd) (s : List UInt8) (S : Option Addr) (n c : Nat) (q : List UInt8) (w : World) (hd : DiskAt w d mb fs h) (hs2 : s.length ≤ 100000)
    (ht : total fs ≤ 1000000000000) (hfs : fs.length < 1000000000000) (hn : n ≤ 1000000000000) (hq : Sees w S n q) :
    Calls Tryd.prog 38 #[.pointer (some ⟨d, 0, none⟩), .string ⟨s.toArray⟩, .slice S n c] w fun e w' => e = .returned (.tuple #[]) ∧ Makes d mb fs w (put s q (abs fs)) h w' := by
  cases hl : look s fs with
  | none => exact write_new d mb fs h s S n c q w hd hl hs2 ht hfs hn hq
  | some f =>
    obtain ⟨l, m, rfl, h1, h2⟩ := look_split hl hd.names
    exact write_old d mb l f m h s S n c q w hd h1 h2 hs2 ht hn hq
end Go.Proofs.YtokfajlmephdeaaDoor.Dsk
