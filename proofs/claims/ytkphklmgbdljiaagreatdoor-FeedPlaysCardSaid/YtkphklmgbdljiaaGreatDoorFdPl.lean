/- feed: how FeedPlays stands between its acts. -/
import Derived.Test.YtkphklmgbdljiaaGreatDoorFdTells
namespace Go.Proofs.YtkphklmgbdljiaaGreatDoor.Fd
open Go Go.RowKit Go.Proofs.YtkphklmgbdljiaaGreatDoor.Words Go.Proofs.YtkphklmgbdljiaaGreatDoor.Enc Go.Proofs.YtkphklmgbdljiaaGreatDoor.Evt Go.Proofs.YtkphklmgbdljiaaGreatDoor.Made Go.Proofs.YtkphklmgbdljiaaGreatDoor.Dsk Go.Proofs.YtkphklmgbdljiaaGreatDoor.Sht Go.Proofs.YtkphklmgbdljiaaGreatDoor.Seg
set_option linter.unusedVariables false
set_option linter.unusedSimpArgs false

/-- The events of the law: their numbers, their times. -/
structure PlL (L : List Ev) (floor tm k t0 i : Nat) : Prop where
  len : L.length = k
  flr : floor ≤ k
  ki : k ≤ i
  runs : Runs 3 1 L
  inc : L.Pairwise fun a b => a.time < b.time
  bnd : ∀ e ∈ L, 1 ≤ e.time ∧ e.time ≤ i
  tm0 : (floor = 0 ∧ tm = 0) ∨ (0 < floor ∧ ∃ e, L[floor - 1]? = some e ∧ e.time = tm)
  t0e : floor = k → t0 = tm
  t0l : floor < k → ∃ e, L[k - 1]? = some e ∧ e.time = t0
theorem PlL.start : PlL [] 0 0 0 0 0 := ⟨rfl, Nat.le_refl _, Nat.le_refl _, trivial, List.Pairwise.nil, (fun e he => by cases he), .inl ⟨rfl, rfl⟩, fun _ => rfl, (fun h => by omega)⟩
theorem PlL.t0_le {L : List Ev} {floor tm k t0 i : Nat} (h : PlL L floor tm k t0 i) : t0 ≤ i := by
  rcases Nat.lt_or_ge floor k with hf | hf
  · obtain ⟨e, h1, rfl⟩ := h.t0l hf
    exact (h.bnd e (List.mem_of_getElem? h1)).2
  · have h1 := h.t0e (by have := h.flr; omega)
    rcases h.tm0 with ⟨_, h2⟩ | ⟨_, e, h2, h3⟩
    · omega
    · have := (h.bnd e (List.mem_of_getElem? h2)).2
      omega
theorem PlL.later {L : List Ev} {floor tm k t0 i : Nat} (h : PlL L floor tm k t0 i) : PlL L floor tm k t0 (i + 1) :=
  ⟨h.len, h.flr, Nat.le_succ_of_le h.ki, h.runs, h.inc, fun e he => ⟨(h.bnd e he).1, Nat.le_succ_of_le (h.bnd e he).2⟩, h.tm0, h.t0e, h.t0l⟩
theorem PlL.add {L : List Ev} {floor tm k t0 i : Nat} (h : PlL L floor tm k t0 i) {ev : Ev} (C : Comes 3 (k + 1) ev) (ht : ev.time = i + 1) : PlL (L ++ [ev]) floor tm (k + 1) ev.time (i + 1) := by
  have hl := h.len
  have hf := h.flr
  refine ⟨by simp [hl], by omega, by have := h.ki; omega, runs_snoc h.runs ⟨C.wr, by rw [C.seq]; omega, C.right, ?_, C.plain, C.text⟩, ?_, ?_, ?_, fun h => by omega, fun _ => ⟨ev, by rw [List.getElem?_append_right (by omega)]; simp [hl], rfl⟩⟩
  · obtain ⟨_, _, _, _, _, h7, _⟩ := C.fit
    exact h7
  · rw [List.pairwise_append]
    exact ⟨h.inc, List.pairwise_singleton _ _, fun a ha b hb => by simp at hb; subst hb; have := (h.bnd a ha).2; omega⟩
  · intro e he
    rcases List.mem_append.1 he with he | he
    · exact ⟨(h.bnd e he).1, Nat.le_succ_of_le (h.bnd e he).2⟩
    · simp at he; subst he; omega
  · rcases h.tm0 with h1 | ⟨h1, e, h2, h3⟩
    · exact .inl h1
    · exact .inr ⟨h1, e, by rw [List.getElem?_append_left (by omega)]; exact h2, h3⟩
theorem PlL.time_lt {L : List Ev} {floor tm k t0 i : Nat} (h : PlL L floor tm k t0 i) {n : Nat} {e : Ev} (h1 : floor < n) (he : L[n - 1]? = some e) : tm < e.time := by
  have hb := (h.bnd e (List.mem_of_getElem? he)).1
  rcases h.tm0 with ⟨_, h2⟩ | ⟨h0, e', h2, h3⟩
  · omega
  · have h4 := h.inc
    rw [List.pairwise_iff_getElem] at h4
    obtain ⟨l1, g1⟩ := List.getElem?_eq_some_iff.1 h2
    obtain ⟨l2, g2⟩ := List.getElem?_eq_some_iff.1 he
    have := h4 (floor - 1) (n - 1) l1 l2 (by omega)
    rw [g1, g2, h3] at this
    exact this
theorem PlL.fold {L : List Ev} {floor tm k t0 i : Nat} (h : PlL L floor tm k t0 i) {n t : Nat} (h1 : floor ≤ n) (h2 : n ≤ k) (ht : (n = floor ∧ t = tm) ∨ (floor < n ∧ ∃ e, L[n - 1]? = some e ∧ e.time = t)) :
    max tm t = t ∧ PlL L n t k (if n = k then t else t0) i := by
  have hm : max tm t = t := by
    rcases ht with ⟨_, h3⟩ | ⟨h3, e, h4, h5⟩
    · omega
    · have := h.time_lt h3 h4
      omega
  refine ⟨hm, h.len, h2, h.ki, h.runs, h.inc, h.bnd, ?_, fun h3 => by rw [if_pos h3], fun h3 => ?_⟩
  · rcases ht with ⟨h3, h4⟩ | ⟨h3, h4⟩
    · rw [h3, h4]; exact h.tm0
    · exact .inr ⟨by omega, h4⟩
  · rw [if_neg (by omega)]
    exact h.t0l (by omega)
/-- The law's row of events. -/
def RowL (w0 w : World) (Al : Option Addr) (cl k : Nat) (L : List Ev) (O : List Nat) : Prop :=
  ∃ T : List EvS, T.map EvS.e = L ∧ w.ownsRow w0.heap.size 37 8 (.slice Al k cl) k (rowsL T) ∧ (∀ t ∈ T, TextOk (O ++ blk Al) w t) ∧ ∀ g ∈ blk Al, g ∉ O
theorem RowL.next {w0 w w' : World} {Al : Option Addr} {cl k : Nat} {L : List Ev} {O O' : List Nat} (r : RowL w0 w Al cl k L O) (hb : Beside O w w') (hO : ∀ b ∈ O', b ∈ O ∨ w.heap.size ≤ b) : RowL w0 w' Al cl k L O' := by
  obtain ⟨T, h1, h2, h3, h4⟩ := r
  have hlt := own_blk h2
  refine ⟨T, h1, own_kept h2 fun g hg => hb.block g (hlt g hg).2 (h4 g hg), fun t ht => (h3 t ht).next (hb.wider fun k hk => .inl (List.mem_append.2 (.inl hk))) (fun k hk => ?_), fun g hg hm => ?_⟩
  · rcases List.mem_append.1 hk with h | h
    · exact (hO k h).imp (fun h => List.mem_append.2 (.inl h)) id
    · exact .inl (List.mem_append.2 (.inr h))
  · rcases hO g hm with h | h
    · exact h4 g hg h
    · have := (hlt g hg).2
      omega
theorem RowL.below {w0 w w' : World} {Al : Option Addr} {cl k : Nat} {L : List Ev} {O : List Nat} (r : RowL w0 w Al cl k L O) (hb : Below w.heap.size w w') : RowL w0 w' Al cl k L O := r.next (Beside.of_below hb O) fun b hb => .inl hb
theorem RowL.sees {w0 w : World} {Al : Option Addr} {cl k : Nat} {L : List Ev} {O : List Nat} (r : RowL w0 w Al cl k L O) : SeesEv [] w Al k L := by
  obtain ⟨T, h1, h2, h3, h4⟩ := r
  rw [← h1]
  exact SeesEv.of_own h2 (fun k hk => by cases hk) (fun t ht => (h3 t ht).next (B' := []) (Beside.refl _ _) fun k hk => by cases hk)
/-- The instance: the row's block. -/
abbrev xl (Al : Option Addr) : Inhabited XS := ⟨⟨blk Al⟩⟩
/-- How FeedPlays stands. -/
def PlS (w0 w : World) (d f : Nat) (sz : Int) (floor tm k i A : Nat) (Al : Option Addr) (cl : Nat) (L : List Ev) (full : Prop) : Prop :=
  ∃ t0 u0 P safe acts O, @StF (xl Al) w0 w d f sz floor tm k t0 A u0 P safe acts O ∧ evsP P = L.drop (u0 - 1) ∧ PlL L floor tm k t0 i ∧ RowL w0 w Al cl k L O ∧ (full → ∀ p ∈ P, p.N = p.z 3)
variable {w0 w : World} {d f : Nat} {sz : Int} {floor tm k i A : Nat} {Al : Option Addr} {cl : Nat} {L : List Ev} {full : Prop}
theorem PlS.below {w' : World} (s : PlS w0 w d f sz floor tm k i A Al cl L full) (hb : Below w.heap.size w w') : PlS w0 w' d f sz floor tm k i A Al cl L full := by
  obtain ⟨t0, u0, P, safe, acts, O, h1, h2, h3, h4, h5⟩ := s
  letI := xl Al
  exact ⟨t0, u0, P, safe, acts, O, h1.below hb, h2, h3, h4.below hb, h5⟩
theorem PlS.of {O : List Nat} {t0 : Nat} {w' : World} (g : @Goes9 (xl Al) w0 w O d sz floor tm k t0 A L f w') (l : PlL L floor tm k t0 i) (r : RowL w0 w Al cl k L O) : PlS w0 w' d f sz floor tm k i A Al cl L False := by
  obtain ⟨u0, P, safe, acts, O', h1, h2, h3, h4⟩ := g
  exact ⟨t0, u0, P, safe, acts, O', h1, h2, l, r.next h3 h4, fun h => h.elim⟩
theorem PlS.sync (s : PlS w0 w d f sz floor tm k i A Al cl L full) (hi : i ≤ 50) (hA : A ≤ 20000) :
    Calls Tryz.prog 11 #[.pointer (some ⟨f, 0, none⟩)] w fun e w' => e = .returned (.int .i64 0) ∧ PlS w0 w' d f sz floor tm k i (A + 100) Al cl L True := by
  obtain ⟨t0, u0, P, safe, acts, O, h1, h2, h3, h4, h5⟩ := s
  letI := xl Al
  refine (h1.sync9 (by have := h3.ki; omega) hA).mono ?_
  rintro e w' ⟨rfl, P', safe', acts', O', g1, g2, g3, g4, g5⟩
  exact ⟨rfl, t0, u0, P', safe', acts', O', g1, g2.trans h2, h3, h4.next g4 g5, fun _ => g3⟩
theorem PlS.fold (s : PlS w0 w d f sz floor tm k i A Al cl L True) (hi : i ≤ 50) (hA : A ≤ 20000) (n t : Nat) (ht : t < 18446744073709551616) (h1 : floor ≤ n) (h2 : n ≤ k) (hn : (n = floor ∧ t = tm) ∨ (floor < n ∧ ∃ e, L[n - 1]? = some e ∧ e.time = t)) :
    Calls Tryz.prog 12 #[.pointer (some ⟨f, 0, none⟩), .int .u64 (n : Int), .int .u64 (t : Int)] w fun e w' => e = .returned (.int .i64 0) ∧ PlS w0 w' d f sz n t k i (A + 100) Al cl L False := by
  obtain ⟨t0, u0, P, safe, acts, O, g1, g2, g3, g4, g5⟩ := s
  letI := xl Al
  obtain ⟨hm, hl⟩ := g3.fold h1 h2 hn
  refine (g1.fold9 (by have := g3.ki; omega) hA L g2 n t ht h1 h2 (g5 trivial)).mono ?_
  rintro e w' ⟨rfl, g⟩
  rw [hm] at g
  exact ⟨rfl, PlS.of g hl g4⟩
theorem PlS.open9 (s : PlS w0 w d f sz floor tm k i A Al cl L full) (hi : i ≤ 50) (hA : A ≤ 20000) :
    Calls Tryz.prog 8 #[.pointer (some ⟨d, 0, none⟩), .int .i64 3, .int .i64 sz, .int .u64 (floor : Int), .int .u64 (tm : Int)] w fun e w' => ∃ f', e = .returned (.tuple #[.pointer (some ⟨f', 0, none⟩), .int .i64 0]) ∧ PlS w0 w' d f' sz floor tm k i (A + 100) Al cl L False := by
  obtain ⟨t0, u0, P, safe, acts, O, g1, g2, g3, g4, g5⟩ := s
  letI := xl Al
  refine (g1.open9 (by have := g3.ki; omega) hA L g2).mono ?_
  rintro e w' ⟨f', rfl, g⟩
  exact ⟨f', rfl, PlS.of g g3 g4⟩
theorem PlS.later (s : PlS w0 w d f sz floor tm k i A Al cl L full) {A' : Nat} (hA : A ≤ A') : PlS w0 w d f sz floor tm k (i + 1) A' Al cl L False := by
  obtain ⟨t0, u0, P, safe, acts, O, g1, g2, g3, g4, g5⟩ := s
  letI := xl Al
  exact ⟨t0, u0, P, safe, acts, O, ⟨g1.feed, g1.tabs, g1.fine, g1.next, g1.last, Nat.le_trans g1.acts hA, g1.own, g1.base⟩, g2, g3.later, g4, fun h => h.elim⟩
/-- What the law asks of it: told, and how many files there are. -/
theorem PlS.told (s : PlS w0 w d f sz floor tm k i A Al cl L full) (hi : i ≤ 51) :
    Calls Tryz.prog 13 #[.pointer (some ⟨f, 0, none⟩), .slice Al k cl, .int .i64 (floor : Int), .int .u64 (tm : Int)] w fun e w' => e = .returned (.bool true) ∧ Below w.heap.size w w' := by
  obtain ⟨t0, u0, P, safe, acts, O, g1, g2, g3, g4, g5⟩ := s
  letI := xl Al
  have hkc := (own_cap8 g4.choose_spec.2.1).1
  exact told_any f floor k t0 tm L Al cl w (g1.tells9 (by have := g3.ki; omega) L g2 g3.len) g3.flr (by have := g3.ki; omega) g4.sees hkc (runs_mem g3.runs) (fun h => (g3.t0e h.symm).symm) g3.t0l
theorem PlS.counts (s : PlS w0 w d f sz floor tm k i A Al cl L full) (bg : ByteArray) (hbg : bg.data.toList = beginL ((3 : Nat) : Int)) :
    ∃ n : Nat, (∀ W, Below w.heap.size w W → Calls Tryz.prog 14 #[.pointer (some ⟨d, 0, none⟩), .string bg] W fun e w' => (∃ A' c', e = .returned (.slice A' n c')) ∧ Below W.heap.size W w') ∧ ∀ W, Below w.heap.size w W → Calls Tryz.prog 15 #[.pointer (some ⟨f, 0, none⟩)] W fun e w' => e = .returned (.int .i64 (n : Int)) ∧ W = w' := by
  obtain ⟨t0, u0, P, safe, acts, O, g1, g2, g3, g4, g5⟩ := s
  letI := xl Al
  have hpl := chain_len g1.fine.good.chain
  have hfew := g1.fine.good.few
  refine ⟨P.length, fun W hW => ?_, fun W hW => segments_any d f 3 sz floor tm P safe O (hdA acts) W (g1.feed.below hW)⟩
  obtain ⟨R, Ar, c, S, hRP, hO, FA⟩ := g1.feed.below hW
  have hd := FA.disk
  rw [files_map, hRP] at hd
  refine (names_parts d S 3 P (hdA acts) bg W hd rfl g1.fine.rise (by omega) hbg).mono ?_
  rintro e w' ⟨A', c', rfl, _, hb⟩
  exact ⟨⟨A', c', rfl⟩, hb⟩
/-- The law's feed at its start. -/
theorem StF.start9 [Inhabited XS] (w0 w : World) (d f : Nat) (sz : Int) (S : List Nat) (T : TabsOn (S ++ [f]) w) (hd : Disk w d S [] (hdA 0)) (g : w.heap[f]? = some (.cells (cells d ((3 : Nat) : Int) sz 0 0 (.slice none 0 0) 0) 60 (0, 0))) (hf : f ∉ S) (hS : ∀ b ∈ S ++ [f], w0.heap.size ≤ b) (hb : Below w0.heap.size w0 w) (hxl : ∀ k ∈ xsX, k < w.heap.size) :
    StF w0 w d f sz 0 0 0 0 0 1 [] 0 0 (S ++ [f]) :=
  ⟨⟨[], none, 0, S, rfl, rfl, ⟨hd, g, ⟨by decide, .inl ⟨rfl, rfl⟩⟩, (fun r hr => by simp at hr), hf, (fun g hg => by simp [blk] at hg), hxl⟩⟩, T, ⟨⟨trivial, by omega, by simp [evsP], by omega, by simp [evsP]⟩, by simp, fun p hp => by simp at hp⟩, by simp [evsP], .inl ⟨by simp [evsP], rfl⟩, by omega, hS, hb⟩

theorem evE_comes9 {A seq time : Nat} (h1 : 1 ≤ seq) (h2 : seq < 9223372036854775808) (h3 : 1 ≤ time) (h4 : time < 9223372036854775808) : Comes 3 seq (evE A seq time) :=
  ⟨rfl, rfl, evE_right h1 h2 h3 h4, evE_fit h2 h4, evE_plain, by have := evE_text (A := A) (seq := seq) (time := time); omega, by rw [evE_key]; omega⟩

/-- Block of a slice. -/
theorem own_of_blk {A : Option Addr} {n c g : Nat} : (Value.slice A n c).ownBlock = some g ↔ g ∈ blk A := by
  cases A with
  | none => simp [Value.ownBlock, blk]
  | some a => simp [Value.ownBlock, blk, eq_comm]
theorem feed_raw (I : Inhabited XS) {w : World} {d f x : Nat} {sz : Int} {floor time : Nat} {P : List Part} {safe : Nat} {O : List Nat} {h : Hd} (F : Feed w d f x sz floor time P safe O h) :
    ∃ R A c S, R.map SegS.p = P ∧ O = S ++ f :: blk A ∧ Disk w d S (R.map fun r => r.p.file x) h ∧ w.heap[f]? = some (.cells (cells d (x : Int) sz floor time (.slice A R.length c) (safe : Int)) 60 (0, 0)) ∧ w.ownsRow 0 65 4 (.slice A R.length c) R.length (rowsS x R) ∧ (∀ r ∈ R, SeesEv (S ++ ((f :: blk A) ++ I.default.X)) w r.A r.p.L.length r.p.L) ∧ f ∉ S ∧ (∀ g ∈ blk A, g ∉ S ∧ g ≠ f) ∧ ∀ k ∈ S ++ f :: blk A, k < w.heap.size := by
  obtain ⟨R, A, c, S, h1, h2, F⟩ := F
  exact ⟨R, A, c, S, h1, h2, F.disk, F.box, F.row, F.evs, F.fS, F.aS, F.lt⟩
theorem feed_make (I : Inhabited XS) {w : World} {d f x : Nat} {sz : Int} {floor time : Nat} {P : List Part} {safe : Nat} {O : List Nat} {h : Hd} {R : List SegS} {A : Option Addr} {c : Nat} {S : List Nat}
    (h1 : R.map SegS.p = P) (h2 : O = S ++ f :: blk A) (h3 : Disk w d S (R.map fun r => r.p.file x) h) (h4 : w.heap[f]? = some (.cells (cells d (x : Int) sz floor time (.slice A R.length c) (safe : Int)) 60 (0, 0))) (h5 : w.ownsRow 0 65 4 (.slice A R.length c) R.length (rowsS x R)) (h6 : ∀ r ∈ R, SeesEv (S ++ ((f :: blk A) ++ I.default.X)) w r.A r.p.L.length r.p.L) (h7 : f ∉ S) (h8 : ∀ g ∈ blk A, g ∉ S ∧ g ≠ f) (h9 : ∀ k ∈ I.default.X, k < w.heap.size) :
    Feed w d f x sz floor time P safe O h := ⟨R, A, c, S, h1, h2, ⟨h3, h4, h5, h6, h7, h8, h9⟩⟩
theorem feed_regrow (Y Y' : List Nat) {w w' : World} {d f x : Nat} {sz : Int} {floor time : Nat} {P : List Part} {safe : Nat} {O : List Nat} {h : Hd} (F : @Feed ⟨⟨Y⟩⟩ w d f x sz floor time P safe O h) (hb : Beside Y w w') (hO : ∀ k ∈ Y, k ∉ O) (hX : ∀ k ∈ Y', (k ∈ Y ∨ w.heap.size ≤ k) ∧ k < w'.heap.size) :
    @Feed ⟨⟨Y'⟩⟩ w' d f x sz floor time P safe O h := by
  obtain ⟨R, A, c, S, hRP, hOO, h3, h4, h5, h6, h7, h8, hlt⟩ := feed_raw ⟨⟨Y⟩⟩ F
  have hin : ∀ k ∈ S ++ f :: blk A, k ∉ Y := fun k hk hm => hO k hm (by rw [hOO]; exact hk)
  refine feed_make ⟨⟨Y'⟩⟩ hRP hOO (h3.beside hb fun k hk hm => hin k (List.mem_append.2 (.inl hm)) hk) ((hb.block f (hlt f (by simp)) (hin f (by simp))).trans h4) (own_kept h5 fun g hg => hb.block g (hlt g (by simp [hg])) (hin g (by simp [hg]))) (fun r hr => ?_) h7 h8 (fun k hk => (hX k hk).2)
  refine (h6 r hr).next (hb.wider fun k hk => .inl (List.mem_append.2 (.inr (List.mem_append.2 (.inr hk))))) fun k hk => ?_
  rcases List.mem_append.1 hk with h | h
  · exact .inl (List.mem_append.2 (.inl h))
  · rcases List.mem_append.1 h with h | h
    · exact .inl (List.mem_append.2 (.inr (List.mem_append.2 (.inl h))))
    · exact (hX k h).1.imp (fun h => List.mem_append.2 (.inr (List.mem_append.2 (.inr h)))) id
theorem stf_raw (I : Inhabited XS) {w0 w : World} {d f : Nat} {sz : Int} {floor tm k t0 A u0 : Nat} {P : List Part} {safe acts : Nat} {O : List Nat} (s : StF w0 w d f sz floor tm k t0 A u0 P safe acts O) :
    Feed w d f 3 sz floor tm P safe O (hdA acts) ∧ Fine 3 floor u0 P safe ∧ u0 + (evsP P).length = k + 1 ∧ LastIs floor tm u0 P t0 ∧ acts ≤ A ∧ (∀ b ∈ O, w0.heap.size ≤ b) ∧ Below w0.heap.size w0 w ∧ ∀ b ∈ O, b < w.heap.size := ⟨s.feed, s.fine, s.next, s.last, s.acts, s.own, s.base, s.feed.lt⟩
theorem stf_make (I : Inhabited XS) {w0 w : World} {d f : Nat} {sz : Int} {floor tm k t0 A u0 : Nat} {P : List Part} {safe acts : Nat} {O : List Nat} (TC : Chk.Tabs w0) (ST : STabs w0)
    (h1 : Feed w d f 3 sz floor tm P safe O (hdA acts)) (h2 : Fine 3 floor u0 P safe) (h3 : u0 + (evsP P).length = k + 1) (h4 : LastIs floor tm u0 P t0) (h5 : acts ≤ A) (h6 : ∀ b ∈ O, w0.heap.size ≤ b) (h7 : Below w0.heap.size w0 w) : StF w0 w d f sz floor tm k t0 A u0 P safe acts O :=
  ⟨h1, TabsOn.of TC ST h7 h6, h2, h3, h4, h5, h6, h7⟩
theorem PlS.base (s : PlS w0 w d f sz floor tm k i A Al cl L full) : Below w0.heap.size w0 w := by
  obtain ⟨t0, u0, P, safe, acts, O, g1, g2, g3, g4, g5⟩ := s
  exact (stf_raw (xl Al) g1).2.2.2.2.2.2.1
/-- An event has been added, and stands behind the law's row. -/
theorem PlS.append {ev : Ev} {Be : Option Addr} {me ke t0 : Nat} {O : List Nat} {T : List EvS} {w4 w5 w5' w6 : World} {Al' : Option Addr} {cl' k : Nat} {L : List Ev} (TC : Chk.Tabs w0) (ST : STabs w0)
    (g : @Goes9 (xl Al) w0 w4 O d sz floor tm (k + 1) t0 A (L ++ [ev]) f w5) (l : PlL (L ++ [ev]) floor tm (k + 1) t0 i)
    (hT : T.map EvS.e = L) (hown4 : w4.ownsRow w0.heap.size 37 8 (.slice Al k cl) k (rowsL T)) (htx : ∀ t ∈ T ++ [⟨ev, Be, me, ke⟩], TextOk (O ++ blk Al) w4 t) (hdis : ∀ g ∈ blk Al, g ∉ O)
    (hb : Below w5.heap.size w5 w5') (hgrow : w5'.grownBy w6 (Value.slice Al k cl).ownBlock) (hown6 : w6.ownsRow w0.heap.size 37 8 (.slice Al' (k + 1) cl') (k + 1) (rowsL (T ++ [⟨ev, Be, me, ke⟩])))
    (hat : (Value.slice Al' (k + 1) cl').ownBlock = (Value.slice Al k cl).ownBlock ∨ (Value.slice Al' (k + 1) cl').ownBlock = some w5'.heap.size) :
    PlS w0 w6 d f sz floor tm (k + 1) i A Al' cl' (L ++ [ev]) False := by
  obtain ⟨u0, P, safe, acts, O', s0, h2, hb45, hO'⟩ := g
  obtain ⟨q1, q2, q3, q4, q5, q6, q7, hOlt⟩ := stf_raw (xl Al) s0
  have hl4 := own_blk hown4
  have hl6 := own_blk hown6
  have hbX : Beside (blk Al) w5 w6 := (Beside.of_below hb (blk Al)).grown hgrow (fun k hk => .inl (own_of_blk.1 hk))
  have h45 := hb45.size
  have hdis' : ∀ g ∈ blk Al, g ∉ O' := fun g hg hm => (hO' g hm).elim (hdis g hg) (fun h => by have := (hl4 g hg).2; omega)
  have hnew : ∀ g ∈ blk Al', g ∈ blk Al ∨ w5.heap.size ≤ g := fun g hg => by
    have h := own_of_blk (n := k + 1) (c := cl').2 hg
    rcases hat with h1 | h1
    · rw [h1] at h
      exact .inl (own_of_blk.1 h)
    · rw [h1] at h
      injection h with h
      exact .inr (by have := hb.size; omega)
  have hbase : Below w0.heap.size w0 w6 := Below.beside q7 hbX q7.size (fun g hg => (hl4 g hg).1)
  have hB5 : Beside (O ++ blk Al) w4 w6 := ((hb45.wider fun k hk => .inl (List.mem_append.2 (.inl hk)))).trans hbX fun k hk => .inl (List.mem_append.2 (.inr hk))
  have hF := feed_regrow (blk Al) (blk Al') q1 hbX hdis' fun k hk => ⟨hnew k hk, (hl6 k hk).2⟩
  refine ⟨t0, u0, P, safe, acts, O', stf_make (xl Al') TC ST hF q2 q3 q4 q5 q6 hbase, h2, l, ⟨T ++ [⟨ev, Be, me, ke⟩], by rw [List.map_append, hT]; rfl, hown6, fun t ht => ?_, fun g hg hm => ?_⟩, fun h => h.elim⟩
  · refine (htx t ht).next hB5 fun k hk => ?_
    rcases List.mem_append.1 hk with h | h
    · exact (hO' k h).imp (fun h => List.mem_append.2 (.inl h)) id
    · rcases hnew k h with h | h
      · exact .inl (List.mem_append.2 (.inr h))
      · exact .inr (by omega)
  · rcases hnew g hg with h | h
    · exact hdis' g h hm
    · have := hOlt g hm
      omega
theorem PlS.pl (s : PlS w0 w d f sz floor tm k i A Al cl L full) : k ≤ i ∧ floor ≤ k ∧ tm ≤ i := by
  obtain ⟨t0, u0, P, safe, acts, O, g1, g2, g3, g4, g5⟩ := s
  refine ⟨g3.ki, g3.flr, ?_⟩
  rcases g3.tm0 with ⟨_, h⟩ | ⟨_, e, h1, h2⟩
  · omega
  · have := (g3.bnd e (List.mem_of_getElem? h1)).2
    omega
theorem PlS.cap (s : PlS w0 w d f sz floor tm k i A Al cl L full) : k ≤ cl ∧ cl ≤ 9223372036854775807 ∧ L.length = k := by
  obtain ⟨t0, u0, P, safe, acts, O, g1, g2, g3, g4, g5⟩ := s
  have := own_cap8 g4.choose_spec.2.1
  exact ⟨this.1, this.2, g3.len⟩
theorem PlS.sees (s : PlS w0 w d f sz floor tm k i A Al cl L full) : SeesEv [] w Al k L := by
  obtain ⟨t0, u0, P, safe, acts, O, g1, g2, g3, g4, g5⟩ := s
  exact g4.sees
/-- The adding of an event, from world w4 on: what is there behind it. -/
structure Added (w0 w4 : World) (d f : Nat) (sz : Int) (floor tm k i A : Nat) (Al : Option Addr) (cl : Nat) (L : List Ev) (ev : Ev) (Be : Option Addr) (me ke : Nat) (b13 : Nat) (T : List EvS) (w5 : World) : Prop where
  map : T.map EvS.e = L
  own : w5.ownsRow w0.heap.size 37 8 (.slice Al k cl) k (rowsL T)
  box : w5.heap[b13]? = some (.cells (ev.row Be me ke) 37 (0, 0))
  size : w0.heap.size ≤ w5.heap.size
  goes : ∀ (w5' w6 : World) (Al' : Option Addr) (cl' : Nat), Below w5.heap.size w5 w5' → w5'.grownBy w6 (Value.slice Al k cl).ownBlock → w6.ownsRow w0.heap.size 37 8 (.slice Al' (k + 1) cl') (k + 1) (rowsL (T ++ [⟨ev, Be, me, ke⟩])) →
    ((Value.slice Al' (k + 1) cl').ownBlock = (Value.slice Al k cl).ownBlock ∨ (Value.slice Al' (k + 1) cl').ownBlock = some w5'.heap.size) → PlS w0 w6 d f sz floor tm (k + 1) (i + 1) A Al' cl' (L ++ [ev]) False
theorem PlS.adds (HB : ∀ I : Inhabited XS, @BeginSaid I) (TC : Chk.Tabs w0) (ST : STabs w0) {wr w4 : World} (s : PlS w0 wr d f sz floor tm k i A Al cl L full) (hi : i ≤ 50) (hA : A ≤ 20000) {a : Nat} {ev : Ev} (hev : ev = evE a (k + 1) (i + 1)) {Be : Option Addr} {me ke b13 : Nat} (hb : Below wr.heap.size wr w4) (hs : Sees w4 Be me ev.text) (hme : me ≤ ke) (hke : ke ≤ 9223372036854775807) (hfr : Fresh wr.heap.size Be me)
    (hbox : w4.heap[b13]? = some (.cells (ev.row Be me ke) 37 (0, 0))) (h13 : wr.heap.size ≤ b13) :
    Calls Tryz.prog 10 #[.pointer (some ⟨f, 0, none⟩), ev.val Be me ke] w4 fun e w5 => e = .returned (.int .i64 0) ∧ ∃ T, Added w0 w4 d f sz floor tm k i (A + 100) Al cl L ev Be me ke b13 T w5 := by
  obtain ⟨t0, u0, P, safe, acts, O, g1, g2, g3, g4, g5⟩ := s
  have hki := g3.ki
  obtain ⟨_, _, _, _, _, _, _, hOlt⟩ := stf_raw (xl Al) g1
  letI := xl Al
  have hC : Comes 3 (k + 1) ev := by rw [hev]; exact evE_comes9 (by omega) (by omega) (by omega) (by omega)
  have htm : ev.time = i + 1 := by rw [hev]; rfl
  have hkd : ev.kind ≤ 5 := by rw [hev]; show 1 + a % 4 ≤ 5; omega
  have ht0 := g3.t0_le
  have r4 := g4.below hb
  obtain ⟨T, hT, hown, htx, hdis⟩ := r4
  have hl4 := own_blk g4.choose_spec.2.1
  have hsz := hb.size
  have hnewtx : TextOk (O ++ blk Al) w4 ⟨ev, Be, me, ke⟩ := ⟨hs, hme, hke, hfr.out fun x hx => by
    rcases List.mem_append.1 hx with h | h
    · exact hOlt x h
    · exact (hl4 x h).2⟩
  refine ((g1.below hb).add9 (HB _) (by omega) hA L g2 g3.len ev Be me ke hC hkd hs (hfr.out hOlt) (by omega)).mono ?_
  rintro e w5 ⟨rfl, g⟩
  obtain ⟨u1, P1, safe1, acts1, O1, k1, k2, k3, k4⟩ := id g
  have hrow5 := own_kept hown fun g hg => k3.block g (by have := (hl4 g hg).2; omega) (hdis g hg)
  have h0w := k1.base.size
  refine ⟨rfl, T, hT, hrow5, (k3.block b13 (Array.getElem?_eq_some_iff.1 hbox).1 (fun hm => by have := hOlt b13 hm; omega)).trans hbox, h0w, fun w5' w6 Al' cl' h1 h2 h3 h4 => ?_⟩
  refine PlS.append TC ST g ?_ hT hown (fun t ht => ?_) hdis h1 h2 h3 h4
  · exact g3.add hC htm
  · rcases List.mem_append.1 ht with h | h
    · exact htx t h
    · simp at h; subst h; exact hnewtx
theorem PlS.more (s : PlS w0 w d f sz floor tm k i A Al cl L full) {A' : Nat} (hA : A ≤ A') : PlS w0 w d f sz floor tm k i A' Al cl L False := by
  obtain ⟨t0, u0, P, safe, acts, O, g1, g2, g3, g4, g5⟩ := s
  letI := xl Al
  exact ⟨t0, u0, P, safe, acts, O, ⟨g1.feed, g1.tabs, g1.fine, g1.next, g1.last, Nat.le_trans g1.acts hA, g1.own, g1.base⟩, g2, g3, g4, fun h => h.elim⟩
theorem PlS.times (s : PlS w0 w d f sz floor tm k i A Al cl L full) : ∀ e ∈ L, e.time ≤ i := by
  obtain ⟨t0, u0, P, safe, acts, O, g1, g2, g3, g4, g5⟩ := s
  exact fun e he => (g3.bnd e he).2
theorem beg3 : (⟨#[102, 101, 101, 100, 45, 51, 45]⟩ : ByteArray).data.toList = beginL ((3 : Nat) : Int) := by
  unfold Seg.beginL
  rw [itoa_dig3 (by omega)]
  rfl
theorem wi (z : Int) (n : Nat) (h : z = (n : Int)) (hn : n < 9223372036854775808) : IntKind.i64.wrap z = (n : Int) := by
  subst h
  rw [IntKind.wrap_i64]
  omega
theorem wu (z : Int) (n : Nat) (h : z = (n : Int)) (hn : n < 18446744073709551616) : IntKind.u64.wrap z = (n : Int) := by
  subst h
  rw [IntKind.wrap_u64]
  omega
end Go.Proofs.YtkphklmgbdljiaaGreatDoor.Fd
