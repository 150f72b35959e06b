/- feed: opened over its files. -/
import Derived.Test.YtkphklmgbdljiaaGreatDoorFdTake
namespace Go.Proofs.YtkphklmgbdljiaaGreatDoor.Fd
open Go Go.RowKit Go.Proofs.YtkphklmgbdljiaaGreatDoor.Words Go.Proofs.YtkphklmgbdljiaaGreatDoor.Enc Go.Proofs.YtkphklmgbdljiaaGreatDoor.Evt Go.Proofs.YtkphklmgbdljiaaGreatDoor.Made Go.Proofs.YtkphklmgbdljiaaGreatDoor.Dsk Go.Proofs.YtkphklmgbdljiaaGreatDoor.Sht Go.Proofs.YtkphklmgbdljiaaGreatDoor.Seg
set_option linter.unusedVariables false
set_option linter.unusedSimpArgs false

/-- How many parts at the beginning have no event after the floor. -/
def goneA (floor : Nat) : List Part → Nat
  | [] => 0
  | p :: r => if p.u + p.L.length - 1 ≤ floor then goneA floor r + 1 else 0
theorem goneA_le (floor : Nat) : ∀ P : List Part, goneA floor P ≤ P.length
  | [] => Nat.le_refl _
  | p :: r => by
    have := goneA_le floor r
    simp only [goneA, List.length_cons]
    split <;> omega
theorem goneA_in (floor : Nat) : ∀ (P : List Part) (j : Nat) (p : Part), j < goneA floor P → P[j]? = some p → p.u + p.L.length - 1 ≤ floor
  | [], j, p, h, hp => by simp at hp
  | q :: r, 0, p, h, hp => by
    simp at hp
    subst hp
    simp only [goneA] at h
    split at h
    · assumption
    · omega
  | q :: r, j + 1, p, h, hp => by
    simp only [goneA] at h
    split at h
    · exact goneA_in floor r j p (by omega) (by simpa using hp)
    · omega
theorem goneA_out {x : Nat} (floor : Nat) : ∀ (P : List Part) (u : Nat) (j : Nat) (p : Part), Chain x u P → goneA floor P ≤ j → P[j]? = some p → floor < p.u + p.L.length - 1
  | [], u, j, p, hc, h, hp => by simp at hp
  | q :: r, u, 0, p, hc, h, hp => by
    simp at hp
    subst hp
    simp only [goneA] at h
    split at h
    · omega
    · omega
  | q :: r, u, j + 1, p, hc, h, hp => by
    have hp' : r[j]? = some p := by simpa using hp
    simp only [goneA] at h
    split at h
    · exact goneA_out floor r _ j p hc.2 (by omega) hp'
    · have h1 := chain_at hc.2 hp'
      have h2 := hc.1.1
      have h3 := List.length_pos_iff.2 (chain_ne hc.2 p (List.mem_of_getElem? hp'))
      omega
theorem evsP_take_split (P : List Part) {g j : Nat} (h : g ≤ j) : evsP (P.take j) = evsP (P.take g) ++ evsP ((P.drop g).take (j - g)) := by
  rw [← evsP_append]
  congr 1
  rw [show P.take j = P.take (g + (j - g)) by rw [show g + (j - g) = j by omega], List.take_add]
theorem chain_cut {x u : Nat} {P : List Part} (h : Chain x u P) (g : Nat) : Chain x (u + (evsP (P.take g)).length) (P.drop g) := by
  have := h
  rw [← List.take_append_drop g P] at this
  exact (chain_append.1 this).2
theorem chain_head {x u : Nat} {P : List Part} (h : Chain x u P) (g : Nat) : Chain x u (P.take g) := by
  have := h
  rw [← List.take_append_drop g P] at this
  exact (chain_append.1 this).1
theorem chain_part {x : Nat} : ∀ {P : List Part} {u : Nat} {p : Part}, Chain x u P → p ∈ P → p.L ≠ [] ∧ Runs (x : Int) p.u p.L
  | [], _, _, _, h => by cases h
  | q :: r, u, p, hc, h => by
    rcases List.mem_cons.1 h with rfl | h
    · have := hc.1
      exact ⟨this.2.1, by rw [this.1]; exact this.2.2.1⟩
    · exact chain_part hc.2 h
theorem evs_mem {P : List Part} {p : Part} (h : p ∈ P) : p.L.length ≤ (evsP P).length := by
  obtain ⟨I, J, rfl⟩ := List.append_of_mem h
  rw [evsP_append]
  simp only [evsP, List.length_append]
  omega

/-- A feed that is being opened, behind j files. -/
def OpenAt [Inhabited XS] (w3 : World) (d f x : Nat) (sz : Int) (floor time : Nat) (P : List Part) (g acts : Nat) (S : List Nat) (j : Nat) (wr : World) : Prop :=
  ∃ (R : List SegS) (A : Option Addr) (c : Nat) (S' : List Nat), Opn wr d f x sz floor time (P.drop (min j g)) R A c S' (acts + min j g) ∧ R.map SegS.p = (P.drop g).take (j - g) ∧ Beside (S ++ [f]) w3 wr ∧ ∀ k ∈ S' ++ f :: blk A, k ∈ S ++ [f] ∨ w3.heap.size ≤ k
set_option maxHeartbeats 2000000 in
theorem open_step [Inhabited XS] (d : Nat) (S : List Nat) (f x : Nat) (sz : Int) (floor time u0 acts g j : Nat) (P : List Part) (p : Part) (last : Bool) (w3 wr : World) (T3 : TabsOn (S ++ [f]) w3) (G : Good x floor u0 P) (hx : x < 64) (hac0 : acts ≤ 40000) (hsum : (P.map (Part.z x)).sum ≤ 1000000)
    (hR : Rise P) (hgl : g ≤ P.length) (HGI : ∀ j p, j < g → P[j]? = some p → p.u + p.L.length - 1 ≤ floor) (HGO : ∀ j p, g ≤ j → P[j]? = some p → floor < p.u + p.L.length - 1) (hp : P[j]? = some p) (h : OpenAt w3 d f x sz floor time P g acts S j wr) :
    Calls Tryz.prog 26 #[.pointer (some ⟨f, 0, none⟩), .string ⟨(nameL (x : Int) p.u).toArray⟩, .bool last] wr fun e w' => e = .returned (.int .i64 0) ∧ OpenAt w3 d f x sz floor time P g acts S (j + 1) w' := by
  obtain ⟨R, A, c, S', HO, HRP, HB, HS⟩ := h
  have hbz := HB.size
  have hjP : j < P.length := (List.getElem?_eq_some_iff.1 hp).1
  have hpm := List.mem_of_getElem? hp
  obtain ⟨hpne, hpr⟩ := chain_part G.chain hpm
  have hpl0 := List.length_pos_iff.2 hpne
  have hpu := chain_at G.chain hp
  have hpe := evs_mem hpm
  have htl : (evsP (P.take (j + 1))).length ≤ (evsP P).length := evsP_take_le P (j + 1)
  rw [evsP_take_succ hp, List.length_append] at htl
  have hfew := G.few
  have hpos := G.pos
  have hpln := chain_len G.chain
  have hn : P.length ≤ 1000 := by omega
  have TS' : TabsOn S' wr := T3.next HB fun k hk => HS k (List.mem_append.2 (.inl hk))
  have hsumd := sum_drop x P (min j g)
  have hRd := rise_drop hR (min j g)
  have FIN : ∀ (Q PP : List Part) (a : Nat) (w' : World), OpnNext wr d f x sz floor time Q PP (S' ++ f :: blk A) a w' → ∃ (R' : List SegS) (A' : Option Addr) (c' : Nat) (S2 : List Nat), R'.map SegS.p = PP ∧ Opn w' d f x sz floor time Q R' A' c' S2 a ∧ Beside (S ++ [f]) w3 w' ∧ ∀ k ∈ S2 ++ f :: blk A', k ∈ S ++ [f] ∨ w3.heap.size ≤ k := by
    rintro Q PP a w' ⟨R', A', c', S2, h1, h2, h3, h4⟩
    exact ⟨R', A', c', S2, h1, h2, HB.trans h3 HS, fun k hk => (h4 k hk).elim (HS k) (fun h => .inr (by omega))⟩
  have HO' := HO
  have hRP' := HRP
  have hac := hac0
  have hsm := hsum
  by_cases hjg : j < g
  · have hm1 : min j g = j := by omega
    have hm2 : min (j + 1) g = j + 1 := by omega
    have hR0 : R = [] := by
      rw [show j - g = 0 by omega, List.take_zero, List.map_eq_nil_iff] at hRP'
      exact hRP'
    subst hR0
    have hdr : P.drop j = p :: P.drop (j + 1) := by
      have := List.getElem?_eq_some_iff.1 hp
      rw [List.drop_eq_getElem_cons hjP, this.2]
    rw [hm1, hdr] at HO' hRd hsumd
    have hin := HGI j p hjg hp
    refine (take_drop d f x sz floor time p (P.drop (j + 1)) A c S' (acts + j) last wr HO' TS' hRd hx (by omega) hpr (by omega) (by omega) (by omega) (by omega) hpl0 (by omega) (by have := G.hi; omega)).mono ?_
    rintro e w' ⟨rfl, hN⟩
    obtain ⟨R', A', c', S2, h1, h2, h3, h4⟩ := FIN _ _ _ _ hN
    refine ⟨rfl, R', A', c', S2, by rw [hm2]; exact h2, ?_, h3, h4⟩
    rw [h1, show j + 1 - g = 0 by omega, List.take_zero]
  · have hm1 : min j g = g := by omega
    have hm2 : min (j + 1) g = g := by omega
    rw [hm1] at HO' hRd hsumd
    have hpQ : (P.drop g)[j - g]? = some p := by rw [List.getElem?_drop, show g + (j - g) = j by omega]; exact hp
    have hout := HGO j p (by omega) hp
    have hRl : R.length ≤ 1000 := by
      have := congrArg List.length hRP'
      rw [List.length_map, List.length_take, List.length_drop] at this
      have := hn
      omega
    have hsp := evsP_take_split P (show g ≤ j by omega)
    have hspl := congrArg List.length hsp
    rw [List.length_append] at hspl
    refine (take_keep d f x sz floor time (P.drop g) R A c S' (acts + g) p last wr HO' TS' hRd (List.mem_of_getElem? hpQ) hx (by omega) hpr (by omega) (by omega) (by omega) hRl hout hpl0 ?_).mono ?_
    · intro Ap W FB
      by_cases hR0 : R = []
      · subst hR0
        have hg0 : (evsP ((P.drop g).take (j - g))).length = 0 := by rw [← hRP']; rfl
        have hlo := G.lo
        have hpfl : p.u ≤ floor + 1 := by
          rcases Nat.eq_zero_or_pos g with h0 | h0
          · have : (evsP (P.take g)).length = 0 := by rw [h0]; rfl
            omega
          · obtain ⟨q, hq⟩ : ∃ q, P[g - 1]? = some q := ⟨_, List.getElem?_eq_getElem (by omega)⟩
            have h1 := HGI (g - 1) q (by omega) hq
            have h2 := chain_at G.chain hq
            have h3 := evsP_take_succ hq
            rw [show g - 1 + 1 = g by omega] at h3
            have h4 := congrArg List.length h3
            rw [List.length_append] at h4
            have h5 := List.length_pos_iff.2 (chain_ne G.chain q (List.mem_of_getElem? hq))
            omega
        have NB : ∀ W2, Below W.heap.size W W2 → Calls Tryz.prog 17 #[.pointer (some ⟨f, 0, none⟩)] W2 fun e w' => e = .returned (.int .u64 ((floor + 1 : Nat) : Int)) ∧ Below W2.heap.size W2 w' := fun W2 h => next_bare d f (x : Int) sz floor time A c 0 W2 (FB.below h).box (by have := G.hi; omega)
        by_cases he : p.u = floor + 1
        · exact follows_next f x p.u Ap p.L.length (p.z x) W (fun W2 h => by rw [he]; exact NB W2 h)
        · exact follows_first f x p.u floor c Ap A p.L.length (p.z x) W (by omega) (fun W2 h => (FB.below h).cells.2.2.2.1) (fun W2 h => (FB.below h).cells.2.2.2.2.2.1) NB
      · have hRn : R ≠ [] := hR0
        refine follows_next f x p.u Ap p.L.length (p.z x) W (fun W2 h => ?_)
        have hch : Chain x (u0 + (evsP (P.take g)).length) (R.map SegS.p) := by rw [hRP']; exact chain_head (chain_cut G.chain g) _
        have hnx := nextB_any d f x sz floor time R 0 A c (u0 + (evsP (P.take g)).length) W2 (FB.below h) hch (fun h => absurd h hRn) (fun _ => ?_) (by rw [hRP']; omega)
        · rw [hRP', show u0 + (evsP (P.take g)).length + (evsP ((P.drop g).take (j - g))).length = p.u by omega] at hnx
          exact hnx
        · rw [hRP']
          have hjg' : g < j := by
            rcases Nat.lt_or_ge g j with h | h
            · exact h
            · rw [show j - g = 0 by omega, List.take_zero, List.map_eq_nil_iff] at hRP'
              exact absurd hRP' hRn
          obtain ⟨q, hq⟩ : ∃ q, P[g]? = some q := ⟨_, List.getElem?_eq_getElem (by omega)⟩
          have h1 := HGO g q (Nat.le_refl _) hq
          have h2 := chain_at G.chain hq
          have h3 := evsP_take_succ hq
          have h4 := congrArg List.length h3
          rw [List.length_append] at h4
          have h5 : (evsP (P.take (g + 1))).length ≤ (evsP (P.take j)).length := by
            have := evsP_take_le (P.take j) (g + 1)
            rw [List.take_take, Nat.min_eq_left (by omega)] at this
            exact this
          omega
    · rintro e w' ⟨rfl, hN⟩
      obtain ⟨R', A', c', S2, h1, h2, h3, h4⟩ := FIN _ _ _ _ hN
      refine ⟨rfl, R', A', c', S2, by rw [hm2]; exact h2, ?_, h3, h4⟩
      rw [h1, hRP', show j + 1 - g = (j - g) + 1 by omega, List.take_add_one, hpQ]
      rfl
/-- Behind all files. -/
theorem open_end [Inhabited XS] {w w3 wr : World} {d f x : Nat} {sz : Int} {floor time g acts n j : Nat} {P : List Part} {S : List Nat} (hj : j ≤ n) (hlt : ¬ j < n) (hn : n = P.length) (hgl : g ≤ n) (b3 : Below w.heap.size w w3) (hf : f = w.heap.size) (h : OpenAt w3 d f x sz floor time P g acts S j wr) :
    ∃ O, Feed wr d f x sz floor time (P.drop g) 0 O (hdA (acts + g)) ∧ Beside S w wr ∧ ∀ k ∈ O, k ∈ S ∨ w.heap.size ≤ k := by
  obtain ⟨R, A, c, S', HO, HRP, HB, HS⟩ := h
  have hm1 : min j g = g := by omega
  rw [hm1] at HO
  rw [List.take_of_length_le (by rw [List.length_drop]; omega)] at HRP
  refine ⟨S' ++ f :: blk A, ⟨R, A, c, S', HRP, rfl, ⟨?_, HO.bare.box, HO.bare.row, HO.evs, HO.fS, HO.aS, HO.xl⟩⟩, ?_, fun k hk => ?_⟩
  · rw [files_map, HRP]
    exact HO.disk
  · exact (Beside.of_below b3 S).trans HB (fun k hk => by
      rcases List.mem_append.1 hk with h | h
      · exact .inl h
      · simp at h; subst h; exact .inr (by rw [hf]; exact Nat.le_refl _))
  · have h3 := b3.size
    rcases HS k hk with h | h
    · rcases List.mem_append.1 h with h | h
      · exact .inl h
      · simp at h; subst h; exact .inr (by rw [hf]; exact Nat.le_refl _)
    · exact .inr (by omega)
set_option maxRecDepth 100000 in
set_option maxHeartbeats 4000000 in
theorem open_parts [Inhabited XS] (d : Nat) (S : List Nat) (x : Nat) (sz : Int) (floor time u0 acts : Nat) (P : List Part) (w : World) (hxl : ∀ k ∈ xsX, k < w.heap.size) (T : TabsOn S w) (hd : Disk w d S (P.map (Part.file x)) (hdA acts)) (G : Good x floor u0 P) (hx : x < 64) (hac : acts ≤ 40000) (hsum : (P.map (Part.z x)).sum ≤ 1000000) :
    Calls Tryz.prog 8 #[.pointer (some ⟨d, 0, none⟩), .int .i64 (x : Int), .int .i64 sz, .int .u64 (floor : Int), .int .u64 (time : Int)] w fun e w' => ∃ f acts' O, e = .returned (.tuple #[.pointer (some ⟨f, 0, none⟩), .int .i64 0]) ∧ acts' ≤ acts + P.length ∧ Feed w' d f x sz floor time (P.drop (goneA floor P)) 0 O (hdA acts') ∧ Beside S w w' ∧ ∀ k ∈ O, k ∈ S ∨ w.heap.size ≤ k := by
  have k0 : decide ((x : Int) < 0) = false := decide_eq_false (by omega)
  have k1 : decide ((64 : Int) ≤ (x : Int)) = false := decide_eq_false (by omega)
  have hR : Rise P := (chain_rise G.chain G.few).1
  have hpl := chain_len G.chain
  have hn : P.length ≤ 1000 := by have := G.few; omega
  obtain ⟨g, hg0⟩ : ∃ g, g = goneA floor P := ⟨_, rfl⟩
  have hgl : g ≤ P.length := by rw [hg0]; exact goneA_le floor P
  have HGI := Lib.hid (fun j p h hp => goneA_in floor P j p (by rw [hg0] at h; exact h) hp : ∀ j p, j < g → P[j]? = some p → p.u + p.L.length - 1 ≤ floor)
  have HGO := Lib.hid (fun j p h hp => goneA_out floor P u0 j p G.chain (by rw [hg0] at h; exact h) hp : ∀ j p, g ≤ j → P[j]? = some p → floor < p.u + p.L.length - 1)
  rw [← hg0]
  have HG := Lib.hid G
  have HR := Lib.hid hR
  have HD := Lib.hid hd
  have HT := Lib.hid T
  have HSM := Lib.hid hsum
  have HAC := Lib.hid hac
  have HNN := Lib.hid hn
  clear G hR hg0 hpl hsum T
  go_enter Tryz.func8, Tryz.ntmps8
  go_wp2_with fail
  refine (onC d S (P.map (Part.file x)) (hdA acts) w hd).mono ?_
  rintro e w1 ⟨rfl, rfl⟩
  rw [show (hdA acts).off = false from rfl]
  clear hd
  have hb0 := (Below.refl w.heap.size w).alloc (Nat.le_refl _) (.cells (cells d (x : Int) sz floor time (.slice none 0 0) 0) 60)
  have g0 := heap_alloc_new w (.cells (cells d (x : Int) sz floor time (.slice none 0 0) 0) 60)
  unfold cells at hb0 g0
  go_wp2_with fail
  refine (begin_any (x : Int) (by omega) (by omega) _ ((HT.out.below hb0) _ (Beside.refl _ _)).2).mono ?_
  rintro e w2 ⟨rfl, hb2⟩
  have b2 := hb0.trans (hb2.mono hb0.size)
  have g2 := (hb2.block w.heap.size (by simp)).trans g0
  go_wp2_with fail
  refine (names_parts d S x P (hdA acts) _ w2 (HD.out.below b2) rfl HR.out (by omega) (by simp)).mono ?_
  rintro e w3 ⟨NA, nc, rfl, hown3, hb3⟩
  have b3 := b2.trans (hb3.mono b2.size)
  have g3 := (hb3.block w.heap.size (Array.getElem?_eq_some_iff.1 g2).1).trans g2
  obtain ⟨f, hf⟩ : ∃ f, f = w.heap.size := ⟨_, rfl⟩
  rw [← hf] at g3 ⊢
  have hfw2 : f < w2.heap.size := by rw [hf]; exact (Array.getElem?_eq_some_iff.1 g2).1
  have hfS : f ∉ S := fun hm => by have := HD.out.lt f hm; omega
  have OP0 : Opn w3 d f x sz floor time P [] none 0 S acts := ⟨HD.out.below b3, ⟨g3, World.ownsRow_nil _ _ _ _⟩, (fun r hr => by cases hr), hfS, (fun q hq => by simp [blk] at hq), fun k hk => Nat.lt_of_lt_of_le (hxl k hk) b3.size⟩
  have T3 : TabsOn (S ++ [f]) w3 := HT.out.next (Beside.of_below b3 S) fun k hk => by
    rcases List.mem_append.1 hk with h | h
    · exact .inl h
    · simp at h; subst h; exact .inr (by rw [hf]; exact Nat.le_refl _)
  have STEP := Lib.hid (fun (j : Nat) (p : Part) (last : Bool) (wr : World) (hp : P[j]? = some p) (h : OpenAt w3 d f x sz floor time P g acts S j wr) => open_step d S f x sz floor time u0 acts g j P p last w3 wr T3 HG.out hx HAC.out HSM.out HR.out hgl HGI.out HGO.out hp h)
  have OA0 : OpenAt w3 d f x sz floor time P g acts S 0 w3 := ⟨[], none, 0, S, by simpa using OP0, by simp, Beside.refl _ _, fun k hk => .inl (by simpa [blk] using hk)⟩
  have H0 := Lib.hid OA0
  clear T3 OP0 OA0
  obtain ⟨n, hn0⟩ : ∃ n, n = P.length := ⟨_, rfl⟩
  rw [← hn0] at hgl hown3 ⊢
  have hnb : n ≤ 1000 := by omega
  have hncap := own_cap8 hown3
  have NAME : ∀ (j : Nat) (p : Part), P[j]? = some p → ∃ gn, NA = some ⟨gn, 0, none⟩ ∧ w2.heap.size ≤ gn ∧ gn < w3.heap.size ∧ ∀ W : World, W.heap[gn]? = w3.heap[gn]? → W.cell? ⟨gn, j, none⟩ = some (.string ⟨(nameL (x : Int) p.u).toArray⟩) := by
    intro j p hp
    have hj := (List.getElem?_eq_some_iff.1 hp).1
    rcases hown3.2 with ⟨_, h0⟩ | ⟨gn, cap, cur, hv, hbs, hh, _⟩
    · omega
    · injection hv with h1 _ h3
      subst h1
      refine ⟨gn, rfl, hbs, (Array.getElem?_eq_some_iff.1 hh).1, fun W hW => ?_⟩
      have := hown3.cells (g := gn) rfl j (.string ⟨(nameL (x : Int) p.u).toArray⟩) (by simp [namesL, hp, Go.Proofs.encStr])
      simp only [add_plain, Nat.zero_add] at this
      rw [World.cell?_of_block (w := w3) hW]
      exact this
  have HNM := Lib.hid NAME
  have HB3 := Lib.hid b3
  have HN0 := Lib.hid hn0
  have HF := Lib.hid hf
  have HFS := Lib.hid hfS
  have HGL := Lib.hid hgl
  have hfl3 : f < w3.heap.size := Nat.lt_of_lt_of_le hfw2 hb3.size
  clear hb0 g0 hb2 b2 g2 hb3 b3 g3 NAME hn0 hown3 hf hn hac hfS hgl HGI HGO HR HSM HAC HG HT
  go_wp2
  go_loopw [41] (fun v wr => ∃ j : Nat, v = .int .i64 (j : Int) ∧ j ≤ n ∧ Hid (OpenAt w3 d f x sz floor time P g acts S j wr)) (fun v _ => n - (intOf v).toNat)
  case atStart => exact ⟨0, rfl, Nat.zero_le _, H0⟩
  case round =>
    obtain ⟨j, rfl, hj, HO⟩ := hrel
    by_cases hlt : j < n
    · obtain ⟨p, hp⟩ : ∃ p, P[j]? = some p := ⟨_, List.getElem?_eq_getElem (by rw [← HN0.out]; exact hlt)⟩
      obtain ⟨gn, hNA, hgn2, hgn3, hcell⟩ := HNM.out j p hp
      have q0 : wr.cell? ⟨gn, j, none⟩ = some (.string ⟨(nameL (x : Int) p.u).toArray⟩) := by
        obtain ⟨R, A, c, S', _, _, hB, _⟩ := HO.out
        refine hcell wr (hB.block gn hgn3 fun hm => ?_)
        rcases List.mem_append.1 hm with h | h
        · have h1 := HD.out.lt gn h
          have h2 := HF.out
          omega
        · simp at h; omega
      have HNX := Lib.hid (fun (last : Bool) => STEP.out j p last wr hp HO.out)
      have hjn2 : j < n := hlt
      have hj1 : wrap64 ((j : Int) + 1) = ((j + 1 : Nat) : Int) := intWrap_small j (by omega)
      have HJ1 := Lib.hid hj1
      have HJ2 := Lib.hid (Nat.succ_le_of_lt hlt)
      have HJ3 := Lib.hid (Nat.sub_lt_sub_left hlt (Nat.lt_succ_self j))
      subst hNA
      clear hcell hp hlt HO
      go_wp2_with fail
      refine (HNX.out _).mono ?_
      rintro e w5 ⟨rfl, hO5⟩
      have H5 := Lib.hid hO5
      clear hO5 HNX
      go_wp2
      go_roundw
      case rel => exact ⟨j + 1, by first | rfl | (rw [HJ1.out]), HJ2.out, H5⟩
      case measure =>
        try rw [HJ1.out]
        exact HJ3.out
    · have hjn : ¬ j < n := hlt
      obtain ⟨O9, hE1⟩ := open_end (acts := acts) hj hlt HN0.out HGL.out HB3.out HF.out HO.out
      have HE1 := Lib.hid hE1
      have HLE := Lib.hid (show acts + g ≤ acts + P.length by have h1 := HGL.out; have h2 := HN0.out; omega)
      clear HO hE1
      go_wp2
      go_ret2
      exact ⟨f, acts + g, O9, rfl, HLE.out, HE1.out⟩
end Go.Proofs.YtkphklmgbdljiaaGreatDoor.Fd
