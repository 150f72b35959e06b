/- Texts of the law ReplicaNil, put together. -/
import Derived.Sort.KeysCollected
import Derived.Maps.OwnSet
import Derived.Maps.RangeWalk
import Derived.Deep.MidRow
import Derived.Sort.Walk0
import Derived.WalkLawsBesides
import Derived.Test.YtinjbdgjcadodaaGreatDoorRNp05
import Derived.Test.YtinjbdgjcadodaaGreatDoorRNp06
set_option linter.unusedVariables false
set_option linter.unusedSimpArgs false
set_option maxRecDepth 100000
namespace Go.Proofs.YtinjbdgjcadodaaGreatDoor.Q
open Go Go.RowKit Words
def ob (o : Option Nat) : Nat := match o with | some r => qb r | none => 9221120237041090561
theorem qb_ob (o : Option Nat) : qb (ob o) = ob o := by
 cases o with
 | none => simp [ob, qb, void_void]
 | some r => exact qb_qb r
theorem void_nan {x : Nat} {s : Bool} {t : Nat} (h : FloatKind.f64.format.read x = .nan s t) : void x = true := by
 unfold void Ieee.Format.order
 rw [h]
 rfl
theorem read_great (x : Nat) (h : 9218868437227405312 < x % 9223372036854775808) : ∃ s t, FloatKind.f64.format.read x = .nan s t := by
 have e : FloatKind.f64.format.read x = if x % 9223372036854775808 < 4503599627370496 then .number (x / 9223372036854775808 % 2 == 1) (x % 9223372036854775808) (-1074)
  else if x % 9223372036854775808 < 9218868437227405312 then .number (x / 9223372036854775808 % 2 == 1) (4503599627370496 + x % 9223372036854775808 % 4503599627370496) (-1074 + (x % 9223372036854775808 / 4503599627370496 - 1 : Nat))
  else if x % 9223372036854775808 = 9218868437227405312 then .infinity (x / 9223372036854775808 % 2 == 1) else .nan (x / 9223372036854775808 % 2 == 1) (x % 9223372036854775808 - 9218868437227405312) := rfl
 rw [e, if_neg (by omega), if_neg (by omega), if_neg (by omega)]
 exact ⟨_, _, rfl⟩
theorem nan_void (t : Nat) : void ((t % 2) * 2 ^ 63 + 0x7ff0000000000000 + 1 + (t / 2) % (2 ^ 52 - 1)) = true := by
 have h1 : t % 2 < 2 := Nat.mod_lt _ (by omega)
 have h2 : (t / 2) % (2 ^ 52 - 1) < 2 ^ 52 - 1 := Nat.mod_lt _ (by omega)
 generalize t % 2 = a at h1
 generalize (t / 2) % (2 ^ 52 - 1) = b at h2
 obtain ⟨s, u, h⟩ := read_great (a * 2 ^ 63 + 0x7ff0000000000000 + 1 + b) (by omega)
 exact void_nan h
theorem add_any (x y : Nat) (t : TypeId) (w : World) : ∃ r w', (binOp .add t (.float .f64 x) (.float .f64 y)).run Tryz.prog w = .ok (.float .f64 r) w' ∧ qb r = ob (FloatKind.f64.format.add x y) ∧ Below w.heap.size w w' := by
 cases h : FloatKind.f64.format.add x y with
 | some r => exact ⟨r, w, by simp [binOp, Op.floatArith, h], rfl, Below.refl _ _⟩
 | none =>
   refine ⟨Question.cut (.nanBits .f64 x y) (w.tape w.drawn (.nanBits .f64 x y)), w.drew, by simp [binOp, Op.floatArith, h, Question.forced], ?_, (Below.refl _ _).drew⟩
   have hv : void (Question.cut (.nanBits .f64 x y) (w.tape w.drawn (.nanBits .f64 x y))) = true := nan_void _
   rw [qb, hv]; rfl
theorem word_lt (neg : Bool) {r : Nat} (h : r ≤ 9223372036854775807) : FloatKind.f64.format.word neg r < 18446744073709551616 := by
 have e : FloatKind.f64.format.word neg r = if neg then 9223372036854775808 + r else r := rfl
 rw [e]
 split <;> omega
theorem write_lt (d : Ieee.Datum) : FloatKind.f64.format.write d < 18446744073709551616 := by
 have hi : FloatKind.f64.format.infRung = 9218868437227405312 := rfl
 have hb : FloatKind.f64.format.binade = 4503599627370496 := rfl
 cases d with
 | number s m i =>
   unfold Ieee.Format.write Ieee.Format.nearest
   simp only []
   split
   ·exact word_lt _ (by omega)
   ·refine word_lt _ (Nat.le_trans (Nat.min_le_right _ _) ?_)
    rw [hi]; omega
 | infinity s =>
   unfold Ieee.Format.write
   simp only []
   exact word_lt _ (by rw [hi]; omega)
 | nan s t =>
   unfold Ieee.Format.write
   simp only []
   refine word_lt _ ?_
   rw [hi, hb]
   have := Nat.mod_lt t (show 4503599627370496 > 0 by omega)
   omega
theorem ob_lt (x y : Nat) : ob (FloatKind.f64.format.add x y) < 18446744073709551616 := by
 unfold ob
 unfold Ieee.Format.add
 cases ((FloatKind.f64.format.read x).sum (FloatKind.f64.format.read y)) with
 | none => simp
 | some d => exact qb_lt _ (write_lt d)
theorem sumq_any (x y : Nat) (w : World) : Calls Tryz.prog 280 #[.float .f64 x, .float .f64 y] w fun e w' => e = .returned (.float .f64 (ob (FloatKind.f64.format.add x y))) ∧ Below w.heap.size w w' := by
 obtain ⟨r, w1, hrun, hq, hb⟩ := add_any x y 36 w
 go_enter Tryz.func280, Tryz.ntmps280
 go_wp2_with fail
 refine (plainQ_any _ _).mono ?_
 rintro e w2 ⟨rfl, rfl⟩
 rw [hq]
 go_wp2
 go_ret
 exact ⟨rfl, hb⟩
end Go.Proofs.YtinjbdgjcadodaaGreatDoor.Q
namespace Go.Proofs.YtinjbdgjcadodaaGreatDoor.Fol
open Go Go.RowKit Words Enc Go.Proofs.YtinjbdgjcadodaaGreatDoor.Q Evt
abbrev Key := List UInt8
theorem key_tri (a b : Key) : a < b ∨ a = b ∨ b < a := by
 by_cases h : a < b
 ·exact .inl h
 ·by_cases h2 : b < a
  ·exact .inr (.inr h2)
  ·exact .inr (.inl (List.le_antisymm (List.not_lt.1 h2) (List.not_lt.1 h)))
theorem key_ne {a b : Key} (h : a < b) : a ≠ b := fun e => List.lt_irrefl _ (e ▸ h)
section
variable {α β : Type}
def lk (s : Key) (L : List (Key × α)) : Option α := (L.find? fun p => decide (p.1 = s)).map (·.2)
def Rise (L : List (Key × α)) : Prop := L.Pairwise fun p q => p.1 < q.1
def ins (k : Key) (c : α) : List (Key × α) → List (Key × α)
 | [] => [(k, c)]
 | p :: r => if p.1 < k then p :: ins k c r else if p.1 = k then (k, c) :: r else (k, c) :: p :: r
def del (k : Key) : List (Key × α) → List (Key × α)
 | [] => []
 | p :: r => if p.1 = k then r else p :: del k r
theorem lk_nil (s : Key) : lk s ([] : List (Key × α)) = none := rfl
theorem lk_cons (s : Key) (p : Key × α) (r : List (Key × α)) : lk s (p :: r) = if p.1 = s then some p.2 else lk s r := by
 unfold lk
 rw [List.find?_cons]
 by_cases h : p.1 = s <;> simp [h]
theorem lk_none_iff {s : Key} {L : List (Key × α)} : lk s L = none ↔ ∀ p ∈ L, p.1 ≠ s := by simp [lk]
theorem lk_some_mem {s : Key} {L : List (Key × α)} {c : α} (h : lk s L = some c) : (s, c) ∈ L := by
 induction L with
 | nil => cases h
 | cons p r ih =>
   rw [lk_cons] at h
   split at h
   ·rename_i e
    injection h with h
    subst h; subst e
    exact List.mem_cons_self
   ·exact List.mem_cons_of_mem _ (ih h)
theorem lk_ins (s k : Key) (c : α) (L : List (Key × α)) : lk s (ins k c L) = if s = k then some c else lk s L := by
 induction L with
 | nil =>
   simp only [ins, lk_cons, lk_nil]
   by_cases h : s = k
   ·simp [h]
   ·simp [h, Ne.symm h]
 | cons p r ih =>
   simp only [ins]
   split
   ·rename_i h
    rw [lk_cons, lk_cons, ih]
    by_cases e : s = k
    ·subst e
     rw [if_pos rfl, if_neg (key_ne h), if_pos rfl]
    ·rw [if_neg e, if_neg e]
   ·rename_i h
    split
    ·rename_i h2
     rw [lk_cons, lk_cons]
     by_cases e : s = k
     ·subst e; simp
     ·simp [e, Ne.symm e, h2]
    ·rename_i h2
     rw [lk_cons]
     by_cases e : s = k
     ·subst e; simp
     ·simp [e, Ne.symm e]
theorem mem_ins {k : Key} {c : α} {L : List (Key × α)} {p : Key × α} (h : p ∈ ins k c L) : p = (k, c) ∨ p ∈ L := by
 induction L with
 | nil => simp [ins] at h; exact .inl h
 | cons q r ih =>
   simp only [ins] at h
   split at h
   ·rcases List.mem_cons.1 h with rfl | h
    ·exact .inr List.mem_cons_self
    ·exact (ih h).imp id fun h => List.mem_cons_of_mem _ h
   ·split at h
    ·rcases List.mem_cons.1 h with rfl | h
     ·exact .inl rfl
     ·exact .inr (List.mem_cons_of_mem _ h)
    ·rcases List.mem_cons.1 h with rfl | h
     ·exact .inl rfl
     ·exact .inr h
theorem mem_del {k : Key} {L : List (Key × α)} {p : Key × α} (h : p ∈ del k L) : p ∈ L := by
 induction L with
 | nil => cases h
 | cons q r ih =>
   simp only [del] at h
   split at h
   ·exact List.mem_cons_of_mem _ h
   ·rcases List.mem_cons.1 h with rfl | h
    ·exact List.mem_cons_self
    ·exact List.mem_cons_of_mem _ (ih h)
theorem rise_ins {k : Key} {c : α} {L : List (Key × α)} (h : Rise L) : Rise (ins k c L) := by
 unfold Rise at h ⊢
 induction L with
 | nil => simp [ins]
 | cons q r ih =>
   rw [List.pairwise_cons] at h
   simp only [ins]
   split
   ·rename_i hq
    rw [List.pairwise_cons]
    refine ⟨fun p hp => ?_, ih h.2⟩
    rcases mem_ins hp with rfl | hp
    ·exact hq
    ·exact h.1 p hp
   ·rename_i hq
    split
    ·rename_i he
     rw [List.pairwise_cons]
     exact ⟨fun p hp => by have := h.1 p hp; rwa [he] at this, h.2⟩
    ·rename_i he
     have hk : k < q.1 := by
      rcases key_tri k q.1 with h1 | h1 | h1
      ·exact h1
      ·exact absurd h1.symm he
      ·exact absurd h1 hq
     rw [List.pairwise_cons, List.pairwise_cons]
     refine ⟨fun p hp => ?_, h⟩
     rcases List.mem_cons.1 hp with rfl | hp
     ·exact hk
     ·exact List.lt_trans hk (h.1 p hp)
theorem del_sub (k : Key) (L : List (Key × α)) : (del k L).Sublist L := by
 induction L with
 | nil => exact List.Sublist.refl _
 | cons q r ih =>
   simp only [del]
   split
   ·exact List.sublist_cons_self _ _
   ·exact ih.cons_cons _
theorem rise_del {k : Key} {L : List (Key × α)} (h : Rise L) : Rise (del k L) := h.sublist (del_sub k L)
theorem lk_head {k : Key} {q : Key × α} {r : List (Key × α)} (h : Rise (q :: r)) (hk : ¬ q.1 < k) : lk k r = none := by
 rw [lk_none_iff]
 intro p hp e
 have := (List.pairwise_cons.1 h).1 p hp
 rw [e] at this
 exact hk this
theorem lk_del (s k : Key) {L : List (Key × α)} (h : Rise L) : lk s (del k L) = if s = k then none else lk s L := by
 induction L with
 | nil => simp [del, lk_nil]
 | cons q r ih =>
   simp only [del]
   by_cases e : q.1 = k
   ·rw [if_pos e]
    by_cases e2 : s = k
    ·subst e2
     rw [if_pos rfl]
     exact lk_head h (by rw [e]; exact List.lt_irrefl _)
    ·rw [if_neg e2, lk_cons, if_neg (by rw [e]; exact Ne.symm e2)]
   ·rw [if_neg e, lk_cons, lk_cons, ih (List.pairwise_cons.1 h).2]
    by_cases e2 : s = k
    ·subst e2; rw [if_pos rfl, if_neg e, if_pos rfl]
    ·rw [if_neg e2, if_neg e2]
theorem len_ins (k : Key) (c : α) {L : List (Key × α)} (h : Rise L) : (ins k c L).length = if (lk k L).isSome then L.length else L.length + 1 := by
 induction L with
 | nil => simp [ins, lk_nil]
 | cons q r ih =>
   have ih := ih (List.pairwise_cons.1 h).2
   simp only [ins, lk_cons]
   by_cases h1 : q.1 < k
   ·rw [if_pos h1, if_neg (key_ne h1), List.length_cons, ih]
    split <;> simp
   ·rw [if_neg h1]
    by_cases h2 : q.1 = k
    ·rw [if_pos h2, if_pos h2]; simp
    ·rw [if_neg h2, if_neg h2, lk_head h h1]; simp
theorem len_del (k : Key) (L : List (Key × α)) : (del k L).length = if (lk k L).isSome then L.length - 1 else L.length := by
 induction L with
 | nil => simp [del, lk_nil]
 | cons q r ih =>
   simp only [del, lk_cons]
   by_cases h2 : q.1 = k
   ·rw [if_pos h2, if_pos h2]; simp
   ·rw [if_neg h2, if_neg h2, List.length_cons, ih]
    split
    ·rename_i hs
     have : r ≠ [] := by rintro rfl; cases hs
     have := List.length_pos_iff.2 this
     simp; omega
    ·simp
def mapV (f : α → β) (L : List (Key × α)) : List (Key × β) := L.map fun p => (p.1, f p.2)
theorem mapV_len (f : α → β) (L : List (Key × α)) : (mapV f L).length = L.length := by simp [mapV]
theorem mapV_ins (f : α → β) (k : Key) (c : α) (L : List (Key × α)) : mapV f (ins k c L) = ins k (f c) (mapV f L) := by
 induction L with
 | nil => rfl
 | cons q r ih =>
   unfold mapV at ih ⊢
   simp only [List.map_cons, ins]
   split
   ·rw [List.map_cons, ih]
   ·split <;> simp
theorem mapV_del (f : α → β) (k : Key) (L : List (Key × α)) : mapV f (del k L) = del k (mapV f L) := by
 induction L with
 | nil => rfl
 | cons q r ih =>
   unfold mapV at ih ⊢
   simp only [List.map_cons, del]
   split
   ·rfl
   ·rw [List.map_cons, ih]
theorem mapV_lk (f : α → β) (k : Key) (L : List (Key × α)) : lk k (mapV f L) = (lk k L).map f := by
 induction L with
 | nil => rfl
 | cons q r ih =>
   have : mapV f (q :: r) = (q.1, f q.2) :: mapV f r := rfl
   rw [this, lk_cons, lk_cons, ih]
   split <;> rfl
theorem mapV_rise (f : α → β) (L : List (Key × α)) : Rise (mapV f L) ↔ Rise L := by
 unfold Rise mapV
 rw [List.pairwise_map]
end
structure Cel where
 kind : Nat
 text : List UInt8
 num : Nat
structure Fo where
 L : List (Key × Cel)
 J : List Bool
 R : List Bool
 H : List Nat
 time : Nat
 wr : Nat
 mark : Nat
def hashL (m : Nat) (p : List UInt8) : Nat := p.foldl (fun m b => ((m ^^^ b.toNat) * 1099511628211) % 18446744073709551616) m
def behind (F : Fo) (e : Ev) : Prop := F.time < e.time ∨ F.time = e.time ∧ (F.wr : Int) < e.writer
instance (F : Fo) (e : Ev) : Decidable (behind F e) := by unfold behind; infer_instance
def sumOf (F : Fo) (k : Key) (x : Nat) : Nat := match lk k F.L with
 | some c => if c.kind = 2 then ob (FloatKind.f64.format.add c.num (qb x)) else qb x
 | none => qb x
def change (F : Fo) (e : Ev) : Fo :=
 if e.kind = 1 then { F with L := ins e.key.data.toList ⟨1, e.text, 0⟩ F.L }
 else if e.kind = 2 then { F with L := ins e.key.data.toList ⟨2, [], qb e.num⟩ F.L }
 else if e.kind = 3 then { F with L := ins e.key.data.toList ⟨2, [], sumOf F e.key.data.toList e.num⟩ F.L }
 else if e.kind = 4 then { F with L := del e.key.data.toList F.L }
 else if e.kind = 5 then { F with J := F.J.set e.node.toNat true }
 else { F with R := F.R.set e.writer.toNat true }
def taken (F : Fo) (e : Ev) : Fo := { change F e with H := F.H.set e.writer.toNat e.seq, time := e.time, wr := e.writer.toNat, mark := hashL F.mark (evL e) }
def applyE (F : Fo) (e : Ev) : Nat := if rightE e ≠ 0 then rightE e else if ¬ behind F e then 10 else if e.seq ≠ F.H.getD e.writer.toNat 0 + 1 then 9 else 0
def applyF (F : Fo) (e : Ev) : Fo := if applyE F e = 0 then taken F e else F
def newF (n : Nat) : Fo := ⟨[], (List.range 64).map fun i => decide (i < n), List.replicate 64 false, List.replicate 64 0, 0, 0, 14695981039346656037⟩
structure Ok (F : Fo) : Prop where
 rise : Rise F.L
 j : F.J.length = 64
 r : F.R.length = 64
 h : F.H.length = 64
 hs : ∀ n ∈ F.H, n < 9223372036854775808
 time : F.time < 9223372036854775808
 wr : F.wr ≤ 63
 mark : F.mark < 18446744073709551616
 cel : ∀ p ∈ F.L, p.1.length ≤ 64 ∧ p.2.text.length ≤ 1048576 ∧ p.2.num < 18446744073709551616 ∧ (p.2.kind = 1 ∨ p.2.kind = 2)
 plain : ∀ p ∈ F.L, qb p.2.num = p.2.num
structure MC where
 kind : Nat
 A : Option Addr
 c : Nat
 text : List UInt8
 num : Nat
def MC.val (m : MC) : Value := .agg #[.int .u8 (m.kind : Int), .slice m.A m.text.length m.c, .float .f64 m.num]
def MC.cel (m : MC) : Cel := ⟨m.kind, m.text, m.num⟩
def zeroC : Value := .agg #[.int .u8 0, .slice none 0 0, .float .f64 0]
def valAt (o : Option MC) : Value := match o with | some m => m.val | none => zeroC
def celElem (v : Value) : Option (DataW Value × List MemPlace) := some (.held v, [])
theorem celElem_inv {v : Value} {x : Value} {ps : List MemPlace} (h : celElem v = some (.held x, ps)) : v = x := by
 unfold celElem at h
 injection h with h
 injection h with h _
 injection h
def Shows (D : DataW Value) (L : List (Key × MC)) : Prop :=
 (∀ s, D.atKey (.string s) (.held zeroC) = .held (valAt (lk s L))) ∧ (∀ s, Maps.has D (.string s) = (lk s L).isSome) ∧ Maps.size D = L.length
def MapAt (w : World) (mb : Nat) (L : List (Key × MC)) : Prop := ∃ D, w.ownsMap Tryz.prog 9 celElem mb L.length D ∧ Shows D L
theorem MapAt.lt {w : World} {mb : Nat} {L : List (Key × MC)} (h : MapAt w mb L) : mb < w.heap.size := by obtain ⟨D, h, _⟩ := h; exact h.lt
theorem MapAt.kept {w w' : World} {mb : Nat} {L : List (Key × MC)} (h : MapAt w mb L) (hk : w'.heap[mb]? = w.heap[mb]?) : MapAt w' mb L := by
 obtain ⟨D, ⟨es, clock, hb, r⟩, hs⟩ := h
 exact ⟨D, ⟨es, clock, hk.trans hb, r⟩, hs⟩
theorem keyStr : Maps.Keyed Tryz.prog 9 := Maps.string_keyed Tryz.underlying9
theorem key_mk {k : ByteArray} (hs : k.size ≤ 100000) : keyOf Tryz.prog 9 (.string k) = some (.string k.data.toList) :=
 WideMaps.keyOf_string_mk (P := Tryz.prog) (k := 9) Tryz.underlying9 (s := k) (by unfold maxLen; omega)
theorem zeroCel (w : World) : (zeroValue 63).run Tryz.prog w = .ok zeroC w := by kernel_rfl
theorem ownsMap_tight {w : World} {b n : Nat} {D : DataW Value} (h : w.ownsMap Tryz.prog 9 celElem b n D) : w.ownsMap Tryz.prog 9 celElem b (Maps.size D) D := by
 obtain ⟨es, clock, hb, F, hs, rfl⟩ := h
 refine ⟨es, clock, hb, F, ?_, rfl⟩
 simp [Maps.size, length_sorted]
theorem MapAt.run_look {w : World} {mb : Nat} {L : List (Key × MC)} (h : MapAt w mb L) {k : ByteArray} (hs : k.size ≤ 100000) :
  (Instr.lookup 208 (.map (some mb)) (.string k) false).run Tryz.prog w = .ok (valAt (lk k.data.toList L)) w := by
 obtain ⟨D, ho, h1, _⟩ := h
 obtain ⟨v, ps, hr, hv⟩ := ho.lookup keyStr Tryz.underlying208 (zeroCel w) (show celElem zeroC = some (.held zeroC, []) from rfl) (key_mk hs)
 rw [h1] at hv
 rw [hr, celElem_inv hv]
theorem MapAt.run_look_ok {w : World} {mb : Nat} {L : List (Key × MC)} (h : MapAt w mb L) {k : ByteArray} (hs : k.size ≤ 100000) :
  (Instr.lookup 208 (.map (some mb)) (.string k) true).run Tryz.prog w = .ok (.tuple #[valAt (lk k.data.toList L), .bool (lk k.data.toList L).isSome]) w := by
 obtain ⟨D, ho, h1, h2, _⟩ := h
 obtain ⟨v, ps, hr, hv⟩ := ho.look_ok keyStr Tryz.underlying208 (zeroCel w) (show celElem zeroC = some (.held zeroC, []) from rfl) (key_mk hs)
 rw [h1] at hv
 rw [hr, celElem_inv hv, h2]
theorem MapAt.run_store {w : World} {mb : Nat} {L : List (Key × MC)} (h : MapAt w mb L) (hr : Rise L) (m : MC) {k : ByteArray} (hs : k.size ≤ 100000) (hn : L.length < 1000000000000) :
  ∃ w', (Instr.mapUpdate 208 (.map (some mb)) (.string k) m.val).run Tryz.prog w = .ok () w' ∧ MapAt w' mb (ins k.data.toList m L) ∧ w.mapTurned w' mb := by
 obtain ⟨D, ho, h1, h2, h3⟩ := h
 obtain ⟨w', hrun, ho', ht⟩ := ho.store keyStr Tryz.underlying208 (by unfold maxLen; omega) (key_mk hs) (show celElem m.val = some (.held m.val, []) from rfl)
 have hsz : Maps.size (D.put (.string k.data.toList) (.held m.val)) = (ins k.data.toList m L).length := by
  rw [Maps.size_put (ho.tidy keyStr), h2, h3, len_ins _ _ hr]
 refine ⟨w', hrun, ⟨_, by rw [← hsz]; exact ownsMap_tight ho', fun s => ?_, fun s => ?_, hsz⟩, ht⟩
 ·rw [lk_ins]
  by_cases e : s = k.data.toList
  ·rw [if_pos e, e, Maps.atKey_put_same ho.isMap (keyStr.key (key_mk hs))]
   rfl
  ·rw [if_neg e, Maps.atKey_put_other (by intro h; injection h with h; exact e h), h1]
 ·rw [lk_ins]
  by_cases e : s = k.data.toList
  ·rw [if_pos e, e, Maps.has_put_same ho.isMap (keyStr.key (key_mk hs))]
   rfl
  ·rw [if_neg e, Maps.has_put_other (by intro h; injection h with h; exact e h), h2]
theorem MapAt.run_del {w : World} {mb : Nat} {L : List (Key × MC)} (h : MapAt w mb L) (hr : Rise L) {k : ByteArray} (hs : k.size ≤ 100000) (ty : TypeId) :
  ∃ w', (Builtin.delete_ #[208, 9] ty #[.map (some mb), .string k]).run Tryz.prog w = .ok (.tuple #[]) w' ∧ MapAt w' mb (del k.data.toList L) ∧ w.mapTurned w' mb := by
 obtain ⟨D, ho, h1, h2, h3⟩ := h
 obtain ⟨w', hrun, ho', ht⟩ := ho.drop keyStr Tryz.underlying208 (key_mk hs) ty
 have hsz := Maps.size_del (k := .string k.data.toList) (ho.tidy keyStr)
 rw [h2, h3] at hsz
 have hsz2 : Maps.size (D.del (.string k.data.toList)) = (del k.data.toList L).length := by
  rw [len_del]
  split at hsz <;> rename_i hi
  ·rw [if_pos hi]; omega
  ·rw [if_neg hi]; omega
 refine ⟨w', hrun, ⟨_, by rw [← hsz2]; exact ownsMap_tight ho', fun s => ?_, fun s => ?_, hsz2⟩, ht⟩
 ·rw [lk_del _ _ hr]
  by_cases e : s = k.data.toList
  ·rw [if_pos e, e, Maps.atKey_del_same]
   rfl
  ·rw [if_neg e, Maps.atKey_del_other (by intro h; injection h with h; exact e h), h1]
 ·rw [lk_del _ _ hr]
  by_cases e : s = k.data.toList
  ·rw [if_pos e, e, Maps.has_del_same]
   rfl
  ·rw [if_neg e, Maps.has_del_other (by intro h; injection h with h; exact e h), h2]
theorem mapAt_made (w : World) : MapAt (w.alloc (.map #[] 0)) w.heap.size [] :=
 ⟨_, World.ownsMap_made w Tryz.prog 9 celElem, fun s => rfl, fun s => rfl, rfl⟩
def cells (mb : Nat) (F : Fo) : List Value :=
 .map (some mb) :: (F.J.map .bool ++ (F.R.map .bool ++ (F.H.map (fun n : Nat => .int .u64 (n : Int)) ++ [.int .u64 (F.time : Int), .int .i64 (F.wr : Int), .int .u64 (F.mark : Int)])))
def row (mb : Nat) (F : Fo) : Array Value := (cells mb F).toArray
structure TextAt (w : World) (S : List Nat) (m : MC) : Prop where
 sees : Sees w m.A m.text.length m.text
 cap : m.text.length ≤ m.c
 out : Out S m.A m.text.length
structure FoldAt (w : World) (S : List Nat) (d mb : Nat) (F : Fo) : Prop where
 row : w.heap[d]? = some (.cells (row mb F) 213 (0, 0))
 map : ∃ L : List (Key × MC), MapAt w mb L ∧ mapV MC.cel L = F.L ∧ ∀ p ∈ L, TextAt w S p.2
 ok : Ok F
 ne : d ≠ mb
 dS : d ∈ S
 mS : mb ∈ S
theorem cells_len {mb : Nat} {F : Fo} (h : Ok F) : (cells mb F).length = 196 := by simp [cells, h.j, h.r, h.h]
theorem row_size {mb : Nat} {F : Fo} (h : Ok F) : (row mb F).size = 196 := by simp [row, cells_len h]
theorem cells_J {mb : Nat} {F : Fo} (h : Ok F) {i : Nat} (hi : i < 64) : (cells mb F)[1 + i]? = some (.bool (F.J.getD i false)) := by
 unfold cells
 rw [Nat.add_comm 1 i, List.getElem?_cons_succ, List.getElem?_append_left (by rw [List.length_map, h.j]; exact hi), List.getElem?_map, List.getElem?_eq_getElem (by rw [h.j]; exact hi)]
 simp [List.getD, h.j, hi]
theorem cells_R {mb : Nat} {F : Fo} (h : Ok F) {i : Nat} (hi : i < 64) : (cells mb F)[65 + i]? = some (.bool (F.R.getD i false)) := by
 unfold cells
 rw [show 65 + i = (64 + i) + 1 by omega, List.getElem?_cons_succ, List.getElem?_append_right (by rw [List.length_map, h.j]; omega), List.length_map, h.j, Nat.add_sub_cancel_left,
  List.getElem?_append_left (by rw [List.length_map, h.r]; exact hi), List.getElem?_map, List.getElem?_eq_getElem (by rw [h.r]; exact hi)]
 simp [List.getD, h.r, hi]
theorem cells_H {mb : Nat} {F : Fo} (h : Ok F) {i : Nat} (hi : i < 64) : (cells mb F)[129 + i]? = some (.int .u64 (F.H.getD i 0 : Int)) := by
 unfold cells
 rw [show 129 + i = (64 + (64 + i)) + 1 by omega, List.getElem?_cons_succ, List.getElem?_append_right (by rw [List.length_map, h.j]; omega), List.length_map, h.j, Nat.add_sub_cancel_left,
  List.getElem?_append_right (by rw [List.length_map, h.r]; omega), List.length_map, h.r, Nat.add_sub_cancel_left, List.getElem?_append_left (by rw [List.length_map, h.h]; exact hi), List.getElem?_map, List.getElem?_eq_getElem (by rw [h.h]; exact hi)]
 simp [List.getD, h.h, hi]
theorem cells_tail {mb : Nat} {F : Fo} (h : Ok F) : (cells mb F)[193]? = some (.int .u64 (F.time : Int)) ∧ (cells mb F)[194]? = some (.int .i64 (F.wr : Int)) ∧ (cells mb F)[195]? = some (.int .u64 (F.mark : Int)) := by
 unfold cells
 have e : ∀ k, ((F.J.map Value.bool ++ (F.R.map Value.bool ++ (F.H.map (fun n : Nat => Value.int .u64 (n : Int)) ++ [.int .u64 (F.time : Int), .int .i64 (F.wr : Int), .int .u64 (F.mark : Int)]))))[64 + (64 + (64 + k))]? = [Value.int .u64 (F.time : Int), .int .i64 (F.wr : Int), .int .u64 (F.mark : Int)][k]? := by
  intro k
  rw [List.getElem?_append_right (by rw [List.length_map, h.j]; omega), List.length_map, h.j, Nat.add_sub_cancel_left, List.getElem?_append_right (by rw [List.length_map, h.r]; omega), List.length_map, h.r, Nat.add_sub_cancel_left,
   List.getElem?_append_right (by rw [List.length_map, h.h]; omega), List.length_map, h.h, Nat.add_sub_cancel_left]
 exact ⟨e 0, e 1, e 2⟩
section
variable {w : World} {S : List Nat} {d mb : Nat} {F : Fo}
theorem FoldAt.cell (h : FoldAt w S d mb F) {i : Nat} {v : Value} (hv : (cells mb F)[i]? = some v) : w.cell? ⟨d, i, none⟩ = some v := by
 rw [cell_of_row w d _ _ _ _ h.row]
 simpa [Fol.row] using hv
theorem FoldAt.c0 (h : FoldAt w S d mb F) : w.cell? ⟨d, 0, none⟩ = some (.map (some mb)) := h.cell rfl
theorem FoldAt.cJ (h : FoldAt w S d mb F) {i : Nat} (hi : i < 64) : w.cell? ⟨d, 1 + i, none⟩ = some (.bool (F.J.getD i false)) := h.cell (cells_J h.ok hi)
theorem FoldAt.cR (h : FoldAt w S d mb F) {i : Nat} (hi : i < 64) : w.cell? ⟨d, 65 + i, none⟩ = some (.bool (F.R.getD i false)) := h.cell (cells_R h.ok hi)
theorem FoldAt.cH (h : FoldAt w S d mb F) {i : Nat} (hi : i < 64) : w.cell? ⟨d, 129 + i, none⟩ = some (.int .u64 (F.H.getD i 0 : Int)) := h.cell (cells_H h.ok hi)
theorem FoldAt.cT (h : FoldAt w S d mb F) : w.cell? ⟨d, 193, none⟩ = some (.int .u64 (F.time : Int)) ∧ w.cell? ⟨d, 194, none⟩ = some (.int .i64 (F.wr : Int)) ∧ w.cell? ⟨d, 195, none⟩ = some (.int .u64 (F.mark : Int)) :=
 ⟨h.cell (cells_tail h.ok).1, h.cell (cells_tail h.ok).2.1, h.cell (cells_tail h.ok).2.2⟩
theorem FoldAt.frozen (h : FoldAt w S d mb F) (i : Nat) : w.frozen? ⟨d, i, none⟩ = false := frozen_row0 h.row
theorem FoldAt.lt (h : FoldAt w S d mb F) : d < w.heap.size ∧ mb < w.heap.size := ⟨(Array.getElem?_eq_some_iff.1 h.row).1, by obtain ⟨L, hm, _⟩ := h.map; exact hm.lt⟩
theorem TextAt.beside {w' : World} {S1 : List Nat} {m : MC} (h : TextAt w S m) (hb : Beside S1 w w') (hS : ∀ x ∈ S1, x ∈ S ∨ w.heap.size ≤ x) : TextAt w' S m :=
 ⟨h.sees.beside hb (h.out.next h.sees hS), h.cap, h.out⟩
theorem TextAt.wider {S1 : List Nat} {m : MC} (h : TextAt w S m) (hS : ∀ x ∈ S1, x ∈ S ∨ w.heap.size ≤ x) : TextAt w S1 m := ⟨h.sees, h.cap, h.out.next h.sees hS⟩
theorem FoldAt.beside {w' : World} {S1 : List Nat} (h : FoldAt w S d mb F) (hb : Beside S1 w w') (hS : ∀ x ∈ S1, (x ∈ S ∧ x ≠ d ∧ x ≠ mb) ∨ w.heap.size ≤ x) : FoldAt w' S d mb F := by
 have hl := h.lt
 have hd : d ∉ S1 := fun hm => by rcases hS d hm with ⟨_, h1, _⟩ | h1 <;> omega
 have hm : mb ∉ S1 := fun hm => by rcases hS mb hm with ⟨_, _, h1⟩ | h1 <;> omega
 refine ⟨(hb.block d hl.1 hd).trans h.row, ?_, h.ok, h.ne, h.dS, h.mS⟩
 obtain ⟨L, h1, h2, h3⟩ := h.map
 exact ⟨L, h1.kept (hb.block mb hl.2 hm), h2, fun p hp => (h3 p hp).beside hb fun x hx => (hS x hx).imp And.left id⟩
theorem FoldAt.below {w' : World} (h : FoldAt w S d mb F) (hb : Below w.heap.size w w') : FoldAt w' S d mb F := h.beside (S1 := []) (.of_below hb _) fun x hx => by cases hx
theorem FoldAt.wider {S1 : List Nat} (h : FoldAt w S d mb F) (h1 : ∀ x ∈ S, x ∈ S1) (hS : ∀ x ∈ S1, x ∈ S ∨ w.heap.size ≤ x) : FoldAt w S1 d mb F := by
 obtain ⟨L, a, b, c⟩ := h.map
 exact ⟨h.row, ⟨L, a, b, fun p hp => (c p hp).wider hS⟩, h.ok, h.ne, h1 _ h.dS, h1 _ h.mS⟩
end
theorem hashL_lt {m : Nat} (p : List UInt8) (h : m < 18446744073709551616) : hashL m p < 18446744073709551616 := by
 unfold hashL
 induction p generalizing m with
 | nil => exact h
 | cons b r ih => exact ih (Nat.mod_lt _ (by omega))
theorem hashL_snoc (m : Nat) (p : List UInt8) (b : UInt8) : hashL m (p ++ [b]) = ((hashL m p ^^^ b.toNat) * 1099511628211) % 18446744073709551616 := by
 unfold hashL
 rw [List.foldl_append, List.foldl_cons, List.foldl_nil]
theorem hash_step {m b : Nat} (hm : m < 18446744073709551616) (hb : b < 256) : IntKind.u64.wrap (bits .xor .u64 (m : Int) (IntKind.u64.wrap (b : Int)) * 1099511628211) = (((m ^^^ b) * 1099511628211 % 18446744073709551616 : Nat) : Int) := by
 rw [wrap_in b (by omega), u64_xor_nat m b hm (by omega), IntKind.wrap_u64]
 generalize m ^^^ b = x
 omega
theorem hash_any (m : Nat) (A : Option Addr) (n c : Nat) (l : List UInt8) (w : World) (hs : Sees w A n l) (hm : m < 18446744073709551616) (hn : n ≤ 1000000000000) :
  Calls Tryz.prog 167 #[.int .u64 (m : Int), .slice A n c] w fun e w' => e = .returned (.int .u64 (hashL m l : Int)) ∧ w' = w := by
 have HS := Lib.hid hs
 have hl := hs.1
 clear hs
 go_enter Tryz.func167, Tryz.ntmps167
 go_wp2_with fail
 go_loopw [0, 6, 9, 10, 11, 12, 13, 14, 15, 16, 17, 18] (fun a0 a6 a9 a10 a11 a12 a13 a14 a15 a16 a17 a18 wr => ∃ (j X : Nat), a9 = .int .i64 (j : Int) ∧ a0 = .int .u64 (X : Int) ∧ j ≤ n ∧ Hid (X = hashL m (l.take j)) ∧ X < 18446744073709551616 ∧ w = wr) (fun a0 a6 a9 a10 a11 a12 a13 a14 a15 a16 a17 a18 _ => n - (intOf a9).toNat)
 case atStart => exact ⟨0, m, rfl, rfl, by omega, Lib.hid (by simp [hashL]), hm, rfl⟩
 case round =>
  obtain ⟨j, X, rfl, rfl, hj, HX, hX, rfl⟩ := hrel
  by_cases h1 : j < n
  ·obtain ⟨b, o, rfl, hc⟩ := HS.out.2 (by omega)
   have hc1 := hc j l[j] (List.getElem?_eq_getElem (by omega))
   obtain ⟨u, hu⟩ : ∃ u, l[j] = u := ⟨_, rfl⟩
   rw [hu] at hc1
   have HST := Lib.hid (hash_step (m := X) (b := u.toNat) hX u.toNat_lt)
   have HN := Lib.hid (show (X ^^^ u.toNat) * 1099511628211 % 18446744073709551616 = hashL m (l.take (j + 1)) by
    rw [List.take_add_one, List.getElem?_eq_getElem (by omega), hu]
    simp only [Option.toList_some]
    rw [hashL_snoc, HX.out])
   have HY : (X ^^^ u.toNat) * 1099511628211 % 18446744073709551616 < 18446744073709551616 := Nat.mod_lt _ (by omega)
   have hd : decide ((j : Int) < (n : Int)) = true := decide_eq_true (by omega)
   obtain ⟨U, hU⟩ : ∃ U, u.toNat = U := ⟨_, rfl⟩
   rw [hU] at hc1 HST HN HY
   obtain ⟨Y, hY⟩ : ∃ Y, (X ^^^ U) * 1099511628211 % 18446744073709551616 = Y := ⟨_, rfl⟩
   rw [hY] at HST HN HY
   have hst := HST.out
   clear hc hu hU hY
   go_wp2
   go_roundw
   case rel => exact ⟨j + 1, Y, by simp, rfl, by omega, HN, HY, by trivial⟩
   case measure => simp [intOf]; omega
  ·have hd : decide ((j : Int) < (n : Int)) = false := decide_eq_false (by omega)
   obtain rfl : j = n := by omega
   have HE := Lib.hid (show X = hashL m l by rw [HX.out, List.take_of_length_le (by omega)])
   go_wp2
   go_ret
   exact ⟨by rw [HE.out]; rfl, rfl⟩
section
variable {S : List Nat} {d mb : Nat} {F : Fo}
end
section
variable {P : Program} {ops : Array Oper} {rest : List Oper} {op : Oper} {a : Act} {w : World} {Q : Exit → Act → World → Prop}
theorem wpList_load_midG (hw : Region.wanted op (yielded ops a.tmps) = true) (ty : TypeId) (x : Operand) (ho : op.op = .load ty x)
  (b o : Nat) (hx : a.eval x = .pointer (some ⟨b, o, none⟩)) (cs : List Value) (d : TypeDesc) (hc : w.rangeAt b o cs)
  (hu : P.underlying ty = some d) (hd : d.isRow = true) (hi : (P.info? ty).map (·.size) = some cs.length)
  (h : wpList P ops Q rest (a.put op.dst (.agg cs.toArray)) w) : wpList P ops Q (op :: rest) a w := by
 unfold wpList
 rw [if_pos hw]
 exact .inl (wp_load_mid ty x ho b o hx cs d hc hu hd hi h)
end
def bs (l : List Bool) : List Value := l.map .bool
def inSet (l : List Bool) (n : Int) : Bool := decide (0 ≤ n ∧ n < 64) && l.getD n.toNat false
theorem has_any (l : List Bool) (n : Int) (w : World) (hl : l.length = 64) :
  Calls Tryz.prog 188 #[.agg (bs l).toArray, .int .i64 n] w fun e w' => e = .returned (.bool (inSet l n)) ∧ Below w.heap.size w w' := by
 by_cases h0 : 0 ≤ n
 ·by_cases h1 : n < 64
  ·have hb : inSet l n = l.getD n.toNat false := by unfold inSet; rw [decide_eq_true ⟨h0, h1⟩, Bool.true_and]
   rw [hb]
   obtain ⟨k, rfl⟩ := Int.eq_ofNat_of_zero_le h0
   have hk : k < 64 := by omega
   have hc : (w.alloc (.cells (bs l).toArray 209)).cell? ⟨w.heap.size, k, none⟩ = some (.bool (l.getD k false)) := by
    rw [cell_of_row _ w.heap.size _ _ _ (0, 0) (heap_alloc_new w _)]
    simp [bs, List.getD, hl, hk]
   rw [Int.toNat_natCast]
   generalize l.getD k false = x at hc ⊢
   have hal : Below w.heap.size w (w.alloc (.cells (bs l).toArray 209)) := (Below.refl _ _).alloc (Nat.le_refl _) _
   have d0 : decide ((0 : Int) ≤ (k : Int)) = true := decide_eq_true h0
   have d1 : decide ((k : Int) < 64) = true := decide_eq_true h1
   generalize bs l = q at hc hal ⊢
   clear hl
   go_enter Tryz.func188, Tryz.ntmps188
   go_wp2
   go_ret
   exact ⟨rfl, hal⟩
  ·have hb : inSet l n = false := by unfold inSet; rw [decide_eq_false (fun h => h1 h.2), Bool.false_and]
   rw [hb]
   have hal : Below w.heap.size w (w.alloc (.cells (bs l).toArray 209)) := (Below.refl _ _).alloc (Nat.le_refl _) _
   generalize bs l = q at hal ⊢
   clear hl hb
   go_enter Tryz.func188, Tryz.ntmps188
   go_wp2
   go_ret
   exact ⟨rfl, hal⟩
 ·have hb : inSet l n = false := by unfold inSet; rw [decide_eq_false (fun h => h0 h.1), Bool.false_and]
  rw [hb]
  have hal : Below w.heap.size w (w.alloc (.cells (bs l).toArray 209)) := (Below.refl _ _).alloc (Nat.le_refl _) _
  generalize bs l = q at hal ⊢
  clear hl hb
  go_enter Tryz.func188, Tryz.ntmps188
  go_wp2
  go_ret
  exact ⟨rfl, hal⟩
section
variable {S : List Nat} {d mb : Nat} {F : Fo}
theorem FoldAt.rangeJ {w : World} (h : FoldAt w S d mb F) : w.rangeAt d 1 (bs F.J) := by
 intro j v hv
 have hj : j < 64 := by have := (List.getElem?_eq_some_iff.1 hv).1; simpa [bs, h.ok.j] using this
 rw [h.cJ hj, ← hv]
 simp [bs, List.getD, h.ok.j, hj]
theorem FoldAt.rangeR {w : World} (h : FoldAt w S d mb F) : w.rangeAt d 65 (bs F.R) := by
 intro j v hv
 have hj : j < 64 := by have := (List.getElem?_eq_some_iff.1 hv).1; simpa [bs, h.ok.r] using this
 rw [h.cR hj, ← hv]
 simp [bs, List.getD, h.ok.r, hj]
theorem joined_any (n : Int) (w : World) (h : FoldAt w S d mb F) : Calls Tryz.prog 118 #[.pointer (some ⟨d, 0, none⟩), .int .i64 n] w fun e w' => e = .returned (.bool (inSet F.J n)) ∧ Below w.heap.size w w' := by
 have hr := h.rangeJ
 have hl := h.ok.j
 have hh := has_any F.J n w hl
 have hlen : (bs F.J).length = 64 := by simp [bs, hl]
 clear h hl
 generalize inSet F.J n = x at hh ⊢
 generalize bs F.J = q at hh hr hlen
 have HH := Lib.hid hh
 clear hh
 have hi : (Tryz.prog.info? 209).map (·.size) = some q.length := by rw [hlen]; kernel_rfl
 clear hlen
 go_enter Tryz.func118, Tryz.ntmps118
 go_wp2_with (first | (refine wpList_load_midG (by rfl) 209 (.tmp 10) rfl d 1 rfl q _ hr Tryz.underlying209 rfl hi ?_))
 refine HH.out.mono ?_
 rintro e w1 ⟨rfl, hb⟩
 go_wp2
 go_ret
 exact ⟨rfl, hb⟩
theorem retired_any (n : Int) (w : World) (h : FoldAt w S d mb F) : Calls Tryz.prog 119 #[.pointer (some ⟨d, 0, none⟩), .int .i64 n] w fun e w' => e = .returned (.bool (inSet F.R n)) ∧ Below w.heap.size w w' := by
 have hr := h.rangeR
 have hl := h.ok.r
 have hh := has_any F.R n w hl
 have hlen : (bs F.R).length = 64 := by simp [bs, hl]
 clear h hl
 generalize inSet F.R n = x at hh ⊢
 generalize bs F.R = q at hh hr hlen
 have HH := Lib.hid hh
 clear hh
 have hi : (Tryz.prog.info? 209).map (·.size) = some q.length := by rw [hlen]; kernel_rfl
 clear hlen
 go_enter Tryz.func119, Tryz.ntmps119
 go_wp2_with (first | (refine wpList_load_midG (by rfl) 209 (.tmp 10) rfl d 65 rfl q _ hr Tryz.underlying209 rfl hi ?_))
 refine HH.out.mono ?_
 rintro e w1 ⟨rfl, hb⟩
 go_wp2
 go_ret
 exact ⟨rfl, hb⟩
end
end Go.Proofs.YtinjbdgjcadodaaGreatDoor.Fol
