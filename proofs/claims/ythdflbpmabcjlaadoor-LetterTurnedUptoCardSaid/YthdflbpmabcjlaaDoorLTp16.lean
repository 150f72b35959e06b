/- Layer 16: package letter's reader of events. Layer 16: the rows of the law's letter, as they are made. Layer 16: the law's letter, kind 3. -/
import Derived.Maps.AppendAt
import Derived.Deep.Cut
import Derived.Test.YthdflbpmabcjlaaDoorLTp15
namespace Go.Proofs.YthdflbpmabcjlaaDoor.Lt
open Go Go.RowKit Go.Proofs.YthdflbpmabcjlaaDoor.Words Go.Proofs.YthdflbpmabcjlaaDoor.Enc Go.Proofs.YthdflbpmabcjlaaDoor.Evt Go.Proofs.YthdflbpmabcjlaaDoor.Made Go.Proofs.YthdflbpmabcjlaaDoor.Tape Go.Proofs.YthdflbpmabcjlaaDoor.Seg
set_option linter.unusedVariables false
set_option linter.unusedSimpArgs false

theorem clipEv (A : Option Addr) (n c : Nat) (w : World) (hc : n ≤ c) : Calls Tryd.prog 67 #[.slice A n c] w fun e w' => e = .returned (.slice A n n) ∧ w' = w := by
  have hci : (n : Int) ≤ (c : Int) := by omega
  cases A with
  | none =>
    go_enter Tryd.func67, Tryd.ntmps67
    go_wp2
    go_ret
    exact ⟨rfl, rfl⟩
  | some a =>
    go_enter Tryd.func67, Tryd.ntmps67
    go_wp2
    go_ret
    refine ⟨?_, rfl⟩
    first
      | rfl
      | (simp; try omega)
theorem own_bes8 {w w' : World} {base size : Nat} {S : List Nat} {e : TypeId} {v : Value} {n : Nat} {xs : List Value} (h : w.ownsRow base e size v n xs) (hb : Beside S w w') (hS : ∀ x ∈ S, x < base) : w'.ownsRow base e size v n xs := by
  refine ⟨h.1, ?_⟩
  rcases h.2 with hn | ⟨g, cap, cur, hv, hg, hh, r⟩
  · exact .inl hn
  · exact .inr ⟨g, cap, cur, hv, hg, by rw [hb.block g (Array.getElem?_eq_some_iff.1 hh).1 (fun hm => by have := hS g hm; omega)]; exact hh, r⟩
/-- A text that is new, outside the row of events. -/
def TextNw (b : Nat) (v : Value) (W : World) (r : EvS) : Prop := Sees W r.A r.n r.e.text ∧ Fresh b r.A r.n ∧ Out v.ownBlock.toList r.A r.n
theorem TextNw.beside {b : Nat} {v : Value} {S : List Nat} {W W' : World} {r : EvS} (h : TextNw b v W r) (hb : Beside S W W') (hS : ∀ k ∈ S, k < b) : TextNw b v W' r := ⟨h.1.beside hb (h.2.1.out hS), h.2⟩
theorem TextNw.grown {b : Nat} {v v' : Value} {W W' : World} {r : EvS} (h : TextNw b v W r) (hg : W.grownBy W' v.ownBlock) (ha : v'.ownBlock = v.ownBlock ∨ v'.ownBlock = some W.heap.size) : TextNw b v' W' r := by
  have hb : Beside v.ownBlock.toList W W' := (Beside.refl _ W).grown hg fun k hk => .inl (by simp [hk])
  refine ⟨h.1.beside hb h.2.2, h.2.1, Out.next h.2.2 h.1 fun k hk => ?_⟩
  rcases ha with ha | ha
  · rw [ha] at hk
    exact .inl hk
  · rw [ha] at hk
    simp at hk
    exact .inr (by omega)
/-- While the loop runs. -/
structure EvsIn (b j : Nat) (T : List EvS) (A : Option Addr) (c : Nat) (W : World) : Prop where
  own : W.ownsRow b 52 8 (.slice A j c) j (rowsL T)
  text : ∀ r ∈ T, TextNw b (.slice A j c) W r
theorem EvsIn.beside {b j : Nat} {T : List EvS} {A : Option Addr} {c : Nat} {W W' : World} {S : List Nat} (h : EvsIn b j T A c W) (hb : Beside S W W') (hS : ∀ x ∈ S, x < b) : EvsIn b j T A c W' :=
  ⟨own_bes8 h.own hb hS, fun r hr => (h.text r hr).beside hb hS⟩
theorem EvsIn.below {b j : Nat} {T : List EvS} {A : Option Addr} {c : Nat} {W W' : World} (h : EvsIn b j T A c W) (hb : Below W.heap.size W W') : EvsIn b j T A c W' := h.beside (Beside.of_below hb []) (fun x hx => by cases hx)
theorem EvsIn.more {b j : Nat} {T : List EvS} {A A' : Option Addr} {c c' : Nat} {W W' : World} {r : EvS} (h : EvsIn b j T A c W) (hg : W.grownBy W' (Value.slice A j c).ownBlock) (hown : W'.ownsRow b 52 8 (.slice A' (j + 1) c') (j + 1) (rowsL (T ++ [r])))
    (ha : (Value.slice A' (j + 1) c').ownBlock = (Value.slice A j c).ownBlock ∨ (Value.slice A' (j + 1) c').ownBlock = some W.heap.size) (ht : TextNw b (.slice A j c) W r) : EvsIn b (j + 1) (T ++ [r]) A' c' W' :=
  ⟨hown, fun s hs => by
    rcases List.mem_append.1 hs with hs | hs
    · exact (h.text s hs).grown hg ha
    · rw [List.mem_singleton.1 hs]; exact ht.grown hg ha⟩
theorem evsN_step (k : Nat) {l l1 T : List UInt8} {e : Ev} (h1 : textG 4194304 l = .ok T l1) (h2 : decG T = .inr e) : evsN (k + 1) l = (evsN k l1).bind fun es l2 => .ok (e :: es) l2 := by
  rw [evsN, h1]; simp only [gT, Tk.bind]
  rw [h2]
theorem evsN_no (k : Nat) {l l1 T : List UInt8} {E : Nat} (h1 : textG 4194304 l = .ok T l1) (h2 : decG T = .inl E) : evsN (k + 1) l = .no := by
  rw [evsN, h1]; simp only [gT, Tk.bind]
  rw [h2]
theorem evsN_bad (k : Nat) {l : List UInt8} {E : Nat} (h1 : textG 4194304 l = .bad E) : evsN (k + 1) l = .bad E := by
  rw [evsN, h1]; rfl
/-- What takeEvents answers. -/
def EvsGives (PA : Option Addr) (PN : Nat) (L : List UInt8) (t : Nat) (g : Tk (List Ev)) (w : World) (e : Ending) (w' : World) : Prop :=
  match g with
  | .bad E => e = fault E ∧ Beside [t] w w'
  | .no => e = .returned (.tuple #[.slice none 0 0, .bool false]) ∧ Beside [t] w w'
  | .ok es r => ∃ A S, e = .returned (.tuple #[.slice A es.length es.length, .bool true]) ∧ es = S.map EvS.e ∧ Ord.SameR w' A S ∧ (∀ r ∈ S, Fresh w.heap.size r.A r.n) ∧ (0 < es.length → ∃ g, A = some ⟨g, 0, none⟩ ∧ w.heap.size ≤ g) ∧ TapeOn PA PN L w' t r ∧ Beside [t] w w'
set_option maxRecDepth 100000 in
set_option maxHeartbeats 4000000 in
theorem takeEvents_any (PA : Option Addr) (PN : Nat) (L : List UInt8) (t : Nat) (l : List UInt8) (w : World) (ht : TapeOn PA PN L w t l) (hP : Sees w PA PN L) (hll : l.length ≤ 100000) :
    Calls Tryd.prog 58 #[.pointer (some ⟨t, 0, none⟩)] w (EvsGives PA PN L t (evsT l) w) := by
  obtain ⟨i, hi, hzz, hsz, hby⟩ := info_parts infoE
  have hsf := store_float Tryd.prog
  have htl := ht.lt
  have hout : Out [t] PA PN := by
    obtain ⟨A', n', c', hb', -⟩ := ht
    exact sees_off hb' hP
  have SEE : Hid (∀ W, Beside [t] w W → Sees W PA PN L) := Lib.hid fun W hb => hP.beside hb hout
  obtain ⟨G, hG⟩ : ∃ G, G = evsT l := ⟨_, rfl⟩
  rw [← hG]
  unfold evsT at hG
  cases g1 : numG 9223372036854775807 l with
  | bad E =>
    rw [g1] at hG
    have NB := Lib.hid (num_bad t 9223372036854775807 E l w (ht.at_ hP) (by omega) g1)
    obtain rfl : G = .bad E := hG
    clear g1 ht hP
    go_enter Tryd.func58, Tryd.ntmps58
    go_wp2_with fail
    refine NB.out.mono ?_
    rintro e w1 ⟨rfl, hbb⟩
    have HB := Lib.hid hbb
    clear hbb NB
    unfold fault
    go_wp2
    exact ⟨rfl, rfl, HB.out⟩
  | ok N l1 =>
    have hN64 : N ≤ 9223372036854775807 := (Vec.numG_enc g1).2
    have hl1 : l1.length ≤ l.length := by rw [(Vec.numG_enc g1).1]; simp
    rw [g1] at hG
    have HG := Lib.hid (show G = evsN N l1 from hG)
    have NB := Lib.hid (num_ok t 9223372036854775807 N l l1 w ht hP (by omega) g1)
    clear g1 ht hP hG
    go_enter Tryd.func58, Tryd.ntmps58
    go_wp2_with fail
    refine NB.out.mono ?_
    rintro e w1 ⟨rfl, ht1, be1⟩
    have INV := Lib.hid (And.intro (⟨own_nil8 w1 w.heap.size 52, fun r hr => by cases hr⟩ : EvsIn w.heap.size 0 [] none 0 w1) (And.intro ht1 be1))
    clear NB ht1 be1
    go_wp2_with fail
    go_loopw [4, 9] (fun x y wr => ∃ (j c : Nat) (A : Option Addr) (T : List EvS) (r : List UInt8), x = .slice A j c ∧ y = .int .u64 (j : Int) ∧ j ≤ N ∧ j + r.length ≤ l.length ∧ Hid (T.length = j ∧ G = (evsN (N - j) r).bind fun u q => .ok (T.map EvS.e ++ u) q) ∧ Hid (EvsIn w.heap.size j T A c wr ∧ TapeOn PA PN L wr t r ∧ Beside [t] w wr)) (fun _ y _ => N - (intOf y).toNat)
    case atStart => exact ⟨0, 0, none, [], l1, rfl, rfl, by omega, by omega, Lib.hid ⟨rfl, by rw [HG.out]; cases evsN N l1 <;> rfl⟩, INV⟩
    case round =>
      obtain ⟨j, c, A, T, r, rfl, rfl, hj, hr, HX, HI⟩ := hrel
      have hPr := SEE.out wr HI.out.2.2
      have hwz := HI.out.2.2.size
      by_cases hlt : j < N
      · have h1 : (j : Int) < (N : Int) := by omega
        have hwj : IntKind.u64.wrap ((j : Int) + 1) = (j : Int) + 1 := by have := wrap_in (j + 1) (by omega); simpa using this
        obtain ⟨k, hk⟩ : ∃ k, N - j = k + 1 := ⟨N - j - 1, by omega⟩
        have HX1 := Lib.hid (show G = (evsN (k + 1) r).bind fun u q => .ok (T.map EvS.e ++ u) q by rw [← hk]; exact HX.out.2)
        cases gx : textG 4194304 r with
        | bad E =>
          obtain rfl : G = .bad E := by rw [HX1.out, evsN_bad k gx]; rfl
          have NB := Lib.hid (text_bad t 4194304 E r wr (HI.out.2.1.at_ hPr) (by omega) (by omega) gx)
          clear hPr gx HX1 HX hk HG INV
          go_wp2_with fail
          refine NB.out.mono ?_
          rintro e w3 ⟨rfl, hbb⟩
          have HB := Lib.hid (HI.out.2.2.trans hbb fun x hx => .inl hx)
          clear hbb NB
          unfold fault
          go_wp2
          exact ⟨rfl, rfl, HB.out⟩
        | ok q r1 =>
        have hq := textG_enc gx
        have hr1 : j + 1 + r1.length ≤ l.length := by have h2 := congrArg List.length hq.1; have h3 := enc_pos q.length; simp only [List.length_append] at h2; omega
        have hql : q.length ≤ 100000 := by have h2 := congrArg List.length hq.1; simp only [List.length_append] at h2; omega
        have NB := Lib.hid (text_ok t 4194304 q r r1 wr HI.out.2.1 hPr (by omega) (by omega) gx)
        have GX := Lib.hid gx
        clear gx hq hPr
        go_wp2_with fail
        refine NB.out.mono ?_
        rintro e w3 ⟨B3, m3, k3, rfl, own3, ht3, hb3⟩
        have HI3 := Lib.hid (And.intro (HI.out.1.beside hb3 (by simp; omega)) (And.intro ht3 (HI.out.2.2.trans hb3 fun x hx => .inl hx)))
        have DC := decode_any B3 m3 k3 q w3 own3.sees own3.cap.1 (by have := own3.sees.1; omega)
        have hw3 := hb3.size
        clear own3 ht3 hb3 NB HI
        cases gd : decG q with
        | inl E =>
          rw [gd] at DC
          have hE := decG_ne gd
          obtain rfl : G = .no := by rw [HX1.out, evsN_no k GX.out gd]; rfl
          have NB := Lib.hid DC
          have d2 : ((E : Int) != 0) = true := by rw [bne_iff_ne]; omega
          clear DC gd HX1 HX hk HG INV GX hE
          go_wp2_with fail
          refine NB.out.mono ?_
          rintro e w4 ⟨rfl, hb4⟩
          have HB := Lib.hid (HI3.out.2.2.below hb4)
          clear hb4 NB
          unfold zeroRow
          go_wp2
          go_returns
          exact ⟨rfl, by first | exact HB.out.alloc _ | exact HB.out⟩
        | inr ev =>
          rw [gd] at DC
          have GD := Lib.hid gd
          have NB := Lib.hid DC
          have HX2 : Hid (∀ x : EvS, x.e = ev → (T ++ [x]).length = j + 1 ∧ G = (evsN (N - (j + 1)) r1).bind fun u q => .ok ((T ++ [x]).map EvS.e ++ u) q) := Lib.hid fun x hx => ⟨by simp [HX.out.1], by
            rw [HX1.out, show N - (j + 1) = k by omega, evsN_step k GX.out GD.out]
            cases evsN k r1 with
            | bad E => rfl
            | no => rfl
            | ok u q => simp [Tk.bind, hx]⟩
          clear DC gd HX1 HX hk HG INV GX GD
          go_wp2_with fail
          refine NB.out.mono ?_
          rintro e w4 ⟨At, nt, ct, rfl, hs4, -, -, hfr4, hb4⟩
          have HI4 := Lib.hid (And.intro (HI3.out.1.below hb4) (And.intro (HI3.out.2.1.keep (hb4.block _ HI3.out.2.1.lt)) (HI3.out.2.2.below hb4)))
          have HT4 : Hid (TextNw w.heap.size (.slice A j c) w4 ⟨ev, At, nt, ct⟩) := Lib.hid ⟨hs4, fun hn a ha => by have := hfr4 hn a ha; omega, hfr4.out fun x hx => by
            have h9 := HI3.out.1.own
            rcases h9.2 with ⟨hv, h0⟩ | ⟨g, cap, cur, hv, hg, hh, hr9⟩
            · rw [hv] at hx; simp [Value.ownBlock] at hx
            · rw [hv] at hx
              simp [Value.ownBlock] at hx
              subst hx
              exact (Array.getElem?_eq_some_iff.1 hh).1⟩
          clear hs4 hfr4 hb4 NB HI3
          have f5 := heap_alloc_new w4 (.cells #[.int .i64 ev.writer, .int .u64 (ev.seq : Int), .int .u64 (ev.time : Int), .int .u8 (ev.kind : Int), .string ev.key, .slice At nt ct, .float .f64 ev.num, .int .i64 ev.node] 52)
          have hal := (Below.refl w4.heap.size w4).alloc (Nat.le_refl _) (.cells #[.int .i64 ev.writer, .int .u64 (ev.seq : Int), .int .u64 (ev.time : Int), .int .u8 (ev.kind : Int), .string ev.key, .slice At nt ct, .float .f64 ev.num, .int .i64 ev.node] 52)
          have HI5 := Lib.hid (And.intro (HI4.out.1.below hal) (And.intro (HI4.out.2.1.keep (hal.block _ HI4.out.2.1.lt)) (HI4.out.2.2.below hal)))
          have HT5 := Lib.hid (HT4.out.beside (Beside.of_below hal []) (fun x hx => by cases hx))
          obtain ⟨k0, k1, k2, k3, k4, k5, k6, k7⟩ := box8 f5
          have hw5 : w.heap.size ≤ w4.heap.size := HI4.out.2.2.size
          unfold Ev.val
          clear f5 hal HI4 HT4
          generalize hW5 : w4.alloc (.cells #[.int .i64 ev.writer, .int .u64 (ev.seq : Int), .int .u64 (ev.time : Int), .int .u8 (ev.kind : Int), .string ev.key, .slice At nt ct, .float .f64 ev.num, .int .i64 ev.node] 52) = w5 at k0 k1 k2 k3 k4 k5 k6 k7 HI5 HT5
          have HW5 := Lib.hid hW5
          have hz5 : w5.heap.size = w4.heap.size + 1 := by rw [← hW5]; simp
          have HZ5 := Lib.hid hz5
          have hEo := fun (o : Obj) => own_below8 HI5.out.1.own (Below.alloc (Below.refl w5.heap.size w5) (Nat.le_refl _) o) (Nat.le_refl _)
          clear hW5 hz5
          go_upto_region 7 with fail
          rw [HW5.out]
          go_wp2_with (first | (at_builtin; refine wpList_append_own_at _ rfl _ _ 34 rfl w.heap.size 52 i zeroEv 8 88 Tryd.underlying34 hi hzz hsz hby rfl (by decide) (.slice A j c) j (rowsL T) rfl (hEo _) ⟨w5.heap.size, 0, none⟩ 1 1 (EvS.cells ⟨ev, At, nt, ct⟩) rfl rfl ?c1 ?c2 ?c3 ?c4 ?c5 ?_))
          case c1 =>
            intro jj uu hjj
            rw [add_plain, Nat.zero_add, cell_of_row _ _ _ _ _ _ (heap_alloc_new w5 _)]
            rw [← hjj, ← Array.getElem?_toList]
            rfl
          case c2 => exact EvS.one _
          case c3 => unfold maxLen; omega
          case c4 => omega
          case c5 => have := HZ5.out; simp; omega
          intro v' w6 hown6 hgrow6 _ hat6
          obtain ⟨A6, c6, rfl, hc6⟩ := own_shape8 hown6
          have hown7 : w6.ownsRow w.heap.size 52 8 (.slice A6 (j + 1) c6) (j + 1) (rowsL (T ++ [⟨ev, At, nt, ct⟩])) := by
            rw [rowsL_append]
            simpa [rowsL] using hown6
          have hal6 := (Below.refl w5.heap.size w5).alloc (Nat.le_refl _) (.cells #[.int .i64 ev.writer, .int .u64 (ev.seq : Int), .int .u64 (ev.time : Int), .int .u8 (ev.kind : Int), .string ev.key, .slice At nt ct, .float .f64 ev.num, .int .i64 ev.node] 52)
          have hI6 := HI5.out.1.below hal6
          have hT6 := HT5.out.beside (Beside.of_below hal6 []) (fun x hx => by cases hx)
          have hM := hI6.more hgrow6 hown7 (hat6.imp id fun h => h.trans (by simp)) hT6
          have hbb := (Beside.refl (Value.slice A j c).ownBlock.toList _).grown hgrow6 fun k hk => .inl (by simp [hk])
          have hlow : ∀ x ∈ (Value.slice A j c).ownBlock.toList, w.heap.size ≤ x := fun x hx => by
            rcases hI6.own.2 with ⟨hv, h0⟩ | ⟨g, cap, cur, hv, hg, hh, hr9⟩
            · rw [hv] at hx; simp [Value.ownBlock] at hx
            · rw [hv] at hx
              simp [Value.ownBlock] at hx
              subst hx
              exact hg
          have hB6 := (HI5.out.2.2.below hal6).trans hbb fun x hx => .inr (hlow x hx)
          have hK6 := (HI5.out.2.1.keep (hal6.block _ HI5.out.2.1.lt)).keep (hbb.block t (by have := HI5.out.2.1.lt; simp; omega) (fun hx => by have := hlow t hx; omega))
          have FIN := Lib.hid (And.intro hM (And.intro hK6 hB6))
          have HX3 := Lib.hid (HX2.out ⟨ev, At, nt, ct⟩ rfl)
          clear hown6 hgrow6 hat6 hown7 hal6 hI6 hT6 hM hbb hlow hB6 hK6 hEo k0 k1 k2 k3 k4 k5 k6 k7 HX2 HI5 HT5
          go_wp2
          go_roundw
          case rel => exact ⟨j + 1, c6, A6, T ++ [⟨ev, At, nt, ct⟩], r1, rfl, by simp, by omega, by omega, HX3, FIN⟩
          case measure => simp [intOf]; omega
      · obtain rfl : j = N := by omega
        have hG2 : G = .ok (T.map EvS.e) r := by rw [HX.out.2, Nat.sub_self]; simp [evsN, Tk.bind]
        have FIN := HI
        have hTl := HX.out.1
        have hcap := (own_cap8 HI.out.1.own).1
        subst hG2
        clear HI HX hPr HG INV
        go_wp2_with fail
        refine (clipEv A j c wr hcap).mono ?_
        rintro e w5 ⟨rfl, rfl⟩
        have HTL := Lib.hid hTl
        clear hTl
        go_wp2
        go_returns
        have hml : (T.map EvS.e).length = j := by rw [List.length_map]; exact HTL.out
        refine ⟨A, T, by rw [hml]; rfl, rfl, ⟨RawEv.of_own FIN.out.1.own, fun r hr => (FIN.out.1.text r hr).1⟩, fun r hr => (FIN.out.1.text r hr).2.1, fun hn => own_at8 FIN.out.1.own (by omega), FIN.out.2.1, FIN.out.2.2⟩
end Go.Proofs.YthdflbpmabcjlaaDoor.Lt
namespace Go.Proofs.YthdflbpmabcjlaaDoor.Lt
open Go Go.RowKit Go.Proofs.YthdflbpmabcjlaaDoor.Words Go.Proofs.YthdflbpmabcjlaaDoor.Enc Go.Proofs.YthdflbpmabcjlaaDoor.Evt Go.Proofs.YthdflbpmabcjlaaDoor.Made Go.Proofs.YthdflbpmabcjlaaDoor.Seg
set_option linter.unusedVariables false
set_option linter.unusedSimpArgs false

structure RV where
  r : Rw
  A : Option Addr
  n : Nat
  c : Nat
def RV.cells (t : RV) : List Value := [.int .i64 (t.r.node : Int), .slice t.A t.n t.c, .int .u64 (t.r.time : Int)]
def rvL : List RV → List Value
  | [] => []
  | t :: T => t.cells ++ rvL T
theorem rvL_len : ∀ T : List RV, (rvL T).length = T.length * 3
  | [] => rfl
  | t :: T => by simp only [rvL, RV.cells, List.length_append, List.length_cons, List.length_nil, rvL_len T]; omega
theorem rvL_app : ∀ S T : List RV, rvL (S ++ T) = rvL S ++ rvL T
  | [], T => rfl
  | r :: S, T => by simp [rvL, rvL_app S T]
theorem rvL_get : ∀ (T : List RV) (j k : Nat) (t : RV), T[j]? = some t → k < 3 → (rvL T)[j * 3 + k]? = t.cells[k]?
  | [], j, k, r, h, _ => by simp at h
  | x :: S, 0, k, r, h, hk => by
    simp at h
    subst h
    rw [rvL, List.getElem?_append_left (by show 0 * 3 + k < 3; omega)]
    simp
  | x :: S, j + 1, k, r, h, hk => by
    have h3 : x.cells.length = 3 := rfl
    rw [rvL, List.getElem?_append_right (by rw [h3]; omega), h3, show (j + 1) * 3 + k - 3 = j * 3 + k by omega]
    exact rvL_get S j k r (by simpa using h) hk
/-- A vector that is new, outside the rows. -/
def VecNw (b : Nat) (v : Value) (W : World) (t : RV) : Prop := Vec.SeesU W t.A t.n t.r.H ∧ Fresh b t.A t.n ∧ Out v.ownBlock.toList t.A t.n
theorem VecNw.beside {b : Nat} {v : Value} {S : List Nat} {W W' : World} {t : RV} (h : VecNw b v W t) (hb : Beside S W W') (hS : ∀ k ∈ S, k < b) : VecNw b v W' t := ⟨h.1.beside hb (h.2.1.out hS), h.2⟩
theorem outU_next {S S1 : List Nat} {w : World} {A : Option Addr} {n : Nat} {l : List Nat} (h : Out S A n) (hs : Vec.SeesU w A n l) (hS : ∀ x ∈ S1, x ∈ S ∨ w.heap.size ≤ x) : Out S1 A n := fun hn a ha hm => by
  rcases hS _ hm with h1 | h1
  · exact h hn a ha h1
  · obtain ⟨b, o, hA, hc⟩ := hs.2 hn
    rw [hA] at ha
    cases ha
    have hl : 0 < l.length := by rw [hs.1]; exact hn
    have := World.block_lt_of_cell? _ _ (hc 0 l[0] (List.getElem?_eq_getElem hl))
    simp at this h1
    omega
theorem VecNw.grown {b : Nat} {v v' : Value} {W W' : World} {t : RV} (h : VecNw b v W t) (hg : W.grownBy W' v.ownBlock) (ha : v'.ownBlock = v.ownBlock ∨ v'.ownBlock = some W.heap.size) : VecNw b v' W' t := by
  have hb : Beside v.ownBlock.toList W W' := (Beside.refl _ W).grown hg fun k hk => .inl (by simp [hk])
  refine ⟨h.1.beside hb h.2.2, h.2.1, outU_next h.2.2 h.1 fun k hk => ?_⟩
  rcases ha with ha | ha
  · rw [ha] at hk
    exact .inl hk
  · rw [ha] at hk
    simp at hk
    exact .inr (by omega)
structure RInv (b j : Nat) (T : List RV) (A : Option Addr) (c : Nat) (W : World) : Prop where
  own : W.ownsRow b 45 3 (.slice A j c) j (rvL T)
  vec : ∀ t ∈ T, VecNw b (.slice A j c) W t
  ok : ∀ t ∈ T, t.r.node < 64 ∧ Vec.Small t.r.H ∧ t.r.time < 9223372036854775808
theorem RInv.beside {b j : Nat} {T : List RV} {A : Option Addr} {c : Nat} {W W' : World} {S : List Nat} (h : RInv b j T A c W) (hb : Beside S W W') (hS : ∀ x ∈ S, x < b) : RInv b j T A c W' :=
  ⟨own_bes8 h.own hb hS, fun t ht => (h.vec t ht).beside hb hS, h.ok⟩
theorem RInv.below {b j : Nat} {T : List RV} {A : Option Addr} {c : Nat} {W W' : World} (h : RInv b j T A c W) (hb : Below W.heap.size W W') : RInv b j T A c W' := h.beside (Beside.of_below hb []) (fun x hx => by cases hx)
theorem RInv.len {b j : Nat} {T : List RV} {A : Option Addr} {c : Nat} {W : World} (h : RInv b j T A c W) : T.length = j := by
  have := h.own.1
  rw [rvL_len] at this
  omega
theorem RInv.more {b j : Nat} {T : List RV} {A A' : Option Addr} {c c' : Nat} {W W' : World} {t : RV} (h : RInv b j T A c W) (hg : W.grownBy W' (Value.slice A j c).ownBlock) (hown : W'.ownsRow b 45 3 (.slice A' (j + 1) c') (j + 1) (rvL (T ++ [t])))
    (ha : (Value.slice A' (j + 1) c').ownBlock = (Value.slice A j c).ownBlock ∨ (Value.slice A' (j + 1) c').ownBlock = some W.heap.size) (ht : VecNw b (.slice A j c) W t) (hok : t.r.node < 64 ∧ Vec.Small t.r.H ∧ t.r.time < 9223372036854775808) : RInv b (j + 1) (T ++ [t]) A' c' W' :=
  ⟨hown, fun s hs => by
    rcases List.mem_append.1 hs with hs | hs
    · exact (h.vec s hs).grown hg ha
    · rw [List.mem_singleton.1 hs]; exact ht.grown hg ha, fun s hs => by
    rcases List.mem_append.1 hs with hs | hs
    · exact h.ok s hs
    · rw [List.mem_singleton.1 hs]; exact hok⟩
/-- The rows lie so. -/
theorem RInv.lie {b j : Nat} {T : List RV} {A : Option Addr} {c : Nat} {W : World} (h : RInv b j T A c W) : ∀ (i : Nat) (r : Rw), (T.map RV.r)[i]? = some r → ∃ b' o, A = some ⟨b', o, none⟩ ∧ RwAt W b' (o + i * 3) r := fun i r hi => by
  rw [List.getElem?_map] at hi
  cases ht : T[i]? with
  | none => rw [ht] at hi; cases hi
  | some t =>
    rw [ht] at hi
    cases hi
    have hl := h.len
    have hil := (List.getElem?_eq_some_iff.1 ht).1
    obtain ⟨g, rfl, hg⟩ := own_at8 h.own (by omega)
    have cell : ∀ k v, k < 3 → t.cells[k]? = some v → W.cell? ⟨g, 0 + i * 3 + k, none⟩ = some v := fun k v hk hv => by
      rw [Nat.zero_add, show i * 3 + k = 0 + (i * 3 + k) by omega, ← add_plain]
      exact h.own.cells (g := g) rfl _ v (by rw [rvL_get T i k t ht hk]; exact hv)
    exact ⟨g, 0, rfl, t.A, t.n, t.c, cell 0 _ (by omega) rfl, cell 1 _ (by omega) rfl, cell 2 _ (by omega) rfl, (h.vec t (List.mem_of_getElem? ht)).1⟩
theorem own_block {w : World} {base size : Nat} {e : TypeId} {v : Value} {n : Nat} {xs : List Value} (h : w.ownsRow base e size v n xs) : ∀ x ∈ v.ownBlock.toList, base ≤ x ∧ x < w.heap.size ∧ ∃ cur f, w.heap[x]? = some (.cells cur e f) := fun x hx => by
  rcases h.2 with ⟨hv, h0⟩ | ⟨g, cap, cur, hv, hg, hh, hr9⟩
  · rw [hv] at hx; simp [Value.ownBlock] at hx
  · rw [hv] at hx
    simp [Value.ownBlock] at hx
    subst hx
    exact ⟨hg, (Array.getElem?_eq_some_iff.1 hh).1, _, _, hh⟩
/-- Rows of other elements stay as they are. -/
theorem own_apart {w w' : World} {b b' s s' : Nat} {e e' : TypeId} {v v' : Value} {n n' : Nat} {xs xs' : List Value} (h : w.ownsRow b e s v n xs) (h' : w.ownsRow b' e' s' v' n' xs') (hne : e ≠ e') (hb : Beside v'.ownBlock.toList w w') : w'.ownsRow b e s v n xs := by
  refine ⟨h.1, ?_⟩
  rcases h.2 with hn | ⟨g, cap, cur, hv, hg, hh, r⟩
  · exact .inl hn
  · refine .inr ⟨g, cap, cur, hv, hg, (hb.block g (Array.getElem?_eq_some_iff.1 hh).1 fun hm => ?_).trans hh, r⟩
    obtain ⟨-, -, cur', f, hh'⟩ := own_block h' g hm
    rw [hh] at hh'
    injection hh' with hh'
    injection hh' with _ he _
    exact hne he
theorem DSt.beside {w W W' : World} {d : Dr} {C : Array Value} {T : List Nat} (h : DSt w W d C) (hb : Beside T W W') (hT : ∀ x ∈ T, w.heap.size + 3 ≤ x) : DSt w W' d C :=
  have := h.size
  ⟨(hb.block _ (by omega) (fun hm => by have := hT _ hm; omega)).trans h.dr, (hb.block _ (by omega) (fun hm => by have := hT _ hm; omega)).trans h.rs, (hb.block _ (by omega) (fun hm => by have := hT _ hm; omega)).trans h.lt, Below.beside h.b hb h.b.size (fun x hx => by have := hT x hx; omega)⟩
theorem small_vec (l : List Nat) : Vec.Small (vecL l) := by
  have h1 := vecL_len l
  refine ⟨by omega, fun i => ?_⟩
  unfold Vec.at_
  rw [List.getD_eq_getElem?_getD]
  cases hi : (vecL l)[i]? with
  | none => exact Nat.zero_le _
  | some z => have := vecL_small (l := l) z (List.mem_of_getElem? hi); show z ≤ _; omega
/-- Predicates of a region that draws its order: the vector; the row; the row in a box. -/
def PVec (b : Nat) (l : List Nat) : Facts.Pred := ⟨fun v w => ∃ A c, v = .slice A l.length c ∧ w.ownsRow b 22 1 (.slice A l.length c) l.length (Vec.us l), fun _ _ _ ⟨A, c, h, ho⟩ hb => ⟨A, c, h, Own.below ho hb (Nat.le_refl _)⟩⟩
def PRow (b : Nat) (x : Int) (l : List Nat) (y : Int) : Facts.Pred := ⟨fun v w => ∃ A c, v = .agg #[.int .i64 x, .slice A l.length c, .int .u64 y] ∧ w.ownsRow b 22 1 (.slice A l.length c) l.length (Vec.us l), fun _ _ _ ⟨A, c, h, ho⟩ hb => ⟨A, c, h, Own.below ho hb (Nat.le_refl _)⟩⟩
def PBox (b : Nat) (x : Int) (l : List Nat) (y : Int) : Facts.Pred := ⟨fun v w => ∃ A c g, v = .slice (some ⟨g, 0, none⟩) 1 1 ∧ w.heap[g]? = some (.cells #[.int .i64 x, .slice A l.length c, .int .u64 y] 45 (0, 0)) ∧ w.ownsRow b 22 1 (.slice A l.length c) l.length (Vec.us l), fun _ _ _ ⟨A, c, g, h, hg, ho⟩ hb => ⟨A, c, g, h, (hb.block g (Array.getElem?_eq_some_iff.1 hg).1).trans hg, Own.below ho hb (Nat.le_refl _)⟩⟩
end Go.Proofs.YthdflbpmabcjlaaDoor.Lt
namespace Go.Proofs.YthdflbpmabcjlaaDoor.Lt
open Go Go.RowKit Go.Proofs.YthdflbpmabcjlaaDoor.Words Go.Proofs.YthdflbpmabcjlaaDoor.Enc Go.Proofs.YthdflbpmabcjlaaDoor.Evt Go.Proofs.YthdflbpmabcjlaaDoor.Made Go.Proofs.YthdflbpmabcjlaaDoor.Seg
set_option linter.unusedVariables false
set_option linter.unusedSimpArgs false

set_option maxRecDepth 100000 in
set_option maxHeartbeats 4000000 in
theorem letter_k3 (w : World) (d : Dr) (lh : List Nat) (S : List Mtx.RowS) (le : List Nat) (lb : List UInt8) (h : DrAt w d lh S le lb) (hk : 1 + d.kd % 7 = 3) :
    Calls Tryd.prog 8 #[.agg (drV d)] w (LetGives w) := by
  have HD := Lib.hid h
  obtain ⟨u0, hu0⟩ : ∃ u, u = (w.alloc (.cells (drV d) 29)).alloc (.cells #[.int .u8 0, .int .i64 0, .int .i64 0, .bool false, .int .u64 0, .slice none 0 0, .slice none 0 0, .slice none 0 0, .int .u64 0, .int .u64 0, .int .u32 0, .int .u64 0, .slice none 0 0, .int .i64 0] 37) := ⟨_, rfl⟩
  obtain ⟨u, hu⟩ : ∃ u, u = u0.alloc (.cells #[.int .u8 (1 + (d.kd : Int) % 7), .int .i64 ((d.fr : Int) % 64), .int .i64 ((d.tt : Int) % 64), .bool d.mine, .int .u64 ((d.ser : Int) % 9223372036854775808), .slice none 0 0, .slice none 0 0, .slice none 0 0, .int .u64 0, .int .u64 0, .int .u32 0, .int .u64 0, .slice none 0 0, .int .i64 0] 37) := ⟨_, rfl⟩
  have hb0 : Below w.heap.size w u0 := by rw [hu0]; exact ((Below.refl _ _).alloc (Nat.le_refl _) _).alloc (by simp) _
  have hz0 : u0.heap.size = w.heap.size + 2 := by rw [hu0]; simp
  have hg0 : u0.heap[w.heap.size]? = some (.cells (drV d) 29 (0, 0)) := by
    rw [hu0, Below.heap_alloc _ _ _ (by simp)]
    exact heap_alloc_new w _
  have hg1 : u0.heap[w.heap.size + 1]? = some (.cells #[.int .u8 0, .int .i64 0, .int .i64 0, .bool false, .int .u64 0, .slice none 0 0, .slice none 0 0, .slice none 0 0, .int .u64 0, .int .u64 0, .int .u32 0, .int .u64 0, .slice none 0 0, .int .i64 0] 37 (0, 0)) := by
    have := heap_alloc_new (w.alloc (.cells (drV d) 29)) (.cells #[.int .u8 0, .int .i64 0, .int .i64 0, .bool false, .int .u64 0, .slice none 0 0, .slice none 0 0, .slice none 0 0, .int .u64 0, .int .u64 0, .int .u32 0, .int .u64 0, .slice none 0 0, .int .i64 0] 37)
    rw [hu0]
    simpa using this
  have hal : Below u0.heap.size u0 u := by rw [hu]; exact (Below.refl _ _).alloc (Nat.le_refl _) _
  have DS : DSt w u d (ltV (bgn d 3) Adr.zero) := ⟨(hal.block _ (by omega)).trans hg0, (hal.block _ (by omega)).trans hg1, by
    have e0 : 1 + (d.kd : Int) % 7 = ((3 : Nat) : Int) := by omega
    have e1 : (d.fr : Int) % 64 = ((d.fr % 64 : Nat) : Int) := by omega
    have e2 : (d.tt : Int) % 64 = ((d.tt % 64 : Nat) : Int) := by omega
    have e3 : (d.ser : Int) % 9223372036854775808 = ((d.ser % 9223372036854775808 : Nat) : Int) := by omega
    rw [hu, e0, e1, e2, e3, ← hz0]; exact heap_alloc_new u0 _, hb0.trans (hal.mono (by omega))⟩
  obtain ⟨c0, c1, c2, c3, c4, c5, c6, c7, c8, c9, c10, c11, c12⟩ := dr_cells hg0
  have hu8 := h.u8s
  have hu64 := h.u64s
  have HU0 := Lib.hid hu0
  have HU := Lib.hid hu
  have HZ0 := Lib.hid hz0
  have HDS := Lib.hid DS
  clear hu0 hu hb0 hz0 hg0 hg1 hal DS h hk
  unfold drV at HU0 ⊢
  go_enter Tryd.func8, Tryd.ntmps8
  go_upto_region 1 with fail
  rw [← HU0.out]
  go_upto_region 2 with fail
  rw [HZ0.out, ← HU.out]
  obtain ⟨d0, d1, d2, d3, d4, d5, d6, d7, d8, d9, d10, d11, d12⟩ := dr_cells HDS.out.dr
  have k0 : u.cell? ⟨w.heap.size + 2, 0, none⟩ = some (.int .u8 3) := (HDS.out.cell 0).trans rfl
  have k5 : u.cell? ⟨w.heap.size + 2, 5, none⟩ = some (.slice none 0 0) := (HDS.out.cell 5).trans rfl
  have f5 := HDS.out.froz 5
  have VC := Lib.hid (vector_any d.Ha d.hn d.hc lh u (HD.out.H.below HDS.out.b) (by have := HD.out.few.1; omega))
  clear HU c0 c1 c2 c3 c4 c5 c6 c7 c8 c9 c10 c11 c12
  obtain ⟨vl, hvl⟩ : ∃ vl, vl = vecL lh := ⟨_, rfl⟩
  obtain ⟨vn, hvn⟩ : ∃ vn, vn = vl.length := ⟨_, rfl⟩
  rw [← hvl, ← hvn] at VC
  have HVN := Lib.hid (And.intro hvl hvn)
  clear hvl hvn
  go_wp2_with fail
  refine VC.out.mono ?_
  rintro e u1 ⟨VA, vc, rfl, own1, hb1⟩
  have D1 := Lib.hid (HDS.out.below hb1)
  have k5' : u1.cell? ⟨w.heap.size + 2, 5, none⟩ = some (.slice none 0 0) := (D1.out.cell 5).trans rfl
  have f5' := D1.out.froz 5
  have D2 : Hid (DSt w (u1.setCell ⟨w.heap.size + 2, 5, none⟩ (.slice VA vn vc)) d (ltV { bgn d 3 with H := vl } { Adr.zero with Ha := VA, hn := vn, hc := vc })) := Lib.hid (D1.out.set 5 _)
  have OW2 : Hid ((u1.setCell ⟨w.heap.size + 2, 5, none⟩ (.slice VA vn vc)).ownsRow (w.heap.size + 3) 22 1 (.slice VA vn vc) vn (Vec.us vl)) := Lib.hid (Own.beside (Own.lower own1 (by have := HDS.out.size; omega)) ((Beside.refl [w.heap.size + 2] u1).setCell (by simp) _) (by simp))
  clear own1 hb1 VC d0 d1 d2 d3 d4 d5 d6 d7 d8 d9 d10 d11 d12 k0 k5 f5
  go_upto_region 14 with fail
  generalize u1.setCell ⟨w.heap.size + 2, 5, none⟩ (.slice VA vn vc) = u2 at D2 OW2 ⊢
  clear k5' f5' D1 HDS
  have HVS : Hid (Vec.Small vl) := Lib.hid (by
    have h1 := vecL_len lh
    rw [← HVN.out.1] at h1
    refine ⟨by omega, fun i => ?_⟩
    unfold Vec.at_
    rw [List.getD_eq_getElem?_getD]
    cases hi : vl[i]? with
    | none => exact Nat.zero_le _
    | some z => have := vecL_small (l := lh) z (by rw [← HVN.out.1]; exact List.mem_of_getElem? hi); show z ≤ _; omega)
  obtain ⟨d0, d1, d2, d3, d4, d5, d6, d7, d8, d9, d10, d11, d12⟩ := dr_cells D2.out.dr
  obtain ⟨N, hN⟩ : ∃ N, N = min d.en 60 := ⟨_, rfl⟩
  have FE := Lib.hid (Ord.feeds_all d.Ea d.en d.ec 3 N le u2 (HD.out.E.below D2.out.b) hN (by omega) (by omega))
  have HN6 := Lib.hid (show N ≤ 60 by omega)
  clear hN
  go_wp2_with fail
  refine FE.out.mono ?_
  rintro e u3 ⟨L, T, rfl, hfd⟩
  have lie := Ord.feeds_lie hfd
  have hL3 := hfd.lenL
  have hfew := hfd.few
  have WH := Ord.refWhole_any (some ⟨u2.heap.size, 0, none⟩) 3 L u3 lie (Nat.le_refl _) (by rw [hL3]; omega) (by rw [hfew]; have := HN6.out; omega)
  rw [hL3, hfew] at WH
  have D3 := Lib.hid (D2.out.below hfd.below)
  have EV := Lib.hid (fun (r : EvS) (hr : r ∈ Ord.flat L) => Ord.feeds_ev hfd (by omega) (by have := HN6.out; omega) hr)
  have OW3 := Lib.hid (Own.below OW2.out hfd.below (Nat.le_refl _))
  have HB23 := Lib.hid (And.intro hfd.below.size hfew)
  have NB := Lib.hid WH
  clear lie hfd WH FE hL3 hfew d0 d1 d2 d3 d4 d5 d6 d7 d8 d9 d10 d11 d12
  go_wp2_with fail
  refine NB.out.mono ?_
  rintro e u4 ⟨Aq, cq, R, rfl, own4, hperm, -, hb4⟩
  have D4 := Lib.hid (D3.out.below hb4)
  have OW4 := Lib.hid (Own.below OW3.out hb4 (Nat.le_refl _))
  have hsz := D2.out.size
  have EV4 : Hid (∀ r ∈ R, Right r.e ∧ r.e.num < 18446744073709551616 ∧ (evL r.e).length ≤ 2000 ∧ Sees u4 r.A r.n r.e.text ∧ Fresh (w.heap.size + 3) r.A r.n) := Lib.hid fun r hr => by
    obtain ⟨q1, q2, q3, q4⟩ := EV.out r (hperm.mem_iff.1 hr)
    refine ⟨q1, q2, q3, (Ord.box_sees q4).below hb4, fun hn a ha => ?_⟩
    rcases q4 with ⟨z, -⟩ | ⟨tb, uu, z1, z2, z3, z4, z5, z6⟩
    · omega
    · rw [z1] at ha; cases ha; show w.heap.size + 3 ≤ tb; omega
  have EO : Hid (u4.ownsRow (w.heap.size + 3) 52 8 (.slice Aq N cq) N (rowsL R)) := Lib.hid (by
    refine ⟨own4.1, ?_⟩
    rcases own4.2 with hz | ⟨g, cap, cur, hv, hg, hh, rr⟩
    · exact .inl hz
    · exact .inr ⟨g, cap, cur, hv, by have := HB23.out.1; omega, hh, rr⟩)
  have HRN : Hid (R.length = N) := Lib.hid (by rw [hperm.length_eq]; exact HB23.out.2)
  have k7 : u4.cell? ⟨w.heap.size + 2, 7, none⟩ = some (.slice none 0 0) := (D4.out.cell 7).trans rfl
  have f7 := D4.out.froz 7
  have DS2 : Hid (DSt w (u4.setCell ⟨w.heap.size + 2, 7, none⟩ (.slice Aq N cq)) d (ltV { bgn d 3 with H := vl, E := R.map EvS.e } { Adr.zero with Ha := VA, hn := vn, hc := vc, Ea := Aq, en := N, ec := cq })) := Lib.hid (D4.out.set 7 _)
  have hbs : Beside [w.heap.size + 2] u4 (u4.setCell ⟨w.heap.size + 2, 7, none⟩ (.slice Aq N cq)) := (Beside.refl [w.heap.size + 2] u4).setCell (p := ⟨w.heap.size + 2, 7, none⟩) (by simp) _
  have HL : Hid (Lies w (u4.setCell ⟨w.heap.size + 2, 7, none⟩ (.slice Aq N cq)) { bgn d 3 with H := vl, E := R.map EvS.e } { Adr.zero with Ha := VA, hn := vn, hc := vc, Ea := Aq, en := N, ec := cq } R) := Lib.hid fun W' hb => ⟨Vec.SeesU.of_own (Own.beside (Own.beside OW4.out hbs (by simp)) hb (by simp)), rfl, (bgn_at W' d 3).rows, by show N = (R.map EvS.e).length; rw [List.length_map, HRN.out], rfl, ⟨RawEv.of_own (own_bes8 (own_bes8 EO.out hbs (by simp)) hb (by simp)), fun r hr => by
    obtain ⟨-, -, -, q4, q5⟩ := EV4.out r hr
    exact (q4.beside hbs (q5.out (by simp))).beside hb (q5.out (by simp))⟩, (bgn_at W' d 3).bytes⟩
  have hok : Ok { bgn d 3 with H := vl, E := R.map EvS.e } := by
    have := bgn_ok d (k := 3) (by omega)
    exact ⟨this.kind, this.ends, this.serial, HVS.out, this.rows, ⟨by show (R.map EvS.e).length ≤ _; rw [List.length_map, HRN.out]; have := HN6.out; omega, fun e he => by
      obtain ⟨r, hr, rfl⟩ := List.mem_map.1 he
      obtain ⟨q1, q2, q3, -⟩ := EV4.out r hr
      exact ⟨q1, q2, q3⟩⟩, this.time, this.size, this.bytes⟩
  have HOK := Lib.hid hok
  clear hok hbs hperm own4 hb4 NB hsz
  go_upto_region 24 with fail
  generalize u4.setCell ⟨w.heap.size + 2, 7, none⟩ (.slice Aq N cq) = u5 at DS2 HL ⊢
  clear k7 f7
  have GL := Lib.hid DS2.out.lt
  have GR := Lib.hid DS2.out.rs
  have BB := Lib.hid DS2.out.b
  go_wp2_with (first
    | (refine wpList_getRow rfl 37 (.tmp 3) rfl (w.heap.size + 2) 37 (ltV { bgn d 3 with H := vl, E := R.map EvS.e } { Adr.zero with Ha := VA, hn := vn, hc := vc, Ea := Aq, en := N, ec := cq }) (0, 0) _ rfl ?g1 Tryd.underlying37 rfl (by kernel_rfl) ?_)
    | (refine wpList_putRow rfl 37 (.tmp 2) (.tmp 118) rfl (w.heap.size + 1) 37 #[.int .u8 0, .int .i64 0, .int .i64 0, .bool false, .int .u64 0, .slice none 0 0, .slice none 0 0, .slice none 0 0, .int .u64 0, .int .u64 0, .int .u32 0, .int .u64 0, .slice none 0 0, .int .i64 0] (ltV { bgn d 3 with H := vl, E := R.map EvS.e } { Adr.zero with Ha := VA, hn := vn, hc := vc, Ea := Aq, en := N, ec := cq }) rfl rfl ?g2 (by kernel_rfl) rfl (by simp [ltV, Value.oneCell']) ?_))
  case g1 => exact GL.out
  case g2 => exact GR.out
  intro W' hW' hbe
  have FIN := Lib.hid (show LetGives w (.returned (.agg (ltV { bgn d 3 with H := vl, E := R.map EvS.e } { Adr.zero with Ha := VA, hn := vn, hc := vc, Ea := Aq, en := N, ec := cq }))) W' from ⟨_, _, _, rfl, HL.out W' hbe, HOK.out, Below.beside BB.out hbe BB.out.size (by simp)⟩)
  obtain ⟨c0, c1, c2, c3, c4, c5, c6, c7, c8, c9, c10, c11, c12, c13⟩ := lt_cells hW'
  clear hW' hbe
  go_wp2
  refine bodyPost_ret (v := .agg (ltV { bgn d 3 with H := vl, E := R.map EvS.e } { Adr.zero with Ha := VA, hn := vn, hc := vc, Ea := Aq, en := N, ec := cq })) ?_ rfl FIN.out
  simp [results, Tryd.results8, go_sem, ltV, c0, c1, c2, c3, c4, c5, c6, c7, c8, c9, c10, c11, c12, c13]
end Go.Proofs.YthdflbpmabcjlaaDoor.Lt
