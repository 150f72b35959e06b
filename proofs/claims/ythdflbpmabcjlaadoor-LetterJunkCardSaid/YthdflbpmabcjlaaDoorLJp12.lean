/- Layer 16: package letter's reader of events. Layer 16: package letter's takeFields: how it stands. Layer 16: package letter's takeFields, kind 1. Layer 16: package letter's takeFields, kind 2. -/
import Derived.Maps.AppendAt
import Derived.Test.YthdflbpmabcjlaaDoorLJp11
namespace Go.Proofs.YthdflbpmabcjlaaDoor.Lt
open Go Go.RowKit Go.Proofs.YthdflbpmabcjlaaDoor.Words Go.Proofs.YthdflbpmabcjlaaDoor.Enc Go.Proofs.YthdflbpmabcjlaaDoor.Evt Go.Proofs.YthdflbpmabcjlaaDoor.Made Go.Proofs.YthdflbpmabcjlaaDoor.Tape Go.Proofs.YthdflbpmabcjlaaDoor.Seg
set_option linter.unusedVariables false
set_option linter.unusedSimpArgs false

theorem clipEv (A : Option Addr) (n c : Nat) (w : World) (hc : n ≤ c) : Calls Tryd.prog 67 #[.slice A n c] w fun e w' => e = .returned (.slice A n n) ∧ w' = w := by
  have hci : (n : Int) ≤ (c : Int) := by omega
  cases A with
  | none =>
    go_enter Tryd.func67, Tryd.ntmps67
    go_wp2
    go_ret
    exact ⟨rfl, rfl⟩
  | some a =>
    go_enter Tryd.func67, Tryd.ntmps67
    go_wp2
    go_ret
    refine ⟨?_, rfl⟩
    first
      | rfl
      | (simp; try omega)
theorem own_bes8 {w w' : World} {base size : Nat} {S : List Nat} {e : TypeId} {v : Value} {n : Nat} {xs : List Value} (h : w.ownsRow base e size v n xs) (hb : Beside S w w') (hS : ∀ x ∈ S, x < base) : w'.ownsRow base e size v n xs := by
  refine ⟨h.1, ?_⟩
  rcases h.2 with hn | ⟨g, cap, cur, hv, hg, hh, r⟩
  · exact .inl hn
  · exact .inr ⟨g, cap, cur, hv, hg, by rw [hb.block g (Array.getElem?_eq_some_iff.1 hh).1 (fun hm => by have := hS g hm; omega)]; exact hh, r⟩
/-- A text that is new, outside the row of events. -/
def TextNw (b : Nat) (v : Value) (W : World) (r : EvS) : Prop := Sees W r.A r.n r.e.text ∧ Fresh b r.A r.n ∧ Out v.ownBlock.toList r.A r.n
theorem TextNw.beside {b : Nat} {v : Value} {S : List Nat} {W W' : World} {r : EvS} (h : TextNw b v W r) (hb : Beside S W W') (hS : ∀ k ∈ S, k < b) : TextNw b v W' r := ⟨h.1.beside hb (h.2.1.out hS), h.2⟩
theorem TextNw.grown {b : Nat} {v v' : Value} {W W' : World} {r : EvS} (h : TextNw b v W r) (hg : W.grownBy W' v.ownBlock) (ha : v'.ownBlock = v.ownBlock ∨ v'.ownBlock = some W.heap.size) : TextNw b v' W' r := by
  have hb : Beside v.ownBlock.toList W W' := (Beside.refl _ W).grown hg fun k hk => .inl (by simp [hk])
  refine ⟨h.1.beside hb h.2.2, h.2.1, Out.next h.2.2 h.1 fun k hk => ?_⟩
  rcases ha with ha | ha
  · rw [ha] at hk
    exact .inl hk
  · rw [ha] at hk
    simp at hk
    exact .inr (by omega)
/-- While the loop runs. -/
structure EvsIn (b j : Nat) (T : List EvS) (A : Option Addr) (c : Nat) (W : World) : Prop where
  own : W.ownsRow b 52 8 (.slice A j c) j (rowsL T)
  text : ∀ r ∈ T, TextNw b (.slice A j c) W r
theorem EvsIn.beside {b j : Nat} {T : List EvS} {A : Option Addr} {c : Nat} {W W' : World} {S : List Nat} (h : EvsIn b j T A c W) (hb : Beside S W W') (hS : ∀ x ∈ S, x < b) : EvsIn b j T A c W' :=
  ⟨own_bes8 h.own hb hS, fun r hr => (h.text r hr).beside hb hS⟩
theorem EvsIn.below {b j : Nat} {T : List EvS} {A : Option Addr} {c : Nat} {W W' : World} (h : EvsIn b j T A c W) (hb : Below W.heap.size W W') : EvsIn b j T A c W' := h.beside (Beside.of_below hb []) (fun x hx => by cases hx)
theorem EvsIn.more {b j : Nat} {T : List EvS} {A A' : Option Addr} {c c' : Nat} {W W' : World} {r : EvS} (h : EvsIn b j T A c W) (hg : W.grownBy W' (Value.slice A j c).ownBlock) (hown : W'.ownsRow b 52 8 (.slice A' (j + 1) c') (j + 1) (rowsL (T ++ [r])))
    (ha : (Value.slice A' (j + 1) c').ownBlock = (Value.slice A j c).ownBlock ∨ (Value.slice A' (j + 1) c').ownBlock = some W.heap.size) (ht : TextNw b (.slice A j c) W r) : EvsIn b (j + 1) (T ++ [r]) A' c' W' :=
  ⟨hown, fun s hs => by
    rcases List.mem_append.1 hs with hs | hs
    · exact (h.text s hs).grown hg ha
    · rw [List.mem_singleton.1 hs]; exact ht.grown hg ha⟩
theorem evsN_step (k : Nat) {l l1 T : List UInt8} {e : Ev} (h1 : textG 4194304 l = .ok T l1) (h2 : decG T = .inr e) : evsN (k + 1) l = (evsN k l1).bind fun es l2 => .ok (e :: es) l2 := by
  rw [evsN, h1]; simp only [gT, Tk.bind]
  rw [h2]
theorem evsN_no (k : Nat) {l l1 T : List UInt8} {E : Nat} (h1 : textG 4194304 l = .ok T l1) (h2 : decG T = .inl E) : evsN (k + 1) l = .no := by
  rw [evsN, h1]; simp only [gT, Tk.bind]
  rw [h2]
theorem evsN_bad (k : Nat) {l : List UInt8} {E : Nat} (h1 : textG 4194304 l = .bad E) : evsN (k + 1) l = .bad E := by
  rw [evsN, h1]; rfl
/-- What takeEvents answers. -/
def EvsGives (PA : Option Addr) (PN : Nat) (L : List UInt8) (t : Nat) (g : Tk (List Ev)) (w : World) (e : Ending) (w' : World) : Prop :=
  match g with
  | .bad E => e = fault E ∧ Beside [t] w w'
  | .no => e = .returned (.tuple #[.slice none 0 0, .bool false]) ∧ Beside [t] w w'
  | .ok es r => ∃ A S, e = .returned (.tuple #[.slice A es.length es.length, .bool true]) ∧ es = S.map EvS.e ∧ Ord.SameR w' A S ∧ (∀ r ∈ S, Fresh w.heap.size r.A r.n) ∧ (0 < es.length → ∃ g, A = some ⟨g, 0, none⟩ ∧ w.heap.size ≤ g) ∧ TapeOn PA PN L w' t r ∧ Beside [t] w w'
set_option maxRecDepth 100000 in
set_option maxHeartbeats 4000000 in
theorem takeEvents_any (PA : Option Addr) (PN : Nat) (L : List UInt8) (t : Nat) (l : List UInt8) (w : World) (ht : TapeOn PA PN L w t l) (hP : Sees w PA PN L) (hll : l.length ≤ 100000) :
    Calls Tryd.prog 58 #[.pointer (some ⟨t, 0, none⟩)] w (EvsGives PA PN L t (evsT l) w) := by
  obtain ⟨i, hi, hzz, hsz, hby⟩ := info_parts infoE
  have hsf := store_float Tryd.prog
  have htl := ht.lt
  have hout : Out [t] PA PN := by
    obtain ⟨A', n', c', hb', -⟩ := ht
    exact sees_off hb' hP
  have SEE : Hid (∀ W, Beside [t] w W → Sees W PA PN L) := Lib.hid fun W hb => hP.beside hb hout
  obtain ⟨G, hG⟩ : ∃ G, G = evsT l := ⟨_, rfl⟩
  rw [← hG]
  unfold evsT at hG
  cases g1 : numG 9223372036854775807 l with
  | bad E =>
    rw [g1] at hG
    have NB := Lib.hid (num_bad t 9223372036854775807 E l w (ht.at_ hP) (by omega) g1)
    obtain rfl : G = .bad E := hG
    clear g1 ht hP
    go_enter Tryd.func58, Tryd.ntmps58
    go_wp2_with fail
    refine NB.out.mono ?_
    rintro e w1 ⟨rfl, hbb⟩
    have HB := Lib.hid hbb
    clear hbb NB
    unfold fault
    go_wp2
    exact ⟨rfl, rfl, HB.out⟩
  | ok N l1 =>
    have hN64 : N ≤ 9223372036854775807 := (Vec.numG_enc g1).2
    have hl1 : l1.length ≤ l.length := by rw [(Vec.numG_enc g1).1]; simp
    rw [g1] at hG
    have HG := Lib.hid (show G = evsN N l1 from hG)
    have NB := Lib.hid (num_ok t 9223372036854775807 N l l1 w ht hP (by omega) g1)
    clear g1 ht hP hG
    go_enter Tryd.func58, Tryd.ntmps58
    go_wp2_with fail
    refine NB.out.mono ?_
    rintro e w1 ⟨rfl, ht1, be1⟩
    have INV := Lib.hid (And.intro (⟨own_nil8 w1 w.heap.size 52, fun r hr => by cases hr⟩ : EvsIn w.heap.size 0 [] none 0 w1) (And.intro ht1 be1))
    clear NB ht1 be1
    go_wp2_with fail
    go_loopw [4, 9] (fun x y wr => ∃ (j c : Nat) (A : Option Addr) (T : List EvS) (r : List UInt8), x = .slice A j c ∧ y = .int .u64 (j : Int) ∧ j ≤ N ∧ j + r.length ≤ l.length ∧ Hid (T.length = j ∧ G = (evsN (N - j) r).bind fun u q => .ok (T.map EvS.e ++ u) q) ∧ Hid (EvsIn w.heap.size j T A c wr ∧ TapeOn PA PN L wr t r ∧ Beside [t] w wr)) (fun _ y _ => N - (intOf y).toNat)
    case atStart => exact ⟨0, 0, none, [], l1, rfl, rfl, by omega, by omega, Lib.hid ⟨rfl, by rw [HG.out]; cases evsN N l1 <;> rfl⟩, INV⟩
    case round =>
      obtain ⟨j, c, A, T, r, rfl, rfl, hj, hr, HX, HI⟩ := hrel
      have hPr := SEE.out wr HI.out.2.2
      have hwz := HI.out.2.2.size
      by_cases hlt : j < N
      · have h1 : (j : Int) < (N : Int) := by omega
        have hwj : IntKind.u64.wrap ((j : Int) + 1) = (j : Int) + 1 := by have := wrap_in (j + 1) (by omega); simpa using this
        obtain ⟨k, hk⟩ : ∃ k, N - j = k + 1 := ⟨N - j - 1, by omega⟩
        have HX1 := Lib.hid (show G = (evsN (k + 1) r).bind fun u q => .ok (T.map EvS.e ++ u) q by rw [← hk]; exact HX.out.2)
        cases gx : textG 4194304 r with
        | bad E =>
          obtain rfl : G = .bad E := by rw [HX1.out, evsN_bad k gx]; rfl
          have NB := Lib.hid (text_bad t 4194304 E r wr (HI.out.2.1.at_ hPr) (by omega) (by omega) gx)
          clear hPr gx HX1 HX hk HG INV
          go_wp2_with fail
          refine NB.out.mono ?_
          rintro e w3 ⟨rfl, hbb⟩
          have HB := Lib.hid (HI.out.2.2.trans hbb fun x hx => .inl hx)
          clear hbb NB
          unfold fault
          go_wp2
          exact ⟨rfl, rfl, HB.out⟩
        | ok q r1 =>
        have hq := textG_enc gx
        have hr1 : j + 1 + r1.length ≤ l.length := by have h2 := congrArg List.length hq.1; have h3 := enc_pos q.length; simp only [List.length_append] at h2; omega
        have hql : q.length ≤ 100000 := by have h2 := congrArg List.length hq.1; simp only [List.length_append] at h2; omega
        have NB := Lib.hid (text_ok t 4194304 q r r1 wr HI.out.2.1 hPr (by omega) (by omega) gx)
        have GX := Lib.hid gx
        clear gx hq hPr
        go_wp2_with fail
        refine NB.out.mono ?_
        rintro e w3 ⟨B3, m3, k3, rfl, own3, ht3, hb3⟩
        have HI3 := Lib.hid (And.intro (HI.out.1.beside hb3 (by simp; omega)) (And.intro ht3 (HI.out.2.2.trans hb3 fun x hx => .inl hx)))
        have DC := decode_any B3 m3 k3 q w3 own3.sees own3.cap.1 (by have := own3.sees.1; omega)
        have hw3 := hb3.size
        clear own3 ht3 hb3 NB HI
        cases gd : decG q with
        | inl E =>
          rw [gd] at DC
          have hE := decG_ne gd
          obtain rfl : G = .no := by rw [HX1.out, evsN_no k GX.out gd]; rfl
          have NB := Lib.hid DC
          have d2 : ((E : Int) != 0) = true := by rw [bne_iff_ne]; omega
          clear DC gd HX1 HX hk HG INV GX hE
          go_wp2_with fail
          refine NB.out.mono ?_
          rintro e w4 ⟨rfl, hb4⟩
          have HB := Lib.hid (HI3.out.2.2.below hb4)
          clear hb4 NB
          unfold zeroRow
          go_wp2
          go_returns
          exact ⟨rfl, by first | exact HB.out.alloc _ | exact HB.out⟩
        | inr ev =>
          rw [gd] at DC
          have GD := Lib.hid gd
          have NB := Lib.hid DC
          have HX2 : Hid (∀ x : EvS, x.e = ev → (T ++ [x]).length = j + 1 ∧ G = (evsN (N - (j + 1)) r1).bind fun u q => .ok ((T ++ [x]).map EvS.e ++ u) q) := Lib.hid fun x hx => ⟨by simp [HX.out.1], by
            rw [HX1.out, show N - (j + 1) = k by omega, evsN_step k GX.out GD.out]
            cases evsN k r1 with
            | bad E => rfl
            | no => rfl
            | ok u q => simp [Tk.bind, hx]⟩
          clear DC gd HX1 HX hk HG INV GX GD
          go_wp2_with fail
          refine NB.out.mono ?_
          rintro e w4 ⟨At, nt, ct, rfl, hs4, -, -, hfr4, hb4⟩
          have HI4 := Lib.hid (And.intro (HI3.out.1.below hb4) (And.intro (HI3.out.2.1.keep (hb4.block _ HI3.out.2.1.lt)) (HI3.out.2.2.below hb4)))
          have HT4 : Hid (TextNw w.heap.size (.slice A j c) w4 ⟨ev, At, nt, ct⟩) := Lib.hid ⟨hs4, fun hn a ha => by have := hfr4 hn a ha; omega, hfr4.out fun x hx => by
            have h9 := HI3.out.1.own
            rcases h9.2 with ⟨hv, h0⟩ | ⟨g, cap, cur, hv, hg, hh, hr9⟩
            · rw [hv] at hx; simp [Value.ownBlock] at hx
            · rw [hv] at hx
              simp [Value.ownBlock] at hx
              subst hx
              exact (Array.getElem?_eq_some_iff.1 hh).1⟩
          clear hs4 hfr4 hb4 NB HI3
          have f5 := heap_alloc_new w4 (.cells #[.int .i64 ev.writer, .int .u64 (ev.seq : Int), .int .u64 (ev.time : Int), .int .u8 (ev.kind : Int), .string ev.key, .slice At nt ct, .float .f64 ev.num, .int .i64 ev.node] 52)
          have hal := (Below.refl w4.heap.size w4).alloc (Nat.le_refl _) (.cells #[.int .i64 ev.writer, .int .u64 (ev.seq : Int), .int .u64 (ev.time : Int), .int .u8 (ev.kind : Int), .string ev.key, .slice At nt ct, .float .f64 ev.num, .int .i64 ev.node] 52)
          have HI5 := Lib.hid (And.intro (HI4.out.1.below hal) (And.intro (HI4.out.2.1.keep (hal.block _ HI4.out.2.1.lt)) (HI4.out.2.2.below hal)))
          have HT5 := Lib.hid (HT4.out.beside (Beside.of_below hal []) (fun x hx => by cases hx))
          obtain ⟨k0, k1, k2, k3, k4, k5, k6, k7⟩ := box8 f5
          have hw5 : w.heap.size ≤ w4.heap.size := HI4.out.2.2.size
          unfold Ev.val
          clear f5 hal HI4 HT4
          generalize hW5 : w4.alloc (.cells #[.int .i64 ev.writer, .int .u64 (ev.seq : Int), .int .u64 (ev.time : Int), .int .u8 (ev.kind : Int), .string ev.key, .slice At nt ct, .float .f64 ev.num, .int .i64 ev.node] 52) = w5 at k0 k1 k2 k3 k4 k5 k6 k7 HI5 HT5
          have HW5 := Lib.hid hW5
          have hz5 : w5.heap.size = w4.heap.size + 1 := by rw [← hW5]; simp
          have HZ5 := Lib.hid hz5
          have hEo := fun (o : Obj) => own_below8 HI5.out.1.own (Below.alloc (Below.refl w5.heap.size w5) (Nat.le_refl _) o) (Nat.le_refl _)
          clear hW5 hz5
          go_upto_region 7 with fail
          rw [HW5.out]
          go_wp2_with (first | (at_builtin; refine wpList_append_own_at _ rfl _ _ 34 rfl w.heap.size 52 i zeroEv 8 88 Tryd.underlying34 hi hzz hsz hby rfl (by decide) (.slice A j c) j (rowsL T) rfl (hEo _) ⟨w5.heap.size, 0, none⟩ 1 1 (EvS.cells ⟨ev, At, nt, ct⟩) rfl rfl ?c1 ?c2 ?c3 ?c4 ?c5 ?_))
          case c1 =>
            intro jj uu hjj
            rw [add_plain, Nat.zero_add, cell_of_row _ _ _ _ _ _ (heap_alloc_new w5 _)]
            rw [← hjj, ← Array.getElem?_toList]
            rfl
          case c2 => exact EvS.one _
          case c3 => unfold maxLen; omega
          case c4 => omega
          case c5 => have := HZ5.out; simp; omega
          intro v' w6 hown6 hgrow6 _ hat6
          obtain ⟨A6, c6, rfl, hc6⟩ := own_shape8 hown6
          have hown7 : w6.ownsRow w.heap.size 52 8 (.slice A6 (j + 1) c6) (j + 1) (rowsL (T ++ [⟨ev, At, nt, ct⟩])) := by
            rw [rowsL_append]
            simpa [rowsL] using hown6
          have hal6 := (Below.refl w5.heap.size w5).alloc (Nat.le_refl _) (.cells #[.int .i64 ev.writer, .int .u64 (ev.seq : Int), .int .u64 (ev.time : Int), .int .u8 (ev.kind : Int), .string ev.key, .slice At nt ct, .float .f64 ev.num, .int .i64 ev.node] 52)
          have hI6 := HI5.out.1.below hal6
          have hT6 := HT5.out.beside (Beside.of_below hal6 []) (fun x hx => by cases hx)
          have hM := hI6.more hgrow6 hown7 (hat6.imp id fun h => h.trans (by simp)) hT6
          have hbb := (Beside.refl (Value.slice A j c).ownBlock.toList _).grown hgrow6 fun k hk => .inl (by simp [hk])
          have hlow : ∀ x ∈ (Value.slice A j c).ownBlock.toList, w.heap.size ≤ x := fun x hx => by
            rcases hI6.own.2 with ⟨hv, h0⟩ | ⟨g, cap, cur, hv, hg, hh, hr9⟩
            · rw [hv] at hx; simp [Value.ownBlock] at hx
            · rw [hv] at hx
              simp [Value.ownBlock] at hx
              subst hx
              exact hg
          have hB6 := (HI5.out.2.2.below hal6).trans hbb fun x hx => .inr (hlow x hx)
          have hK6 := (HI5.out.2.1.keep (hal6.block _ HI5.out.2.1.lt)).keep (hbb.block t (by have := HI5.out.2.1.lt; simp; omega) (fun hx => by have := hlow t hx; omega))
          have FIN := Lib.hid (And.intro hM (And.intro hK6 hB6))
          have HX3 := Lib.hid (HX2.out ⟨ev, At, nt, ct⟩ rfl)
          clear hown6 hgrow6 hat6 hown7 hal6 hI6 hT6 hM hbb hlow hB6 hK6 hEo k0 k1 k2 k3 k4 k5 k6 k7 HX2 HI5 HT5
          go_wp2
          go_roundw
          case rel => exact ⟨j + 1, c6, A6, T ++ [⟨ev, At, nt, ct⟩], r1, rfl, by simp, by omega, by omega, HX3, FIN⟩
          case measure => simp [intOf]; omega
      · obtain rfl : j = N := by omega
        have hG2 : G = .ok (T.map EvS.e) r := by rw [HX.out.2, Nat.sub_self]; simp [evsN, Tk.bind]
        have FIN := HI
        have hTl := HX.out.1
        have hcap := (own_cap8 HI.out.1.own).1
        subst hG2
        clear HI HX hPr HG INV
        go_wp2_with fail
        refine (clipEv A j c wr hcap).mono ?_
        rintro e w5 ⟨rfl, rfl⟩
        have HTL := Lib.hid hTl
        clear hTl
        go_wp2
        go_returns
        have hml : (T.map EvS.e).length = j := by rw [List.length_map]; exact HTL.out
        refine ⟨A, T, by rw [hml]; rfl, rfl, ⟨RawEv.of_own FIN.out.1.own, fun r hr => (FIN.out.1.text r hr).1⟩, fun r hr => (FIN.out.1.text r hr).2.1, fun hn => own_at8 FIN.out.1.own (by omega), FIN.out.2.1, FIN.out.2.2⟩
end Go.Proofs.YthdflbpmabcjlaaDoor.Lt
namespace Go.Proofs.YthdflbpmabcjlaaDoor.Lt
open Go Go.RowKit Go.Proofs.YthdflbpmabcjlaaDoor.Words Go.Proofs.YthdflbpmabcjlaaDoor.Enc Go.Proofs.YthdflbpmabcjlaaDoor.Evt Go.Proofs.YthdflbpmabcjlaaDoor.Made Go.Proofs.YthdflbpmabcjlaaDoor.Tape Go.Proofs.YthdflbpmabcjlaaDoor.Seg
set_option linter.unusedVariables false
set_option linter.unusedSimpArgs false

/-- A letter of which the kind's fields are not read yet. -/
def x0 (k s d : Nat) (m : Bool) (q : Nat) : Lt := { zeroL with kind := k, src := s, dst := d, mine := m, serial := q }
/-- A row of a letter, its numbers from block B on. -/
def RwB (B : Nat) (w : World) (b o : Nat) (r : Rw) : Prop := ∃ A n c, w.cell? ⟨b, o, none⟩ = some (.int .i64 (r.node : Int)) ∧ w.cell? ⟨b, o + 1, none⟩ = some (.slice A n c) ∧ w.cell? ⟨b, o + 2, none⟩ = some (.int .u64 (r.time : Int)) ∧ Vec.SeesU w A n r.H ∧ Fresh B A n
/-- A letter lies in blocks from B on. -/
structure LtB (B : Nat) (w : World) (x : Lt) (v : Adr) (S : List EvS) : Prop where
  H : Vec.SeesU w v.Ha v.hn x.H
  hf : Fresh B v.Ha v.hn
  rn : v.rn = x.rows.length
  rows : ∀ (j : Nat) (r : Rw), x.rows[j]? = some r → ∃ b o, v.Ra = some ⟨b, o, none⟩ ∧ B ≤ b ∧ RwB B w b (o + j * 3) r
  en : v.en = x.E.length
  ev : x.E = S.map EvS.e
  raw : RawEv w v.Ea S
  ef : Fresh B v.Ea v.en
  text : ∀ r ∈ S, Sees w r.A r.n r.e.text ∧ Fresh B r.A r.n
  bytes : Sees w v.Ba v.bn x.bytes
  bf : Fresh B v.Ba v.bn
theorem LtB.at_ {B : Nat} {w : World} {x : Lt} {v : Adr} {S : List EvS} (h : LtB B w x v S) : LtAt w x v S :=
  ⟨h.H, h.rn, fun j r hj => by obtain ⟨b, o, h1, _, A, n, c, q1, q2, q3, q4, _⟩ := h.rows j r hj; exact ⟨b, o, h1, A, n, c, q1, q2, q3, q4⟩, h.en, h.ev, ⟨h.raw, fun r hr => (h.text r hr).1⟩, h.bytes⟩
theorem LtB.beside {B : Nat} {w w' : World} {x : Lt} {v : Adr} {S : List EvS} (h : LtB B w x v S) {T : List Nat} (hb : Beside T w w') (hT : ∀ y ∈ T, y < B) : LtB B w' x v S :=
  ⟨h.H.beside hb (h.hf.out hT), h.hf, h.rn, fun j r hj => by
    obtain ⟨b, o, h1, h2, A, n, c, q1, q2, q3, q4, q5⟩ := h.rows j r hj
    have hbT : b ∉ T := fun hm => by have := hT b hm; omega
    exact ⟨b, o, h1, h2, A, n, c, hb.cell q1 hbT, hb.cell q2 hbT, hb.cell q3 hbT, q4.beside hb (q5.out hT), q5⟩, h.en, h.ev, fun h0 => by
    obtain ⟨b, o, h1, h2⟩ := h.raw h0
    have hl : 0 < v.en := by have h3 := h.en; have h4 := congrArg List.length h.ev; rw [List.length_map] at h4; omega
    have := h.ef hl _ h1
    exact ⟨b, o, h1, fun j u hu => hb.cell (h2 j u hu) (fun hm => by have h5 := hT _ hm; simp at this h5; omega)⟩, h.ef, fun r hr => ⟨(h.text r hr).1.beside hb ((h.text r hr).2.out hT), (h.text r hr).2⟩, h.bytes.beside hb (h.bf.out hT), h.bf⟩
theorem LtB.below {B : Nat} {w w' : World} {x : Lt} {v : Adr} {S : List EvS} (h : LtB B w x v S) (hb : Below w.heap.size w w') : LtB B w' x v S := h.beside (Beside.of_below hb []) (fun y hy => by cases hy)
theorem LtB.lower {B B' : Nat} {w : World} {x : Lt} {v : Adr} {S : List EvS} (h : LtB B w x v S) (hB : B' ≤ B) : LtB B' w x v S :=
  have low : ∀ {A : Option Addr} {n : Nat}, Fresh B A n → Fresh B' A n := fun h hn a ha => Nat.le_trans hB (h hn a ha)
  ⟨h.H, low h.hf, h.rn, fun j r hj => by obtain ⟨b, o, h1, h2, A, n, c, q1, q2, q3, q4, q5⟩ := h.rows j r hj; exact ⟨b, o, h1, by omega, A, n, c, q1, q2, q3, q4, low q5⟩, h.en, h.ev, h.raw, low h.ef, fun r hr => ⟨(h.text r hr).1, low (h.text r hr).2⟩, h.bytes, low h.bf⟩
/-- What takeFields answers. -/
def FldGives (PA : Option Addr) (PN : Nat) (L : List UInt8) (t xb : Nat) (g : Tk Lt) (w : World) (e : Ending) (w' : World) : Prop :=
  match g with
  | .bad E => e = fault E ∧ Beside [t, xb] w w'
  | .no => ∃ x v, e = .returned (.bool false) ∧ w'.heap[xb]? = some (.cells (ltV x v) 37 (0, 0)) ∧ Beside [t, xb] w w'
  | .ok x r => ∃ v S, e = .returned (.bool true) ∧ w'.heap[xb]? = some (.cells (ltV x v) 37 (0, 0)) ∧ LtB w.heap.size w' x v S ∧ TapeOn PA PN L w' t r ∧ Beside [t, xb] w w'
/-- Between the readers. -/
structure FSt (PA : Option Addr) (PN : Nat) (L : List UInt8) (t xb : Nat) (w W : World) (C : Array Value) (r : List UInt8) : Prop where
  box : W.heap[xb]? = some (.cells C 37 (0, 0))
  tape : TapeOn PA PN L W t r
  see : Sees W PA PN L
  bes : Beside [t, xb] w W
  ne : xb ≠ t
  out : Out [xb] PA PN
  old : xb < w.heap.size ∧ t < w.heap.size
theorem FSt.read {PA : Option Addr} {PN : Nat} {L : List UInt8} {t xb : Nat} {w W W' : World} {C : Array Value} {r r' : List UInt8} (h : FSt PA PN L t xb w W C r) (hb : Beside [t] W W') (ht : TapeOn PA PN L W' t r') : FSt PA PN L t xb w W' C r' :=
  ⟨(hb.block xb (Array.getElem?_eq_some_iff.1 h.box).1 (by simp; exact h.ne)).trans h.box, ht, h.see.beside hb (by obtain ⟨A', n', c', hb', -⟩ := h.tape; exact sees_off hb' h.see), h.bes.trans hb (by simp), h.ne, h.out, h.old⟩
theorem FSt.set {PA : Option Addr} {PN : Nat} {L : List UInt8} {t xb : Nat} {w W : World} {C : Array Value} {r : List UInt8} (h : FSt PA PN L t xb w W C r) (i : Nat) (v : Value) : FSt PA PN L t xb w (W.setCell ⟨xb, i, none⟩ v) (C.setIfInBounds i v) r :=
  ⟨heapSame h.box, h.tape.keep (heapOther fun e => h.ne e.symm), h.see.beside ((Beside.refl [xb] W).setCell (by simp) v) h.out, h.bes.setCell (by simp) v, h.ne, h.out, h.old⟩
theorem FSt.bad {PA : Option Addr} {PN : Nat} {L : List UInt8} {t xb : Nat} {w W W' : World} {C : Array Value} {r : List UInt8} (h : FSt PA PN L t xb w W C r) (hb : Beside [t] W W') : Beside [t, xb] w W' := h.bes.trans hb (by simp)
theorem FSt.froz {PA : Option Addr} {PN : Nat} {L : List UInt8} {t xb : Nat} {w W : World} {C : Array Value} {r : List UInt8} (h : FSt PA PN L t xb w W C r) (i : Nat) : W.frozen? ⟨xb, i, none⟩ = false := frozen_row0 h.box
theorem FSt.cell {PA : Option Addr} {PN : Nat} {L : List UInt8} {t xb : Nat} {w W : World} {C : Array Value} {r : List UInt8} (h : FSt PA PN L t xb w W C r) (i : Nat) : W.cell? ⟨xb, i, none⟩ = C[i]? := by rw [cell_of_row W xb _ _ _ _ h.box]
theorem rows_of {B b n : Nat} {rs : List Rw} {w : World} (h : RwsAt b n rs w) (hB : B ≤ b) : ∀ (j : Nat) (r : Rw), rs[j]? = some r → ∃ b' o, (some ⟨b, 0, none⟩ : Option Addr) = some ⟨b', o, none⟩ ∧ B ≤ b' ∧ RwB B w b' (o + j * 3) r := fun j r hj => by
  obtain ⟨⟨cur, h1, h2, h3⟩⟩ := h
  obtain ⟨A, n, c, q1, q2, q3, q4⟩ := h3 j r hj
  refine ⟨b, 0, rfl, hB, A, n, c, ?_, ?_, ?_, Vec.SeesU.of_own q4, Fresh.of_own q4 (by omega)⟩
  · rw [Nat.zero_add, cell_of_row w b _ _ _ _ h1]; exact q1
  · rw [Nat.zero_add, cell_of_row w b _ _ _ _ h1]; exact q2
  · rw [Nat.zero_add, cell_of_row w b _ _ _ _ h1]; exact q3
theorem raw_nil (w : World) : RawEv w none [] := fun h => absurd h (by simp)
theorem seesU_nil (w : World) : Vec.SeesU w none 0 [] := ⟨rfl, fun h => absurd h (by omega)⟩
end Go.Proofs.YthdflbpmabcjlaaDoor.Lt
namespace Go.Proofs.YthdflbpmabcjlaaDoor.Lt
open Go Go.RowKit Go.Proofs.YthdflbpmabcjlaaDoor.Words Go.Proofs.YthdflbpmabcjlaaDoor.Enc Go.Proofs.YthdflbpmabcjlaaDoor.Evt Go.Proofs.YthdflbpmabcjlaaDoor.Made Go.Proofs.YthdflbpmabcjlaaDoor.Tape Go.Proofs.YthdflbpmabcjlaaDoor.Seg
set_option linter.unusedVariables false
set_option linter.unusedSimpArgs false

set_option maxRecDepth 100000 in
set_option maxHeartbeats 4000000 in
theorem fields_k1 (PA : Option Addr) (PN : Nat) (L : List UInt8) (t xb : Nat) (l : List UInt8) (s d : Nat) (m : Bool) (q : Nat) (w : World) (ht : TapeOn PA PN L w t l) (hP : Sees w PA PN L) (hll : l.length ≤ 100000) (hb : w.heap[xb]? = some (.cells (ltV (x0 1 s d m q) Adr.zero) 37 (0, 0))) (hne : xb ≠ t) (hox : Out [xb] PA PN) :
    Calls Tryd.prog 39 #[.pointer (some ⟨t, 0, none⟩), .pointer (some ⟨xb, 0, none⟩)] w (FldGives PA PN L t xb (fieldsT (x0 1 s d m q) l) w) := by
  have st0 : FSt PA PN L t xb w w _ l := ⟨hb, ht, hP, Beside.refl _ _, hne, hox, (Array.getElem?_eq_some_iff.1 hb).1, ht.lt⟩
  have k0 : w.cell? ⟨xb, 0, none⟩ = some (.int .u8 1) := st0.cell 0
  obtain ⟨G, hG⟩ : ∃ G, G = fieldsT (x0 1 s d m q) l := ⟨_, rfl⟩
  rw [← hG]
  have hG2 : G = (vecT l).bind fun v l1 => (rowsT l1).bind fun rs l2 => .ok { x0 1 s d m q with H := v, rows := rs } l2 := by rw [hG]; rfl
  have HG := Lib.hid hG2
  have RD := takeVector_any PA PN L t l w ht hP hll
  clear hG hG2 ht hP hb hne hox
  cases gv : vecT l with
  | bad E =>
    rw [gv] at RD
    obtain rfl : G = .bad E := by rw [HG.out, gv]; rfl
    have NB := Lib.hid RD
    have ST := Lib.hid st0
    clear RD gv HG st0
    go_enter Tryd.func39, Tryd.ntmps39
    clear hll
    go_wp2_with fail
    refine NB.out.mono ?_
    rintro e wb ⟨rfl, hbb⟩
    have HB := Lib.hid (ST.out.bad hbb)
    clear hbb NB
    unfold fault
    go_wp2
    exact ⟨rfl, rfl, HB.out⟩
  | no =>
    rw [gv] at RD
    obtain rfl : G = .no := by rw [HG.out, gv]; rfl
    have NB := Lib.hid RD
    have ST := Lib.hid st0
    clear RD gv HG st0
    go_enter Tryd.func39, Tryd.ntmps39
    go_wp2_with fail
    refine NB.out.mono ?_
    rintro e w1 ⟨R, k, rc, rfl, hb1⟩
    have hbx : w1.heap[xb]? = _ := (hb1.block xb (Array.getElem?_eq_some_iff.1 ST.out.box).1 (by simp; exact ST.out.ne)).trans ST.out.box
    have c5 : w1.cell? ⟨xb, 5, none⟩ = some (.slice none 0 0) := by rw [cell_of_row w1 xb _ _ _ _ hbx]; rfl
    have f5 : w1.frozen? ⟨xb, 5, none⟩ = false := frozen_row0 hbx
    have FIN : Hid ((w1.setCell ⟨xb, 5, none⟩ (.slice R k rc)).heap[xb]? = some (.cells (ltV (x0 1 s d m q) { Adr.zero with Ha := R, hn := k, hc := rc }) 37 (0, 0)) ∧ Beside [t, xb] w (w1.setCell ⟨xb, 5, none⟩ (.slice R k rc))) := Lib.hid ⟨(heapSame hbx).trans rfl, (ST.out.bad hb1).setCell (by simp) _⟩
    clear hb1 hbx NB k0
    go_wp2
    go_ret
    exact ⟨_, _, rfl, FIN.out.1, FIN.out.2⟩
  | ok v l1 =>
    rw [gv] at RD
    have NB := Lib.hid RD
    have ST := Lib.hid st0
    have hl1 : l1.length ≤ 100000 := by have := (vecT_enc gv).1; have h2 := congrArg List.length this; rw [List.length_append] at h2; omega
    have HG1 : Hid (G = (rowsT l1).bind fun rs l2 => .ok { x0 1 s d m q with H := v, rows := rs } l2) := Lib.hid (by rw [HG.out, gv]; rfl)
    clear RD gv HG st0
    go_enter Tryd.func39, Tryd.ntmps39
    go_wp2_with fail
    refine NB.out.mono ?_
    rintro e w1 ⟨R, k, rc, rfl, own1, ht1, hb1⟩
    have ST1 := Lib.hid (ST.out.read hb1 ht1)
    have c5 : w1.cell? ⟨xb, 5, none⟩ = some (.slice none 0 0) := (ST1.out.cell 5).trans rfl
    have f5 := ST1.out.froz 5
    have ST2 := Lib.hid (ST1.out.set 5 (.slice R k rc))
    have OW2 : Hid ((w1.setCell ⟨xb, 5, none⟩ (.slice R k rc)).ownsRow w.heap.size 22 1 (.slice R k rc) k (Vec.us v)) := Lib.hid (Own.beside own1 ((Beside.refl [xb] w1).setCell (by simp) _) (by have := ST.out.old.1; simp; omega))
    clear own1 ht1 hb1 NB ST k0
    go_wp2_with fail
    generalize w1.setCell ⟨xb, 5, none⟩ (.slice R k rc) = w2 at ST2 OW2 ⊢
    have RD := takeRows_any PA PN L t l1 w2 ST2.out.tape ST2.out.see hl1
    clear c5 f5 ST1
    cases gr : rowsT l1 with
    | bad E =>
      rw [gr] at RD
      obtain rfl : G = .bad E := by rw [HG1.out, gr]; rfl
      have NB := Lib.hid RD
      clear RD gr HG1
      clear hll
      go_wp2_with fail
      refine NB.out.mono ?_
      rintro e wb ⟨rfl, hbb⟩
      have HB := Lib.hid (ST2.out.bad hbb)
      clear hbb NB
      unfold fault
      go_wp2
      exact ⟨rfl, rfl, HB.out⟩
    | no =>
      rw [gr] at RD
      obtain rfl : G = .no := by rw [HG1.out, gr]; rfl
      have NB := Lib.hid RD
      clear RD gr HG1
      go_wp2_with fail
      refine NB.out.mono ?_
      rintro e w3 ⟨rfl, hb3⟩
      have hbx := (hb3.block xb (Array.getElem?_eq_some_iff.1 ST2.out.box).1 (by simp; exact ST2.out.ne)).trans ST2.out.box
      have c6 : w3.cell? ⟨xb, 6, none⟩ = some (.slice none 0 0) := by rw [cell_of_row w3 xb _ _ _ _ hbx]; rfl
      have f6 : w3.frozen? ⟨xb, 6, none⟩ = false := frozen_row0 hbx
      have FIN : Hid ((w3.setCell ⟨xb, 6, none⟩ (.slice none 0 0)).heap[xb]? = some (.cells (ltV (x0 1 s d m q) { Adr.zero with Ha := R, hn := k, hc := rc }) 37 (0, 0)) ∧ Beside [t, xb] w (w3.setCell ⟨xb, 6, none⟩ (.slice none 0 0))) := Lib.hid ⟨(heapSame hbx).trans rfl, (ST2.out.bad hb3).setCell (by simp) _⟩
      clear hb3 hbx NB
      go_wp2
      go_ret
      exact ⟨_, _, rfl, FIN.out.1, FIN.out.2⟩
    | ok rs l2 =>
      rw [gr] at RD
      obtain rfl : G = .ok { x0 1 s d m q with H := v, rows := rs } l2 := by rw [HG1.out, gr]; rfl
      have NB := Lib.hid RD
      clear RD gr HG1
      go_wp2_with fail
      refine NB.out.mono ?_
      rintro e w3 ⟨b, rfl, hb0, rw3, ht3, hb3⟩
      have ST3 := Lib.hid (ST2.out.read hb3 ht3)
      have c6 : w3.cell? ⟨xb, 6, none⟩ = some (.slice none 0 0) := (ST3.out.cell 6).trans rfl
      have f6 := ST3.out.froz 6
      have HB0 : Hid (w.heap.size ≤ b) := Lib.hid (by have := ST2.out.bes.size; omega)
      obtain ⟨n, hn⟩ : ∃ n, n = rs.length := ⟨_, rfl⟩
      rw [← hn] at rw3 ⊢
      have ST4 := Lib.hid (ST3.out.set 6 (.slice (some ⟨b, 0, none⟩) n n))
      have OW4 : Hid ((w3.setCell ⟨xb, 6, none⟩ (.slice (some ⟨b, 0, none⟩) n n)).ownsRow w.heap.size 22 1 (.slice R k rc) k (Vec.us v)) := Lib.hid (Own.beside (Own.beside OW2.out hb3 (by have := ST2.out.old.2; simp; omega)) ((Beside.refl [xb] w3).setCell (by simp) _) (by have := ST2.out.old.1; simp; omega))
      have RW4 : Hid (RwsAt b n rs (w3.setCell ⟨xb, 6, none⟩ (.slice (some ⟨b, 0, none⟩) n n))) := Lib.hid (rw3.beside ((Beside.refl [xb] w3).setCell (by simp) _) (by have h1 := ST2.out.old.1; have h2 := ST2.out.bes.size; simp; omega))
      have HN := Lib.hid hn
      clear rw3 ht3 hb3 NB hn OW2 ST2 ST3
      go_wp2
      go_ret
      exact ⟨⟨R, k, rc, some ⟨b, 0, none⟩, n, n, none, 0, 0, none, 0, 0⟩, [], rfl, ST4.out.box, ⟨Vec.SeesU.of_own OW4.out, Fresh.of_own OW4.out (Nat.le_refl _), HN.out, rows_of RW4.out HB0.out, rfl, rfl, raw_nil _, Fresh.none _, (fun r hr => by cases hr), Sees.nil _ _, Fresh.none _⟩, ST4.out.tape, ST4.out.bes⟩
end Go.Proofs.YthdflbpmabcjlaaDoor.Lt
namespace Go.Proofs.YthdflbpmabcjlaaDoor.Lt
open Go Go.RowKit Go.Proofs.YthdflbpmabcjlaaDoor.Words Go.Proofs.YthdflbpmabcjlaaDoor.Enc Go.Proofs.YthdflbpmabcjlaaDoor.Evt Go.Proofs.YthdflbpmabcjlaaDoor.Made Go.Proofs.YthdflbpmabcjlaaDoor.Tape Go.Proofs.YthdflbpmabcjlaaDoor.Seg
set_option linter.unusedVariables false
set_option linter.unusedSimpArgs false

set_option maxRecDepth 100000 in
set_option maxHeartbeats 4000000 in
theorem fields_k2 (PA : Option Addr) (PN : Nat) (L : List UInt8) (t xb : Nat) (l : List UInt8) (s d : Nat) (m : Bool) (q : Nat) (w : World) (ht : TapeOn PA PN L w t l) (hP : Sees w PA PN L) (hll : l.length ≤ 100000) (hb : w.heap[xb]? = some (.cells (ltV (x0 2 s d m q) Adr.zero) 37 (0, 0))) (hne : xb ≠ t) (hox : Out [xb] PA PN) :
    Calls Tryd.prog 39 #[.pointer (some ⟨t, 0, none⟩), .pointer (some ⟨xb, 0, none⟩)] w (FldGives PA PN L t xb (fieldsT (x0 2 s d m q) l) w) := by
  have st0 : FSt PA PN L t xb w w _ l := ⟨hb, ht, hP, Beside.refl _ _, hne, hox, (Array.getElem?_eq_some_iff.1 hb).1, ht.lt⟩
  have k0 : w.cell? ⟨xb, 0, none⟩ = some (.int .u8 2) := st0.cell 0
  obtain ⟨G, hG⟩ : ∃ G, G = fieldsT (x0 2 s d m q) l := ⟨_, rfl⟩
  rw [← hG]
  have hG2 : G = (vecT l).bind fun v l1 => (rowsT l1).bind fun rs l2 => .ok { x0 2 s d m q with H := v, rows := rs } l2 := by rw [hG]; rfl
  have HG := Lib.hid hG2
  have RD := takeVector_any PA PN L t l w ht hP hll
  clear hG hG2 ht hP hb hne hox
  cases gv : vecT l with
  | bad E =>
    rw [gv] at RD
    obtain rfl : G = .bad E := by rw [HG.out, gv]; rfl
    have NB := Lib.hid RD
    have ST := Lib.hid st0
    clear RD gv HG st0
    go_enter Tryd.func39, Tryd.ntmps39
    clear hll
    go_wp2_with fail
    refine NB.out.mono ?_
    rintro e wb ⟨rfl, hbb⟩
    have HB := Lib.hid (ST.out.bad hbb)
    clear hbb NB
    unfold fault
    go_wp2
    exact ⟨rfl, rfl, HB.out⟩
  | no =>
    rw [gv] at RD
    obtain rfl : G = .no := by rw [HG.out, gv]; rfl
    have NB := Lib.hid RD
    have ST := Lib.hid st0
    clear RD gv HG st0
    go_enter Tryd.func39, Tryd.ntmps39
    go_wp2_with fail
    refine NB.out.mono ?_
    rintro e w1 ⟨R, k, rc, rfl, hb1⟩
    have hbx : w1.heap[xb]? = _ := (hb1.block xb (Array.getElem?_eq_some_iff.1 ST.out.box).1 (by simp; exact ST.out.ne)).trans ST.out.box
    have c5 : w1.cell? ⟨xb, 5, none⟩ = some (.slice none 0 0) := by rw [cell_of_row w1 xb _ _ _ _ hbx]; rfl
    have f5 : w1.frozen? ⟨xb, 5, none⟩ = false := frozen_row0 hbx
    have FIN : Hid ((w1.setCell ⟨xb, 5, none⟩ (.slice R k rc)).heap[xb]? = some (.cells (ltV (x0 2 s d m q) { Adr.zero with Ha := R, hn := k, hc := rc }) 37 (0, 0)) ∧ Beside [t, xb] w (w1.setCell ⟨xb, 5, none⟩ (.slice R k rc))) := Lib.hid ⟨(heapSame hbx).trans rfl, (ST.out.bad hb1).setCell (by simp) _⟩
    clear hb1 hbx NB k0
    go_wp2
    go_ret
    exact ⟨_, _, rfl, FIN.out.1, FIN.out.2⟩
  | ok v l1 =>
    rw [gv] at RD
    have NB := Lib.hid RD
    have ST := Lib.hid st0
    have hl1 : l1.length ≤ 100000 := by have := (vecT_enc gv).1; have h2 := congrArg List.length this; rw [List.length_append] at h2; omega
    have HG1 : Hid (G = (rowsT l1).bind fun rs l2 => .ok { x0 2 s d m q with H := v, rows := rs } l2) := Lib.hid (by rw [HG.out, gv]; rfl)
    clear RD gv HG st0
    go_enter Tryd.func39, Tryd.ntmps39
    go_wp2_with fail
    refine NB.out.mono ?_
    rintro e w1 ⟨R, k, rc, rfl, own1, ht1, hb1⟩
    have ST1 := Lib.hid (ST.out.read hb1 ht1)
    have c5 : w1.cell? ⟨xb, 5, none⟩ = some (.slice none 0 0) := (ST1.out.cell 5).trans rfl
    have f5 := ST1.out.froz 5
    have ST2 := Lib.hid (ST1.out.set 5 (.slice R k rc))
    have OW2 : Hid ((w1.setCell ⟨xb, 5, none⟩ (.slice R k rc)).ownsRow w.heap.size 22 1 (.slice R k rc) k (Vec.us v)) := Lib.hid (Own.beside own1 ((Beside.refl [xb] w1).setCell (by simp) _) (by have := ST.out.old.1; simp; omega))
    clear own1 ht1 hb1 NB ST k0
    go_wp2_with fail
    generalize w1.setCell ⟨xb, 5, none⟩ (.slice R k rc) = w2 at ST2 OW2 ⊢
    have RD := takeRows_any PA PN L t l1 w2 ST2.out.tape ST2.out.see hl1
    clear c5 f5 ST1
    cases gr : rowsT l1 with
    | bad E =>
      rw [gr] at RD
      obtain rfl : G = .bad E := by rw [HG1.out, gr]; rfl
      have NB := Lib.hid RD
      clear RD gr HG1
      clear hll
      go_wp2_with fail
      refine NB.out.mono ?_
      rintro e wb ⟨rfl, hbb⟩
      have HB := Lib.hid (ST2.out.bad hbb)
      clear hbb NB
      unfold fault
      go_wp2
      exact ⟨rfl, rfl, HB.out⟩
    | no =>
      rw [gr] at RD
      obtain rfl : G = .no := by rw [HG1.out, gr]; rfl
      have NB := Lib.hid RD
      clear RD gr HG1
      go_wp2_with fail
      refine NB.out.mono ?_
      rintro e w3 ⟨rfl, hb3⟩
      have hbx := (hb3.block xb (Array.getElem?_eq_some_iff.1 ST2.out.box).1 (by simp; exact ST2.out.ne)).trans ST2.out.box
      have c6 : w3.cell? ⟨xb, 6, none⟩ = some (.slice none 0 0) := by rw [cell_of_row w3 xb _ _ _ _ hbx]; rfl
      have f6 : w3.frozen? ⟨xb, 6, none⟩ = false := frozen_row0 hbx
      have FIN : Hid ((w3.setCell ⟨xb, 6, none⟩ (.slice none 0 0)).heap[xb]? = some (.cells (ltV (x0 2 s d m q) { Adr.zero with Ha := R, hn := k, hc := rc }) 37 (0, 0)) ∧ Beside [t, xb] w (w3.setCell ⟨xb, 6, none⟩ (.slice none 0 0))) := Lib.hid ⟨(heapSame hbx).trans rfl, (ST2.out.bad hb3).setCell (by simp) _⟩
      clear hb3 hbx NB
      go_wp2
      go_ret
      exact ⟨_, _, rfl, FIN.out.1, FIN.out.2⟩
    | ok rs l2 =>
      rw [gr] at RD
      obtain rfl : G = .ok { x0 2 s d m q with H := v, rows := rs } l2 := by rw [HG1.out, gr]; rfl
      have NB := Lib.hid RD
      clear RD gr HG1
      go_wp2_with fail
      refine NB.out.mono ?_
      rintro e w3 ⟨b, rfl, hb0, rw3, ht3, hb3⟩
      have ST3 := Lib.hid (ST2.out.read hb3 ht3)
      have c6 : w3.cell? ⟨xb, 6, none⟩ = some (.slice none 0 0) := (ST3.out.cell 6).trans rfl
      have f6 := ST3.out.froz 6
      have HB0 : Hid (w.heap.size ≤ b) := Lib.hid (by have := ST2.out.bes.size; omega)
      obtain ⟨n, hn⟩ : ∃ n, n = rs.length := ⟨_, rfl⟩
      rw [← hn] at rw3 ⊢
      have ST4 := Lib.hid (ST3.out.set 6 (.slice (some ⟨b, 0, none⟩) n n))
      have OW4 : Hid ((w3.setCell ⟨xb, 6, none⟩ (.slice (some ⟨b, 0, none⟩) n n)).ownsRow w.heap.size 22 1 (.slice R k rc) k (Vec.us v)) := Lib.hid (Own.beside (Own.beside OW2.out hb3 (by have := ST2.out.old.2; simp; omega)) ((Beside.refl [xb] w3).setCell (by simp) _) (by have := ST2.out.old.1; simp; omega))
      have RW4 : Hid (RwsAt b n rs (w3.setCell ⟨xb, 6, none⟩ (.slice (some ⟨b, 0, none⟩) n n))) := Lib.hid (rw3.beside ((Beside.refl [xb] w3).setCell (by simp) _) (by have h1 := ST2.out.old.1; have h2 := ST2.out.bes.size; simp; omega))
      have HN := Lib.hid hn
      clear rw3 ht3 hb3 NB hn OW2 ST2 ST3
      go_wp2
      go_ret
      exact ⟨⟨R, k, rc, some ⟨b, 0, none⟩, n, n, none, 0, 0, none, 0, 0⟩, [], rfl, ST4.out.box, ⟨Vec.SeesU.of_own OW4.out, Fresh.of_own OW4.out (Nat.le_refl _), HN.out, rows_of RW4.out HB0.out, rfl, rfl, raw_nil _, Fresh.none _, (fun r hr => by cases hr), Sees.nil _ _, Fresh.none _⟩, ST4.out.tape, ST4.out.bes⟩
end Go.Proofs.YthdflbpmabcjlaaDoor.Lt
