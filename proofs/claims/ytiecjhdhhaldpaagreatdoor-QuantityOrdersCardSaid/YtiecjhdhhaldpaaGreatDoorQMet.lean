/- From the row's condition on the listed tables to the cells that the walks read. -/
import Derived.Test.YtiecjhdhhaldpaaGreatDoorQLaid
import Derived.ProofKit
import Derived.OpenShut
import Derived.LaidMore
import Derived.Lay
import Derived.Stop.Joined
namespace Go.Proofs.YtiecjhdhhaldpaaGreatDoor.Q
open Go Go.RowKit Go.Proofs.YtiecjhdhhaldpaaGreatDoor.Words Go.ChangeShapes
set_option linter.unusedVariables false

/-- What the rows list. -/
abbrev listed : List (String × DataW Unit) := Rows.quantityBitsRow.laid

theorem trod_float {H : Type} {enc : TypeId × Value → H} {P : Program} {w : World} {base : Nat} {spare : Nat → Bool} {held : Bool} {fuel : Nat} {t : TypeId} {cs : List Value} {x : DataW H × List MemPlace} {k : FloatKind}
    (ht : P.underlying t = some (.float k)) (h : DataW.trod enc P w base spare held fuel t cs = some x) : ∃ n, cs = [.float k n] ∧ x = (.lit (.float k n), []) := by
  cases fuel with
  | zero => simp [DataW.trod] at h
  | succ n =>
    unfold DataW.trod at h
    rw [ht] at h
    split at h <;> simp_all

theorem plain {w : World} {a : Addr} {v : Value} (h : w.cell? a = some v) : ∃ b o, a = ⟨b, o, none⟩ := by
  obtain ⟨b, o, s⟩ := a
  cases s with
  | none => exact ⟨b, o, rfl⟩
  | some s =>
    unfold World.cell? at h
    split at h
    · simp at h
    · cases h

theorem cells_one {w : World} {base : Nat} {a : Addr} {c : Value} (h : w.cells? base a 1 = some [c]) : w.cell? a = some c := cell_of_cells?_one h

set_option maxRecDepth 100000 in
theorem pow_at {W : World} {fuel : Nat} {cs : List Value} {p : List MemPlace} (hd : DataW.trod (fun _ => ()) Tryz.prog W 0 (fun _ => true) false fuel 109 cs = some (Rows.laid_internal_strconv_pow10Tab, p)) :
    cs[730]? = some (.int .u64 12800000000000000000) ∧ cs[731]? = some (.int .u64 0) := by
  obtain ⟨xs, m, _, ex, _, hl, hel⟩ := DataW.trod_array Tryz.underlying109 hd
  have c2 : Tryz.prog.cellsOf 108 = 2 := by kernel_rfl
  have hE := hel 365 (by omega)
  rw [c2, List.getElem?_eq_getElem (by omega : 365 < xs.length)] at hE
  have e3 : xs.map (·.1) = Pinned.pow10Rows.map fun x => .agg [.lit (.int .u64 x.1), .lit (.int .u64 x.2)] := (DataW.agg.inj (Prod.mk.inj ex).1).symm
  have e4 : (xs.map (·.1))[365]? = some (.agg [.lit (.int .u64 12800000000000000000), .lit (.int .u64 0)]) := by rw [e3]; kernel_rfl
  rw [List.getElem?_map, List.getElem?_eq_getElem (by omega : 365 < xs.length)] at e4
  generalize xs[365] = y at hE e4
  simp only [Option.map_some, Option.some.injEq] at e4
  obtain ⟨ys, n, _, ey, _, hyl, hyel⟩ := DataW.trod_struct Tryz.underlying108 hE
  have c1 : Tryz.prog.cellsOf 23 = 1 := by kernel_rfl
  have h0 : DataW.trod (fun _ => ()) Tryz.prog W 0 (fun _ => true) false n 23 ((List.drop 0 (List.take 2 (List.drop 730 cs))).take (Tryz.prog.cellsOf 23)) = ys[0]? := hyel 0 _ rfl
  have h1 : DataW.trod (fun _ => ()) Tryz.prog W 0 (fun _ => true) false n 23 ((List.drop 1 (List.take 2 (List.drop 730 cs))).take (Tryz.prog.cellsOf 23)) = ys[1]? := hyel 1 _ rfl
  rw [c1] at h0 h1
  have hyl2 : ys.length = 2 := hyl
  match ys, hyl2, ey, h0, h1 with
  | [a, b], _, ey, h0, h1 =>
    simp only [List.getElem?_cons_zero, List.getElem?_cons_succ] at h0 h1
    obtain ⟨n0, q0, r0, _⟩ := DataW.trod_int Tryz.underlying23 h0
    obtain ⟨n1, q1, r1, _⟩ := DataW.trod_int Tryz.underlying23 h1
    subst r0
    subst r1
    rw [ey] at e4
    simp only [List.map_cons, List.map_nil, DataW.agg.injEq, List.cons.injEq, DataW.lit.injEq, Lit.int.injEq, true_and, and_true] at e4
    obtain ⟨rfl, rfl⟩ := e4
    constructor
    · have := congrArg (·[0]?) q0
      simpa [List.getElem?_take, List.getElem?_drop] using this
    · have := congrArg (·[0]?) q1
      simpa [List.getElem?_take, List.getElem?_drop] using this

set_option maxRecDepth 100000 in
theorem tens_at {W : World} {fuel : Nat} {cs : List Value} {p : List MemPlace} (hd : DataW.trod (fun _ => ()) Tryz.prog W 0 (fun _ => true) false fuel 148 cs = some (Rows.laid_internal_strconv_float64pow10, p)) :
    ∃ b o c, cs = [.slice (some ⟨b, o, none⟩) 23 c] ∧ b < W.heap.size ∧ W.cell? ⟨b, o + 1, none⟩ = some (.float .f64 4621819117588971520) := by
  rcases DataW.trod_slice Tryz.underlying148 hd with ⟨_, h0⟩ | ⟨a, len, cap, elems, rest, n, _, rfl, hx, hb, hl, hm, hlen, hel, hsp, hns⟩
  · exact absurd (Prod.mk.inj h0).1 (by unfold Rows.laid_internal_strconv_float64pow10; intro e; cases e)
  have c1 : Tryz.prog.cellsOf 22 = 1 := by kernel_rfl
  have hmap := (DataW.slice.inj (Prod.mk.inj hx).1).1
  have h23 : len = 23 := by
    have := congrArg List.length hmap
    simp only [List.length_map, hlen] at this
    rw [← this]; rfl
  subst h23
  have get : ∀ i (v : Nat), i < 23 → (elems.map (·.1))[i]? = some (.lit (.float .f64 v)) → W.cell? (a.add i) = some (.float .f64 v) := by
    intro i v hi he
    have h1 := hel i hi
    rw [c1, Nat.mul_one, List.getElem?_eq_getElem (by omega : i < elems.length), Option.bind_eq_some_iff] at h1
    obtain ⟨cs', hcs, hy⟩ := h1
    obtain ⟨z, rfl, hz⟩ := trod_float Tryz.underlying22 hy
    rw [List.getElem?_map, List.getElem?_eq_getElem (by omega : i < elems.length), hz] at he
    simp only [Option.map_some, Option.some.injEq, DataW.lit.injEq, Lit.float.injEq, true_and] at he
    rw [← he]
    exact cells_one hcs
  have g0 := get 0 4607182418800017408 (by omega) (by rw [← hmap]; rfl)
  have g1 := get 1 4621819117588971520 (by omega) (by rw [← hmap]; rfl)
  obtain ⟨b, o, rfl⟩ := plain (show W.cell? a = _ by simpa [Addr.add] using g0)
  refine ⟨b, o, cap, rfl, ?_, ?_⟩
  · unfold World.cell? at g1
    have : b = ((⟨b, o, none⟩ : Addr).add 1).block := rfl
    rw [← this] at g1
    split at g1
    · rename_i hh; exact (Array.getElem?_eq_some_iff.1 hh).1
    · cases g1
  · simpa [Addr.add] using g1

set_option maxRecDepth 100000 in
theorem mant_at {W : World} {fuel : Nat} {cs : List Value} {p : List MemPlace} (hd : DataW.trod (fun _ => ()) Tryz.prog W 0 (fun _ => true) false fuel 125 cs = some (Rows.laid_internal_strconv_float64info, p)) : cs[0]? = some (.int .u64 52) := by
  obtain ⟨ys, n, _, ey, _, hyl, hyel⟩ := DataW.trod_struct Tryz.underlying125 hd
  have c1 : Tryz.prog.cellsOf 80 = 1 := by kernel_rfl
  have h0 : DataW.trod (fun _ => ()) Tryz.prog W 0 (fun _ => true) false n 80 ((List.drop 0 cs).take (Tryz.prog.cellsOf 80)) = ys[0]? := hyel 0 _ rfl
  rw [c1] at h0
  have hyl2 : ys.length = 3 := hyl
  match ys, hyl2, ey, h0 with
  | [a, b, c], _, ey, h0 =>
    simp only [List.getElem?_cons_zero] at h0
    obtain ⟨n0, q0, r0, _⟩ := DataW.trod_int Tryz.underlying80 h0
    subst r0
    have e := DataW.agg.inj (Prod.mk.inj ey).1
    simp only [List.map_cons, List.map_nil, List.cons.injEq, DataW.lit.injEq, Lit.int.injEq, true_and] at e
    obtain ⟨e0, _⟩ := e
    subst e0
    have := congrArg (·[0]?) q0
    simpa [List.getElem?_take, List.getElem?_drop] using this

theorem tail_of {P : Program} {w : World} {x : String × DataW Unit} {rest : List (String × DataW Unit)} (h : laidMet P (x :: rest) w) : laidMet P rest w := by
  obtain ⟨ps, ⟨g, t, cs, f, p, q, _, _, _, _, hr, rfl⟩, hn, hc⟩ := h
  exact ⟨q, hr, (List.nodup_append.1 hn).2.1, fun b off hm => hc b off (List.mem_append_right _ hm)⟩

set_option maxRecDepth 100000 in
theorem of_laid {W : World} (h : laidMetH Tryz.prog listed W) : Tabs W := by
  rw [MakeChecks.laidMetH_plain _ _ _ (by kernel_rfl)] at h
  have h9 : laidMet Tryz.prog (listed.drop 8) W := tail_of (tail_of (tail_of (tail_of (tail_of (tail_of (tail_of (tail_of h)))))))
  have pows : Lib.TabIs Tryz.prog W "internal/strconv.uint64pow10" .u64 Lib.pow10Tab :=
    Lib.tabIs_of_head (rest := listed.drop 9) (g := 2) (t := 92) (e := 23) (n := 20) (by kernel_rfl) (by kernel_rfl) Tryz.underlying92 Tryz.underlying23 (by kernel_rfl) (by kernel_rfl) h9
  obtain ⟨ps, ⟨g0, t0, cs0, f0, p0, q0, hg0, ht0, hv0, hd0, ⟨g1, t1, cs1, f1, p1, q1, hg1, ht1, hv1, hd1, ⟨g2, t2, cs2, f2, p2, q2, hg2, ht2, hv2, hd2, ⟨g3, t3, cs3, f3, p3, q3, hg3, ht3, hv3, hd3, ⟨g4, t4, cs4, f4, p4, q4, hg4, ht4, hv4, hd4, ⟨g5, t5, cs5, f5, p5, q5, hg5, ht5, hv5, hd5, ⟨g6, t6, cs6, f6, p6, q6, hg6, ht6, hv6, hd6, _⟩, _⟩, _⟩, _⟩, _⟩, _⟩, _⟩, _, _⟩ := h
  have hp : laidMet Tryz.prog (listed.drop 12) W := tail_of (tail_of (tail_of (tail_of h9)))
  obtain ⟨_, ⟨gp, tp, csp, fp, pp, qp, hgp, htp, hvp, hdp, _⟩, _, _⟩ := hp
  obtain rfl := Option.some.inj ((show Tryz.prog.globalNamed "math/bits.deBruijn64tab" = some 13 by kernel_rfl).symm.trans hg1)
  obtain rfl := Option.some.inj ((show Tryz.prog.globalNamed "internal/strconv.float64info" = some 8 by kernel_rfl).symm.trans hg3)
  obtain rfl := Option.some.inj ((show Tryz.prog.globalNamed "internal/strconv.optimize" = some 1 by kernel_rfl).symm.trans hg4)
  obtain rfl := Option.some.inj ((show Tryz.prog.globalNamed "internal/strconv.float64pow10" = some 11 by kernel_rfl).symm.trans hg6)
  obtain rfl := Option.some.inj ((show Tryz.prog.globalNamed "internal/strconv.pow10Tab" = some 5 by kernel_rfl).symm.trans hgp)
  obtain rfl := Option.some.inj ((show (Tryz.prog.globals[8]?).map (·.type) = some 125 by kernel_rfl).symm.trans ht3)
  obtain rfl := Option.some.inj ((show (Tryz.prog.globals[1]?).map (·.type) = some 4 by kernel_rfl).symm.trans ht4)
  obtain rfl := Option.some.inj ((show (Tryz.prog.globals[11]?).map (·.type) = some 148 by kernel_rfl).symm.trans ht6)
  obtain rfl := Option.some.inj ((show (Tryz.prog.globals[5]?).map (·.type) = some 109 by kernel_rfl).symm.trans htp)
  have pw := pow_at hdp
  have mt := mant_at hd3
  obtain ⟨b, eb1, eb2⟩ := DataW.trod_bool Tryz.underlying4 hd4
  obtain ⟨tb, to, tc, et, ht, hc⟩ := tens_at hd6
  exact { size := by
            unfold World.var? at hv1
            rw [hg1] at hv1
            simp only [Option.bind_some] at hv1
            split at hv1
            · rename_i hh
              have := (Array.getElem?_eq_some_iff.1 hh).1
              omega
            · cases hv1
          pows := pows
          hi := by rw [World.var?_cell hgp hvp 730]; simpa using pw.1
          lo := by rw [World.var?_cell hgp hvp 731]; simpa using pw.2
          opt := by
            rw [World.var?_cell hg4 hv4 0]
            have e := (Prod.mk.inj eb2).1
            simp only [Rows.laid_internal_strconv_optimize, DataW.lit.injEq, Lit.bool.injEq] at e
            have : cs4.toList[0]? = some (.bool true) := by rw [eb1, ← e]; rfl
            simpa using this
          mb := by rw [World.var?_cell hg3 hv3 0]; simpa using mt
          tens := ⟨tb, to, tc, by
            rw [World.var?_cell hg6 hv6 0]
            have : cs6.toList[0]? = some (.slice (some ⟨tb, to, none⟩) 23 tc) := by rw [et]; rfl
            simpa using this, ht, hc⟩ }
end Go.Proofs.YtiecjhdhhaldpaaGreatDoor.Q
