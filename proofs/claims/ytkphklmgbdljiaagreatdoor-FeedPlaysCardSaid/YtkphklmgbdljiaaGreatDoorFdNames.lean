/- The order of a writer's segments' names. -/
import Derived.Test.YtkphklmgbdljiaaGreatDoorFdLoose
import Derived.Test.YtkphklmgbdljiaaGreatDoorBNames
namespace Go.Proofs.YtkphklmgbdljiaaGreatDoor.Fd
open Go Go.RowKit Go.Proofs.YtkphklmgbdljiaaGreatDoor.Words Go.Proofs.YtkphklmgbdljiaaGreatDoor.Enc Go.Proofs.YtkphklmgbdljiaaGreatDoor.Evt Go.Proofs.YtkphklmgbdljiaaGreatDoor.Made Go.Proofs.YtkphklmgbdljiaaGreatDoor.Dsk Go.Proofs.YtkphklmgbdljiaaGreatDoor.Sht Go.Proofs.YtkphklmgbdljiaaGreatDoor.Seg
set_option linter.unusedVariables false
set_option linter.unusedSimpArgs false

theorem hexD_lt : ∀ a b : Fin 16, a < b → hexD a < hexD b := by decide
theorem lt_append {a b : List UInt8} : ∀ {l m : List UInt8}, l.length = m.length → l < m → l ++ a < m ++ b
  | [], [], _, h => absurd h (List.lt_irrefl _)
  | x :: l, y :: m, hl, h => by
    rw [List.cons_lt_cons_iff] at h
    rw [List.cons_append, List.cons_append, List.cons_lt_cons_iff]
    exact h.imp id fun ⟨e, h⟩ => ⟨e, lt_append (by simpa using hl) h⟩
theorem lt_left {a b : List UInt8} (h : a < b) : ∀ l : List UInt8, l ++ a < l ++ b
  | [] => h
  | x :: l => by
    rw [List.cons_append, List.cons_append, List.cons_lt_cons_iff]
    exact .inr ⟨rfl, lt_left h l⟩
theorem hexP_lt : ∀ (k : Nat) {u v : Nat}, u < v → v < 16 ^ k → hexP k u < hexP k v
  | 0, u, v, h, hv => by simp at hv; omega
  | k + 1, u, v, h, hv => by
    show hexP k (u / 16) ++ [hexD (u % 16)] < hexP k (v / 16) ++ [hexD (v % 16)]
    by_cases e : u / 16 = v / 16
    · rw [e]
      refine lt_left ?_ _
      rw [List.cons_lt_cons_iff]
      exact .inl (hexD_lt ⟨u % 16, Nat.mod_lt _ (by decide)⟩ ⟨v % 16, Nat.mod_lt _ (by decide)⟩ (by show u % 16 < v % 16; omega))
    · exact lt_append (by rw [hexP_length, hexP_length]) (hexP_lt k (by omega) (by rw [Nat.pow_succ] at hv; omega))
theorem nameL_lt {x : Int} {u v : Nat} (h : u < v) (hv : v < 18446744073709551616) : nameL x u < nameL x v := lt_left (hexP_lt 16 h (by simpa using hv)) _
/-- The names of a feed's segments, as they stand in order. -/
def namesL (x : Nat) (P : List Part) : List (List UInt8) := P.map fun p => nameL (x : Int) p.u
theorem names_sorted {x : Nat} {P : List Part} (hR : Rise P) {ss : List (List UInt8)} (h : ss.Perm (namesL x P)) : ss.mergeSort leB = namesL x P := by
  rw [mergeSort_of_perm h]
  refine List.mergeSort_of_pairwise ?_
  unfold namesL
  rw [List.pairwise_map]
  have h1 := hR.1
  have h2 := hR.2
  clear h
  induction P with
  | nil => exact List.Pairwise.nil
  | cons p r ih =>
    rw [List.pairwise_cons] at h1 ⊢
    refine ⟨fun q hq => ?_, ih ⟨h1.2, fun a ha => h2 a (List.mem_cons_of_mem _ ha)⟩ h1.2 (fun a ha => h2 a (List.mem_cons_of_mem _ ha))⟩
    have := nameL_lt (x := (x : Int)) (h1.1 q hq) (h2 q (List.mem_cons_of_mem _ hq))
    simpa using List.le_of_lt this
theorem prefix_name (x : Int) (u : Nat) : Lib.hasPrefix (nameL x u) (beginL x) = true := by
  unfold nameL Lib.hasPrefix
  simp
theorem names_parts (d : Nat) (S : List Nat) (x : Nat) (P : List Part) (h : Hd) (bg : ByteArray) (w : World) (hd : Disk w d S (P.map (Part.file x)) h) (hoff : h.off = false) (hR : Rise P) (hfew : P.length ≤ 100000) (hbg : bg.data.toList = beginL (x : Int)) :
    Calls Tryz.prog 14 #[.pointer (some ⟨d, 0, none⟩), .string bg] w fun e w' => ∃ A c, e = .returned (.slice A P.length c) ∧ w'.ownsRow w.heap.size 9 1 (.slice A P.length c) P.length ((namesL x P).map Go.Proofs.encStr) ∧ Below w.heap.size w w' := by
  obtain ⟨mb, fs, hda, hab, rfl⟩ := hd
  have hnm : fs.map (·.name) = namesL x P := by
    have := congrArg (List.map File.name) hab
    simpa [abs, namesL, Fil.abs, Part.file, List.map_map, Function.comp_def] using this
  have hl : fs.length = P.length := by
    have := congrArg List.length hab
    simpa [abs] using this
  refine (names_any d mb fs h bg w hda hoff (fun f hf => ?_) (by omega)).mono ?_
  · have : f.name ∈ namesL x P := by rw [← hnm]; exact List.mem_map_of_mem hf
    obtain ⟨p, _, hp⟩ := List.mem_map.1 this
    rw [← hp, hbg]
    exact prefix_name _ _
  · rintro e w' ⟨A, n, c, ss, rfl, hp, rfl, ho, hb⟩
    rw [hnm] at hp
    have hlen : ss.length = P.length := by rw [hp.length_eq]; simp [namesL]
    rw [names_sorted hR hp] at ho
    rw [hlen] at ho
    exact ⟨A, c, by rw [hlen], ho, hb⟩
end Go.Proofs.YtkphklmgbdljiaaGreatDoor.Fd
