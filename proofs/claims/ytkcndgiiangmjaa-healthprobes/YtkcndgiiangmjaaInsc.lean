/-
  slices.Insert of one timer, where there is no room and it is not the last one.
-/
import Derived.Test.YtkcndgiiangmjaaWide
namespace Go.Proofs.Ytkcndgiiangmjaa
open Go.RowKit Go.Proofs
set_option linter.unusedVariables false
set_option linter.unusedSimpArgs false
set_option maxRecDepth 100000

set_option maxHeartbeats 4000000 in
theorem insert_grow {w : World} {g n c i vb : Nat} {cur : Array Value} {C : List Value} {v0 v1 : Value} (hg : w.heap[g]? = some (.cells cur 90 (0, 0))) (hC : cur.toList.take (n * 2) = C) (hcs : cur.size = c * 2) (h1c : ∀ u ∈ C, u.oneCell' = true)
    (hv : w.heap[vb]? = some (.cells #[v0, v1] 90 (0, 0))) (h1v : ∀ u ∈ [v0, v1], u.oneCell' = true) (hne : vb ≠ g) (hi : i < n) (hnc : n ≤ c) (hroom : c < n + 1) (hn : n ≤ 100000) :
    Calls Try.prog 44 #[.slice (some ⟨g, 0, none⟩) n c, .int .i64 i, .slice (some ⟨vb, 0, none⟩) 1 1] w fun e w' =>
      ∃ G cur', e = .returned (.slice (some ⟨w.heap.size, 0, none⟩) (n + 1) G) ∧ n + 1 ≤ G ∧ G ≤ maxLen ∧ w'.heap[w.heap.size]? = some (.cells cur' 90 (0, 0)) ∧ cur'.size = G * 2 ∧ cur'.toList.take ((n + 1) * 2) = C.take (i * 2) ++ v0 :: v1 :: C.drop (i * 2) ∧
        Below w.heap.size w w' := by
  have hCl : C.length = n * 2 := by rw [← hC, List.length_take, Array.length_toList]; omega
  have hgl : g < w.heap.size := (Array.getElem?_eq_some_iff.1 hg).1
  have hvl : vb < w.heap.size := (Array.getElem?_eq_some_iff.1 hv).1
  have hCat : ∀ j v, C[j]? = some v → w.cell? ⟨g, j, none⟩ = some v := fun j v hj => by
    rw [cell_of_row w g j cur 90 (0, 0) hg, ← Array.getElem?_toList]
    rw [← hC, List.getElem?_take] at hj
    split at hj
    · exact hj
    · cases hj
  have hvat : ∀ j v, [v0, v1][j]? = some v → w.cell? ⟨vb, j, none⟩ = some v := fun j v hj => by
    rw [cell_of_row w vb j _ 90 (0, 0) hv]
    simpa using hj
  obtain ⟨i0, hi0, hz0, hz1, hz2⟩ := info_parts info61
  have hold : (Builtin.firstCells i0.size i (.slice (some ⟨g, 0, none⟩) i c)).run Try.prog w.drew = .ok (C.take (i * 2)).toArray w.drew := by
    rw [hz1]
    exact run_firstCells_some w.drew 2 i ⟨g, 0, none⟩ i c (C.take (i * 2)) (by rw [List.length_take]; omega) (fun j v hj => by
      rw [add_plain, Nat.zero_add]
      rw [List.getElem?_take] at hj
      split at hj
      · exact hCat j v hj
      · cases hj)
  have hrz := fun ty => Lib.run_append_grow_zeros w 83 3 ty 90 i0 _ .i64 .i64 Try.underlying83 Try.underlying3 hi0 hz0 (some ⟨g, 0, none⟩) i c (C.take (i * 2)) hold (n + 1 - i) (by omega) (by omega) (by omega) (by omega) (by rw [hz2]; omega) (by rw [hz2, show i + (n + 1 - i) = n + 1 by omega]; exact growslice_fits hroom (by omega))
  rw [show i + (n + 1 - i) = n + 1 by omega] at hrz
  obtain ⟨G, hG⟩ : ∃ G, G = grownCap w (n + 1) c 90 := ⟨_, rfl⟩
  have hGn : n + 1 ≤ G := by rw [hG]; exact grownCap_ge w _ _ _
  have hGm : G ≤ maxLen := by rw [hG]; exact grownCap_le_maxLen w _ _ _ (by simp only [maxLen]; omega)
  have hG63 : G ≤ 9223372036854775807 := by simp only [maxLen] at hGm; omega
  rw [← hG] at hrz
  obtain ⟨ROW, hROW⟩ : ∃ ROW : Array Value, ROW = (C.take (i * 2)).toArray ++ Builtin.zeroCells (Value.agg #[.int .i64 0, .int .i64 0]).cells (n + 1 - i) ++ Builtin.zeroCells (Value.agg #[.int .i64 0, .int .i64 0]).cells (G - (n + 1)) := ⟨_, rfl⟩
  rw [← hROW] at hrz
  have hRs : ROW.size = G * 2 := by
    rw [hROW]
    simp [Builtin.zeroCells, Value.cells, hCl]
    omega
  have hRt : ROW.toList.take (i * 2) = C.take (i * 2) := by
    rw [hROW, Array.toList_append, Array.toList_append, List.append_assoc, take_split (a := i * 2) (by simp [hCl]; omega) (Nat.le_refl _)]
    simp
  obtain ⟨W1, hW1⟩ : ∃ W1, W1 = w.drew.alloc (.cells ROW 90) := ⟨_, rfl⟩
  have hW1g : W1.heap[w.heap.size]? = some (.cells ROW 90 (0, 0)) := by rw [hW1]; exact heap_alloc_new w.drew _
  have hB1 : Below w.heap.size w W1 := by rw [hW1]; exact below_alloc (below_drew (Below.refl _ _)) _
  rw [← hW1] at hrz
  clear hold hROW hW1
  -- the first copy
  have hcA : ∀ ty dc, (Builtin.copy_ #[83, 83] ty #[.slice (some ⟨w.heap.size, i * 2, none⟩) (n + 1 - i) dc, .slice (some ⟨vb, 0, none⟩) 1 1]).run Try.prog W1 = .ok (goInt (1 : Nat)) (W1.setCells w.heap.size (i * 2) [v0, v1]) := fun ty dc =>
    run_copy_wide W1 83 83 ty 90 2 w.heap.size (i * 2) (n + 1 - i) dc ⟨vb, 0, none⟩ 1 1 1 [v0, v1] Try.underlying83 size61 (by simp only [Nat.min_def]; split <;> omega) rfl
      (fun j v hj => by rw [add_plain, Nat.zero_add, hB1.cell (p := ⟨vb, j, none⟩) hvl]; exact hvat j v hj)
      (fun j hj => by rw [cell_of_row W1 _ _ ROW 90 (0, 0) hW1g, Array.getElem?_eq_getElem (by simp at hj; omega)]; rfl) (fun j hj => frozen_of_row W1 _ _ ROW 90 hW1g) h1v
  obtain ⟨W2, hW2⟩ : ∃ W2, W2 = W1.setCells w.heap.size (i * 2) [v0, v1] := ⟨_, rfl⟩
  obtain ⟨hW2g, hW2b⟩ := row_written hW1g (i * 2) [v0, v1] (by simp; omega)
  rw [← hW2] at hcA hW2g hW2b
  have hB2 : Below w.heap.size w W2 := hB1.grown hW2b hB1.size (fun k hk => by cases hk; exact Nat.le_refl _)
  have hL2 : (splice ROW.toList (i * 2) [v0, v1]).length = G * 2 := by rw [length_splice _ _ _ (by simp; omega), Array.length_toList, hRs]
  clear hW2
  have hdl : (C.drop (i * 2)).length = (n - i) * 2 := by rw [List.length_drop, hCl]; omega
  have hcB : ∀ ty dc sc, (Builtin.copy_ #[83, 83] ty #[.slice (some ⟨w.heap.size, (i + 1) * 2, none⟩) (n - i) dc, .slice (some ⟨g, i * 2, none⟩) (n - i) sc]).run Try.prog W2.drew = .ok (goInt (n - i : Nat)) (W2.drew.setCells w.heap.size ((i + 1) * 2) (C.drop (i * 2))) := fun ty dc sc =>
    run_copy_wide W2.drew 83 83 ty 90 2 w.heap.size ((i + 1) * 2) (n - i) dc ⟨g, i * 2, none⟩ (n - i) sc (n - i) (C.drop (i * 2)) Try.underlying83 size61 (by simp only [Nat.min_def]; split <;> omega) hdl
      (fun j v hj => by
        rw [add_plain]
        show W2.cell? _ = _
        rw [hB2.cell (p := ⟨g, i * 2 + j, none⟩) hgl]
        exact hCat (i * 2 + j) v (by rwa [List.getElem?_drop] at hj))
      (fun j hj => by
        show (W2.cell? _).isSome = true
        rw [cell_of_row W2 _ _ _ 90 (0, 0) hW2g, Array.getElem?_eq_getElem (by rw [List.size_toArray, hL2]; rw [hdl] at hj; omega)]; rfl)
      (fun j hj => frozen_of_row W2.drew _ _ _ 90 (show W2.drew.heap[_]? = _ from hW2g)) (fun v hv => h1c v (List.mem_of_mem_drop hv))
  obtain ⟨W3, hW3⟩ : ∃ W3, W3 = W2.drew.setCells w.heap.size ((i + 1) * 2) (C.drop (i * 2)) := ⟨_, rfl⟩
  obtain ⟨hW3g, hW3b⟩ := row_written (show W2.drew.heap[w.heap.size]? = _ from hW2g) ((i + 1) * 2) (C.drop (i * 2)) (by rw [List.size_toArray, hL2, hdl]; omega)
  rw [← hW3] at hcB hW3g hW3b
  have hB3 : Below w.heap.size w W3 := (below_drew hB2).grown hW3b hB2.size (fun k hk => by cases hk; exact Nat.le_refl _)
  clear hW3
  have hfin : (splice (splice ROW.toList (i * 2) [v0, v1]) ((i + 1) * 2) (C.drop (i * 2))).take ((n + 1) * 2) = C.take (i * 2) ++ v0 :: v1 :: C.drop (i * 2) := by
    have hRl : ROW.toList.length = G * 2 := by rw [Array.length_toList, hRs]
    have e1 : (splice ROW.toList (i * 2) [v0, v1]).take ((i + 1) * 2) = C.take (i * 2) ++ [v0, v1] := by
      rw [splice_def, hRt, ← List.append_assoc, take_split (a := (i + 1) * 2) (by simp [hCl]; omega) (Nat.le_refl _), Nat.sub_self, List.take_zero, List.append_nil]
    rw [splice_def (splice ROW.toList (i * 2) [v0, v1]), e1, take_split (a := (i + 1) * 2) (by simp [hCl]; omega) (by omega), take_split hdl (by omega), show (n + 1) * 2 - (i + 1) * 2 - (n - i) * 2 = 0 by omega, List.take_zero, List.append_nil]
    simp
  have hsz : (splice (splice ROW.toList (i * 2) [v0, v1]) ((i + 1) * 2) (C.drop (i * 2))).toArray.size = G * 2 := by
    rw [List.size_toArray, length_splice _ _ _ (by rw [hL2, hdl]; omega), hL2]
  generalize (splice (splice ROW.toList (i * 2) [v0, v1]) ((i + 1) * 2) (C.drop (i * 2))) = FIN at hfin hsz hW3g
  have hz2 : ¬ ((i : Int) = (n : Int)) := by omega
  have hw1 : IntKind.i64.wrap ((i : Int) + 1) = (i : Int) + 1 := by rw [IntKind.wrap_i64]; omega
  have hw2 : IntKind.i64.wrap ((n : Int) + 1) = (n : Int) + 1 := by rw [IntKind.wrap_i64]; omega
  have hkk : (n : Int) + 1 - (i : Int) = ((n + 1 - i : Nat) : Int) := by omega
  have hw3 : IntKind.i64.wrap ((n : Int) + 1 - (i : Int)) = (n : Int) + 1 - (i : Int) := by rw [IntKind.wrap_i64]; omega
  rw [← hkk] at hrz
  have hin : (i : Int) ≤ (n : Int) := by omega
  have hic : i ≤ c := by omega
  have hb5 : (i : Int) + 1 ≤ (n : Int) + 1 := by omega
  have hb3 : (i : Int) ≤ (n : Int) + 1 := by omega
  have hb6 : (c : Int) < (n : Int) + 1 := by omega
  have hb8 : (0 : Int) ≤ (i : Int) + 1 := by omega
  have hGi : ¬ (G = i) := by omega
  have hGim : ¬ (G = i + 1) := by omega
  have hci : ¬ (c = i) := by omega
  have H1 := Lib.hid (hrz 83)
  have h2 := hcA 3 (G - i)
  have h3 := hcB 3 (G - (i + 1)) (c - i)
  have HE := Lib.hid (And.intro hfin (And.intro hsz (And.intro hW3g hB3)))
  have HGM := Lib.hid hGm
  clear hfin hsz hW3g hB3 hrz hcA hcB hkk hW3b hW2b hW2g hW1g hB1 hB2 hL2 hdl hRs hRt hG hGm hvat hCat hCl hgl hvl hg hv hC hcs h1c h1v hi0 hz0 hz1 hz2
  go_enter Try.func44, Try.ntmps44
  go_wp2_with (at_builtin; refine Lib.wpList_append_run _ rfl _ _ _ _ rfl _ _ rfl rfl _ _ H1.out ?_)
  go_region
  go_wp2
  go_ret
  exact ⟨G, _, rfl, hGn, HGM.out, HE.out.2.2.1, HE.out.2.1, HE.out.1, HE.out.2.2.2⟩

end Go.Proofs.Ytkcndgiiangmjaa
