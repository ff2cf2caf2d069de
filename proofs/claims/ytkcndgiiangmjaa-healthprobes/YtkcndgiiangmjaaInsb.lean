/-
  slices.Insert of one timer, where there is room and it is not the last one.
-/
import Derived.Test.YtkcndgiiangmjaaWide
import Derived.Shelf.RegionOpenPlain
namespace Go.Proofs.Ytkcndgiiangmjaa
open Go.RowKit Go.Proofs
set_option linter.unusedVariables false
set_option linter.unusedSimpArgs false
set_option maxRecDepth 100000

set_option maxHeartbeats 4000000 in
theorem insert_shift {w : World} {g n c i vb : Nat} {cur : Array Value} {C : List Value} {v0 v1 : Value} (hg : w.heap[g]? = some (.cells cur 90 (0, 0))) (hC : cur.toList.take (n * 2) = C) (hcs : cur.size = c * 2) (h1c : ∀ u ∈ C, u.oneCell' = true)
    (hv : w.heap[vb]? = some (.cells #[v0, v1] 90 (0, 0))) (h1v : ∀ u ∈ [v0, v1], u.oneCell' = true) (hne : vb ≠ g) (hi : i < n) (hroom : n + 1 ≤ c) (hc63 : c ≤ 9223372036854775807) :
    Calls Try.prog 44 #[.slice (some ⟨g, 0, none⟩) n c, .int .i64 i, .slice (some ⟨vb, 0, none⟩) 1 1] w fun e w' =>
      e = .returned (.slice (some ⟨g, 0, none⟩) (n + 1) c) ∧ w' = (w.drew.setCells g ((i + 1) * 2) (C.drop (i * 2))).setCells g (i * 2) [v0, v1] := by
  have hCl : C.length = n * 2 := by rw [← hC, List.length_take, Array.length_toList]; omega
  have hcell : ∀ j, w.cell? ⟨g, j, none⟩ = cur[j]? := fun j => cell_of_row w g j cur 90 (0, 0) hg
  have hfro : ∀ j, w.frozen? ⟨g, j, none⟩ = false := fun j => frozen_of_row w g j cur 90 hg
  have hsp : ∀ j, j < c * 2 → (w.cell? ⟨g, j, none⟩).isSome = true := fun j hj => by rw [hcell, Array.getElem?_eq_getElem (by omega)]; rfl
  have hCat : ∀ j v, C[j]? = some v → w.cell? ⟨g, j, none⟩ = some v := fun j v hj => by
    rw [hcell, ← Array.getElem?_toList]
    rw [← hC, List.getElem?_take] at hj
    split at hj
    · exact hj
    · cases hj
  have hvat : ∀ j v, [v0, v1][j]? = some v → w.cell? ⟨vb, j, none⟩ = some v := fun j v hj => by
    rw [cell_of_row w vb j _ 90 (0, 0) hv]
    simpa using hj
  have hz2 : ¬ ((i : Int) = (n : Int)) := by omega
  have hov : ∀ lb cb, (callFunc 48 #[.slice (some ⟨vb, 0, none⟩) 1 1, .slice (some ⟨g, (i + 1) * 2, none⟩) lb cb]).run Try.prog w = .ok (.value (.bool false)) w := fun lb cb => by
    rw [run_callFunc_extern Try.func48 (by kernel_rfl) (by kernel_rfl) (by kernel_rfl) (e := Extern.SlicesOverlaps.overlaps #[83, 83] #[4]) (by kernel_rfl),
      Lib.run_overlaps_apart w 83 4 90 Try.underlying83 2 Try.sizeOf90 ⟨vb, 0, none⟩ ⟨g, (i + 1) * 2, none⟩ 1 1 lb cb hne 90 90 2 cur.size (by simp [World.shape?, hv]) (by simp [World.shape?, hg]) (by omega) (frozen_of_row w vb 0 _ 90 hv) (frozen_of_row w vb 2 _ 90 hv)]
    rfl
  have hdl : (C.drop (i * 2)).length = (n - i) * 2 := by rw [List.length_drop, hCl]; omega
  have hw1 : IntKind.i64.wrap ((i : Int) + 1) = (i : Int) + 1 := by rw [IntKind.wrap_i64]; omega
  have hw2 : IntKind.i64.wrap ((n : Int) + 1) = (n : Int) + 1 := by rw [IntKind.wrap_i64]; omega
  have hin : (i : Int) ≤ (n : Int) := by omega
  have hb3 : (i : Int) ≤ (n : Int) + 1 := by omega
  have hb5 : (i : Int) + 1 ≤ (n : Int) + 1 := by omega
  have hb6 : ¬ ((c : Int) < (n : Int) + 1) := by omega
  have hb7 : (n : Int) + 1 ≤ (c : Int) := by omega
  have hb2 : ¬ (c = i + 1) := by omega
  have hb8 : (0 : Int) ≤ (i : Int) + 1 := by omega
  have hb4 : ¬ (c = i) := by omega
  have hcp1 : ∀ ty dc sc, (Builtin.copy_ #[83, 83] ty #[.slice (some ⟨g, (i + 1) * 2, none⟩) (n - i) dc, .slice (some ⟨g, i * 2, none⟩) (n + 1 - i) sc]).run Try.prog w.drew = .ok (goInt (n - i : Nat)) (w.drew.setCells g ((i + 1) * 2) (C.drop (i * 2))) := fun ty dc sc =>
    run_copy_wide w.drew 83 83 ty 90 2 g ((i + 1) * 2) (n - i) dc ⟨g, i * 2, none⟩ (n + 1 - i) sc (n - i) (C.drop (i * 2)) Try.underlying83 size61 (by simp only [Nat.min_def]; split <;> omega) hdl
      (fun j v hj => by rw [add_plain]; exact hCat (i * 2 + j) v (by rwa [List.getElem?_drop] at hj))
      (fun j hj => hsp _ (by rw [hdl] at hj; omega)) (fun j hj => hfro _) (fun v hv => h1c v (List.mem_of_mem_drop hv))
  obtain ⟨W1, hW1⟩ : ∃ W1, W1 = w.drew.setCells g ((i + 1) * 2) (C.drop (i * 2)) := ⟨_, rfl⟩
  have hsp1 : ∀ k, k < c * 2 → (W1.cell? ⟨g, k, none⟩).isSome = true := fun k hk => by
    rw [hW1]
    exact isSome_setCells g _ _ w.drew (fun j hj => hsp ((i + 1) * 2 + j) (by rw [hdl] at hj; omega)) _ (hsp k hk)
  have hcp2 : ∀ ty dc, (Builtin.copy_ #[83, 83] ty #[.slice (some ⟨g, i * 2, none⟩) (n + 1 - i) dc, .slice (some ⟨vb, 0, none⟩) 1 1]).run Try.prog W1 = .ok (goInt (1 : Nat)) (W1.setCells g (i * 2) [v0, v1]) := fun ty dc =>
    run_copy_wide W1 83 83 ty 90 2 g (i * 2) (n + 1 - i) dc ⟨vb, 0, none⟩ 1 1 1 [v0, v1] Try.underlying83 size61 (by simp only [Nat.min_def]; split <;> omega) rfl
      (fun j v hj => by
        rw [add_plain, hW1, World.cell?_setCells_out g _ _ _ _ (fun h _ => absurd h hne), Nat.zero_add]
        exact hvat j v hj)
      (fun j hj => hsp1 (i * 2 + j) (by simp at hj; omega)) (fun j hj => by rw [hW1, World.frozen?_setCells]; exact hfro _) h1v
  rw [← hW1] at hcp1
  have HOV := Lib.hid hov
  have HC1 := Lib.hid hcp1
  have HC2 := Lib.hid hcp2
  have HW := Lib.hid hW1
  clear hov hcp1 hcp2 hsp1 hcell hfro hsp hCat hvat hCl hC hcs h1c h1v hdl hg hv
  rw [← HW.out]
  clear hW1
  have h1 := HC1.out 3 (c - (i + 1)) (c - i)
  have h2 := HC2.out 3 (c - i)
  go_enter Try.func44, Try.ntmps44
  go_wp2_with (simp only [HOV.out])
  go_region
  go_wp2
  go_ret
  exact ⟨rfl, rfl⟩

end Go.Proofs.Ytkcndgiiangmjaa
