/-
  The walk of CksumNothing.
-/
import Derived.Test.YtadpoklopahoeaaRegb
namespace Go.Proofs.Ytadpoklopahoeaa
open Go.ChangeShapes Go.WideShapes Go.ChangeAt Go.RowKit
set_option linter.unusedVariables false

set_option maxHeartbeats 400000 in
theorem nothing_out (a : Option Addr) (n c : Nat) (m : Int) (w : World) (h : n % 2 ≠ 0 ∨ m < 0 ∨ 1000 < m) :
    Calls Try.prog 10 #[.slice a n c, .int .i64 m] w fun e w' => e = .returned (.bool true) ∧ Below w.heap.size w w' := by
  by_cases h0 : n % 2 = 0
  · have h1 : ((n : Int) % 2 != 0) = false := by simp; omega
    rcases h with h | h | h
    · exact absurd h0 h
    · go_enter Try.func10, Try.ntmps10
      go_wp2_with (go_at_call 14; refine (alive_any _).mono ?_; rintro e w1 ⟨rfl, hbel⟩)
      go_ret
      exact ⟨rfl, hbel⟩
    · have h2 : ¬ m < 0 := by omega
      go_enter Try.func10, Try.ntmps10
      go_wp2_with (go_at_call 14; refine (alive_any _).mono ?_; rintro e w1 ⟨rfl, hbel⟩)
      go_ret
      exact ⟨rfl, hbel⟩
  · have h1 : ((n : Int) % 2 != 0) = true := by simp; omega
    clear h
    go_enter Try.func10, Try.ntmps10
    go_wp2_with (go_at_call 14; refine (alive_any _).mono ?_; rintro e w1 ⟨rfl, hbel⟩)
    go_ret
    exact ⟨rfl, hbel⟩

theorem madeCells_get (m j : Nat) (h : j < m) : (madeCells #[Value.int .u8 0] m)[j]? = some (.int .u8 0) := by
  rw [← Array.getElem?_toList, toList_madeCells_one]
  simp [h]
theorem part_made {w : World} {m G : Nat} (hG : G = w.heap.size) : Part (w.alloc (.cells (madeCells #[.int .u8 0] m) 5)) ⟨some ⟨G, 0, none⟩, m, m, List.replicate m 0⟩ := by
  subst hG
  refine ⟨by simp, Nat.le_refl _, ?_, fun _ => ⟨_, _, rfl, fun j hj => ?_⟩⟩
  · intro x hx
    simp at hx
    omega
  · have hj' : j < m := hj
    rw [World.cell?_alloc_at _ _ _ _ rfl, Nat.zero_add, madeCells_get m j hj']
    simp [hj']
theorem tot_zeros : ∀ m : Nat, tot (List.replicate m 0) = 0
  | 0 => rfl
  | 1 => rfl
  | m + 2 => by
    have := tot_zeros m
    simp only [List.replicate_succ, tot, this]; omega

theorem sum_two {W : World} {gb : Nat} {s : Int} (h : ∃ a1 n1 c1 b1 a2 n2 c2 b2, W.cell? ⟨gb, 0, none⟩ = some (.slice a1 n1 c1) ∧ W.cell? ⟨gb, 1, none⟩ = some (.slice a2 n2 c2) ∧ Part W ⟨a1, n1, c1, b1⟩ ∧ Part W ⟨a2, n2, c2, b2⟩ ∧
    (n1 ≤ 140737488355328 ∧ n2 ≤ 140737488355328) ∧ fd (tot (b1 ++ b2)) = s) :
    Calls Try.prog 15 #[.slice (some ⟨gb, 0, none⟩) 2 2] W fun e w' => e = .returned (.int .u16 s) ∧ ∃ q, w' = W.drewN q := by
  obtain ⟨a1, n1, c1, b1, a2, n2, c2, b2, h1, h2, h3, h4, h5, h6⟩ := h
  exact sum_at (ps := [⟨a1, n1, c1, b1⟩, ⟨a2, n2, c2, b2⟩]) (Parts.two h1 h2 h3 h4 h5.1 h5.2) rfl (by simpa [flat] using h6)

theorem info5 : (Try.prog.info? 5).map (fun i => (i.zero, i.size, i.bytes)) = some (some (.int .u8 0), 1, 1) := by kernel_rfl

attribute [local go_sem ↓] Go.wp_at_zero Go.wp_at_succ
set_option maxHeartbeats 4000000 in
theorem nothing_in (a : Option Addr) (n c m : Nat) (bs : List Int) (w : World) (hp : Part w ⟨a, n, c, bs⟩) (hn : c ≤ 140737488351232) (h0 : n % 2 = 0) (hm : m ≤ 1000) :
    Calls Try.prog 10 #[.slice a n c, .int .i64 (m : Int)] w fun e w' => e = .returned (.bool true) ∧ Below w.heap.size w w' := by
  obtain ⟨i0, hi, hz0, hz1, hz2⟩ := info_parts info5
  have hmk : ∀ u : World, (Instr.makeSlice 22 (.int .i64 (m : Int)) (.int .i64 (m : Int))).run Try.prog u =
      .ok (.slice (some ⟨u.heap.size, 0, none⟩) m m) (u.alloc (.cells (madeCells #[.int .u8 0] m) 5)) := fun u => by
    have h := run_make (P := Try.prog) u 22 5 i0 (.int .u8 0) Try.underlying22 hi hz0 .i64 .i64 (m : Int) (m : Int) (by omega) (Int.le_refl _) (by rw [hz2]; omega) (by omega)
    simpa [hz1, Value.cells] using h
  have hmk2 : ∀ u : World, (Instr.makeSlice 22 (.int .i64 (2 * (m : Int))) (.int .i64 (2 * (m : Int)))).run Try.prog u =
      .ok (.slice (some ⟨u.heap.size, 0, none⟩) (2 * m) (2 * m)) (u.alloc (.cells (madeCells #[.int .u8 0] (2 * m)) 5)) := fun u => by
    have h := run_make (P := Try.prog) u 22 5 i0 (.int .u8 0) Try.underlying22 hi hz0 .i64 .i64 (2 * (m : Int)) (2 * (m : Int)) (by omega) (Int.le_refl _) (by rw [hz2]; omega) (by omega)
    have e : (2 * (m : Int)).toNat = 2 * m := by omega
    rw [e] at h
    simpa [hz1, Value.cells] using h
  have h1 : ((n : Int) % 2 != 0) = false := by simp; omega
  have h2 : ¬ (m : Int) < 0 := by omega
  have h3 : ¬ (1000 : Int) < (m : Int) := by omega
  have h4 : IntKind.i64.wrap (2 * (m : Int)) = 2 * (m : Int) := IntWalk.i64_in _ (by omega)
  obtain ⟨s, hs⟩ : ∃ s, fd (tot bs) = s := ⟨_, rfl⟩
  have hnn : n ≤ 140737488355328 := by have : n ≤ c := hp.2.1; omega
  have HS := Lib.hid hs
  have HP := Lib.hid hp.drew
  have HL := Lib.hid (show n ≤ 140737488355328 ∧ m ≤ 140737488355328 by omega)
  have HL2 := Lib.hid (show 2 * m ≤ 140737488355328 ∧ n ≤ 140737488355328 by omega)
  have HS1 := Lib.hid (show fd (tot (bs ++ List.replicate m 0)) = s by
    rw [tot_append_even _ _ (by rw [show bs.length = n from hp.1]; exact h0), tot_zeros, Int.add_zero]; exact hs)
  have HS2 := Lib.hid (show fd (tot (List.replicate (2 * m) 0 ++ bs)) = s by
    rw [tot_append_even _ _ (by simp), tot_zeros, Int.zero_add]; exact hs)
  clear hp hi hz0 hz1 hz2 hs h0
  go_enter Try.func10, Try.ntmps10
  go_wp2_with fail
  go_region_held3 (fun _ => True) (trivial)
    (first
      | (go_at_call 14; refine (alive_any _).mono ?_; rintro e w1 ⟨rfl, hbel⟩; have HP1 := Lib.hid (HP.out.below hbel); have HB1 := Lib.hid (below_of_drew hbel); clear hbel)
      | (go_at_call 15
         (with_reducible refine (sum_one (a := a) (n := n) (c := c) (bs := bs) ?_ hnn HS.out).mono ?_)
         (focus (refine ⟨?_, ?_⟩; (focus ((repeat (first | ((with_reducible refine (World.cell?_alloc_at _ _ _ _ ?_).trans ?_); (focus (simp; done)); (focus rfl)) | (with_reducible refine cell_drewN ?_) | (with_reducible refine cell_past ?_))))); (focus ((repeat (first | exact HP1.out | (with_reducible refine Part.drewN ?_ _) | (with_reducible refine Part.alloc ?_ _)))))))
         rintro e w2 ⟨rfl, q, rfl⟩)
      | (go_at_call 15
         (with_reducible refine (sum_two (s := s) ?_).mono ?_)
         (focus (apply Exists.intro; apply Exists.intro; apply Exists.intro; apply Exists.intro; apply Exists.intro; apply Exists.intro; apply Exists.intro; apply Exists.intro; refine ⟨?_, ?_, ?_, ?_, ?_, ?_⟩; (focus ((repeat (first | ((with_reducible refine (World.cell?_alloc_at _ _ _ _ ?_).trans ?_); (focus (simp; done)); (focus rfl)) | (with_reducible refine cell_drewN ?_) | (with_reducible refine cell_past ?_))))); (focus ((repeat (first | ((with_reducible refine (World.cell?_alloc_at _ _ _ _ ?_).trans ?_); (focus (simp; done)); (focus rfl)) | (with_reducible refine cell_drewN ?_) | (with_reducible refine cell_past ?_))))); (focus ((repeat (first | exact HP1.out | ((with_reducible refine part_made ?_); (simp; done)) | (with_reducible refine Part.drewN ?_ _) | (with_reducible refine Part.alloc ?_ _))))); (focus ((repeat (first | exact HP1.out | ((with_reducible refine part_made ?_); (simp; done)) | (with_reducible refine Part.drewN ?_ _) | (with_reducible refine Part.alloc ?_ _))))); (focus (first | exact HL.out | exact HL2.out)); (focus (first | exact HS1.out | exact HS2.out))))
         rintro e w2 ⟨rfl, q, rfl⟩))
  all_goals
    go_wp2
    go_ret
    refine ⟨rfl, ?_⟩
    repeat (first | exact HB1.out | refine below_alloc ?_ _ | refine below_drewN ?_ _)

set_option maxHeartbeats 400000 in
theorem nothing_walk (a : Option Addr) (n c : Nat) (bs : List Int) (m : Int) (w : World) (hp : Part w ⟨a, n, c, bs⟩) (hn : c ≤ 140737488351232) (_hm : (Lit.int .i64 m).wf = true) :
    Calls Try.prog 10 #[.slice a n c, .int .i64 m] w fun e w' => e = .returned (.bool true) ∧ Below w.heap.size w w' := by
  by_cases h : n % 2 ≠ 0 ∨ m < 0 ∨ 1000 < m
  · exact nothing_out a n c m w h
  · obtain ⟨k, rfl⟩ := Int.eq_ofNat_of_zero_le (show 0 ≤ m by omega)
    exact nothing_in a n c k bs w hp hn (by omega) (by omega)


end Go.Proofs.Ytadpoklopahoeaa
