/-
  slices.Delete of one timer out of a row of timers.
-/
import Derived.Test.YtkcndgiiangmjaaWide
namespace Go.Proofs.Ytkcndgiiangmjaa
open Go.RowKit Go.Proofs
set_option linter.unusedVariables false
set_option linter.unusedSimpArgs false
set_option maxRecDepth 100000

theorem step_append_run {ops : Array Oper} {o : Oper} {a : Act} {w w' : World} {K : Act → World → Prop} {Q : Exit → Act → World → Prop} {E : Prop} (hgd : o.guard = none) (s x : Operand) (sT xT : TypeId)
    (ho : o.op = .call { callee := .builtin .append, args := #[s, x], argTypes := #[sT, xT] }) {v u v' : Value} (hs : a.eval s = v) (hx : a.eval x = u)
    (ty : TypeId) (hty : o.type = ty) (hr : (Builtin.append_ #[sT, xT] ty #[v, u]).run Try.prog w = .ok v' w') (hK : K (a.put o.dst v') w') :
    if Region.wanted o (yielded ops a.tmps) = true then Oper.wp Try.prog o a w K Q else E := by
  have hw : Region.wanted o (yielded ops a.tmps) = true := by simp [Region.wanted, hgd]
  rw [if_pos hw]
  subst hty
  unfold Oper.wp execOp
  simp only [ho, resolve, invoke, builtin, Sem.run_bind, Sem.run_pure, Result.andThen_ok, List.map_toArray, List.map_cons, List.map_nil, hs, hx, hr]
  exact hK

set_option maxHeartbeats 4000000 in
theorem delete_one {w : World} {g n c i : Nat} {cur : Array Value} {C : List Value} (hg : w.heap[g]? = some (.cells cur 90 (0, 0))) (hC : cur.toList.take (n * 2) = C) (hcs : cur.size = c * 2) (h1c : ∀ u ∈ C, u.oneCell' = true)
    (hi : i < n) (hnc : n ≤ c) (hc63 : c ≤ 9223372036854775807) :
    Calls Try.prog 45 #[.slice (some ⟨g, 0, none⟩) n c, .int .i64 i, .int .i64 ((i : Int) + 1)] w fun e w' =>
      e = .returned (.slice (some ⟨g, 0, none⟩) (n - 1) c) ∧ w' = (w.drew.setCells g (i * 2) (C.drop ((i + 1) * 2))).setCells g ((n - 1) * 2) (zts 1) := by
  obtain ⟨i0, hi0, hz0, hz1, hzb⟩ := info_parts info61
  have hCl : C.length = n * 2 := by rw [← hC, List.length_take, Array.length_toList]; omega
  have hdl : (C.drop ((i + 1) * 2)).length = (n - (i + 1)) * 2 := by rw [List.length_drop, hCl]; omega
  have hcell : ∀ j, w.drew.cell? ⟨g, j, none⟩ = cur[j]? := fun j => cell_of_row w g j cur 90 (0, 0) hg
  have hfro : ∀ j, w.drew.frozen? ⟨g, j, none⟩ = false := fun j => frozen_of_row w g j cur 90 hg
  have hsp : ∀ j, j < c * 2 → (w.drew.cell? ⟨g, j, none⟩).isSome = true := fun j hj => by rw [hcell, Array.getElem?_eq_getElem (by omega)]; rfl
  have hCat : ∀ j v, C[j]? = some v → w.drew.cell? ⟨g, j, none⟩ = some v := fun j v hj => by
    rw [hcell, ← Array.getElem?_toList]
    rw [← hC, List.getElem?_take] at hj
    split at hj
    · exact hj
    · cases hj
  -- where the rest begins
  obtain ⟨A, hA, hsrc⟩ : ∃ A : Addr, (if c = i + 1 then (some ⟨g, 0, none⟩ : Option Addr) else some ⟨g, (i + 1) * 2, none⟩) = some A ∧ (∀ j u, (C.drop ((i + 1) * 2))[j]? = some u → w.drew.cell? (A.add j) = some u) := by
    by_cases h : c = i + 1
    · refine ⟨⟨g, 0, none⟩, by simp [h], fun j u hu => ?_⟩
      have h0 : C.drop ((i + 1) * 2) = [] := List.eq_nil_of_length_eq_zero (by rw [hdl]; omega)
      rw [h0] at hu
      simp at hu
    · refine ⟨⟨g, (i + 1) * 2, none⟩, by simp [h], fun j u hu => ?_⟩
      rw [add_plain]
      exact hCat _ _ (by rwa [List.getElem?_drop] at hu)
  have hap := run_append_room_cells (P := Try.prog) w.drew 83 83 90 i0 Try.underlying83 hi0 g 0 i c A (n - (i + 1)) (c - (i + 1)) (C.drop ((i + 1) * 2)) (by rw [hz1]; exact hdl) hsrc (fun v hv => h1c v (List.mem_of_mem_drop hv)) (by omega)
    (fun j hj => by rw [hz1, Nat.zero_add]; exact hsp (i * 2 + j) (by rw [hdl] at hj; omega)) (fun j hj => hfro _)
  rw [hz1, Nat.zero_add, show i + (n - (i + 1)) = n - 1 by omega] at hap
  obtain ⟨W1, hW1⟩ : ∃ W1, W1 = w.drew.setCells g (i * 2) (C.drop ((i + 1) * 2)) := ⟨_, rfl⟩
  rw [← hW1] at hap ⊢
  have hcl := fun ty c' => run_clear_timers W1 ty g ((n - 1) * 2) 1 c' (fun j hj => by
      rw [hW1]
      exact isSome_setCells g _ _ w.drew (fun k hk => hsp (i * 2 + k) (by rw [hdl] at hk; omega)) _ (hsp ((n - 1) * 2 + j) (by omega)))
    (fun j hj => by rw [hW1, World.frozen?_setCells]; exact hfro _)
  have HAP := Lib.hid hap
  have HCL := Lib.hid hcl
  clear hap hcl hsrc hcell hfro hsp hCat hCl hC hcs h1c hdl hg hW1 hi0 hz0 hz1 hzb
  have hic : i ≤ c := by omega
  have hb1 : (i : Int) ≤ (i : Int) + 1 := by omega
  have hb2 : (i : Int) + 1 ≤ (n : Int) := by omega
  have hb3 : (n : Int) ≤ (c : Int) := by omega
  have hb4 : ¬ ((i : Int) = (i : Int) + 1) := by omega
  have hb5 : (0 : Int) ≤ (i : Int) + 1 := by omega
  go_enter Try.func45, Try.ntmps45
  go_wp2_with fail
  go_region_law (refine step_append_run rfl (.tmp 22) (.tmp 25) 83 83 rfl (v := .slice (some ⟨g, 0, none⟩) i c) (u := .slice (some A) (n - (i + 1)) (c - (i + 1))) rfl rfl 83 rfl HAP.out ?_)
  have e1 : n - (n - 1) = 1 := by omega
  have h9 := HCL.out 0 (c - (n - 1))
  go_wp2
  go_ret
  exact ⟨rfl, rfl⟩

/-- A timer goes out of a row of timers. -/
theorem delete_any {w : World} {base n i : Nat} {v : Value} {l : List Tm} (hrow : w.ownsRow base 90 2 v n (tcells l)) (hi : i < n) :
    Calls Try.prog 45 #[v, .int .i64 i, .int .i64 ((i : Int) + 1)] w fun e w' =>
      ∃ v', e = .returned v' ∧ w'.ownsRow base 90 2 v' (n - 1) (tcells (l.take i ++ l.drop (i + 1))) ∧ w.grownBy w' v.ownBlock ∧ v'.ownBlock = v.ownBlock := by
  have hl : l.length = n := by have := hrow.1; rw [tcells_len] at this; omega
  obtain ⟨g, c, rfl, hnc, hcm, hbg, hgl⟩ := row_slice hrow (by omega)
  rcases hrow.2 with ⟨h, _⟩ | ⟨g', cap, cur, h, _, hg, _, _, hcs, htake⟩
  · simp at h
  · simp only [Value.slice.injEq, Option.some.injEq, Addr.mk.injEq, and_true, true_and] at h
    obtain ⟨rfl, rfl⟩ := h
    refine (delete_one hg htake hcs (tcells_one l) hi hnc (by simp only [maxLen] at hcm; omega)).mono ?_
    rintro e w' ⟨rfl, rfl⟩
    have hCl : (tcells l).length = n * 2 := by rw [tcells_len, hl]
    have hdl : ((tcells l).drop ((i + 1) * 2)).length = (n - (i + 1)) * 2 := by rw [List.length_drop, hCl]; omega
    obtain ⟨hW1g, hW1b⟩ := row_written (show w.drew.heap[g]? = _ from hg) (i * 2) ((tcells l).drop ((i + 1) * 2)) (by rw [hdl]; omega)
    have hL1 : (splice cur.toList (i * 2) ((tcells l).drop ((i + 1) * 2))).length = c * 2 := by rw [length_splice _ _ _ (by rw [hdl, Array.length_toList]; omega), Array.length_toList, hcs]
    obtain ⟨hW2g, hW2b⟩ := row_written hW1g ((n - 1) * 2) (zts 1) (by rw [List.size_toArray, hL1, zts_len]; omega)
    refine ⟨_, rfl, ⟨by rw [tcells_len]; simp; omega, .inr ⟨g, c, _, rfl, hbg, hW2g, by omega, hcm, ?_, ?_⟩⟩, grown_undrew (grown_trans hW1b hW2b), rfl⟩
    · rw [List.size_toArray, length_splice _ _ _ (by rw [hL1, zts_len]; omega), hL1]
    · rw [tcells_app, ← tcells_take, ← tcells_drop]
      exact splice_del cur.toList (tcells l) n i htake (by rw [Array.length_toList]; omega) hi (zts 1) (by rw [zts_len])

end Go.Proofs.Ytkcndgiiangmjaa
