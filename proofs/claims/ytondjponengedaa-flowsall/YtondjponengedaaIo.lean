/-
  flows.inOrder, flows.byEnds.
-/
import Derived.Test.YtondjponengedaaCmp
namespace Go.Proofs.Ytondjponengedaa
open Go.RowKit
set_option linter.unusedVariables false
set_option maxRecDepth 10000

def Quiet (w w' : World) : Prop := ∃ q os, w' = _root_.Go.Sort.grow (w.drewN q) os
theorem Quiet.refl (w : World) : Quiet w w := ⟨0, #[], by rw [_root_.Go.Sort.grow_empty]; rfl⟩
theorem Quiet.alloc {w w' : World} (h : Quiet w w') (o : Obj) : Quiet w (w'.alloc o) := by
  obtain ⟨q, os, rfl⟩ := h
  exact ⟨q, os.push o, by rw [_root_.Go.Sort.alloc_eq_grow, _root_.Go.Sort.grow_grow, Array.push_eq_append]⟩
theorem Quiet.drewN {w w' : World} (h : Quiet w w') (n : Nat) : Quiet w (w'.drewN n) := by
  obtain ⟨q, os, rfl⟩ := h
  exact ⟨q + n, os, by rw [← World.drewN_drewN]; rfl⟩
theorem Quiet.drew {w w' : World} (h : Quiet w w') : Quiet w w'.drew := h.drewN 1
theorem Quiet.trans {w w1 w2 : World} (h : Quiet w w1) (k : Quiet w1 w2) : Quiet w w2 := by
  obtain ⟨q, os, rfl⟩ := h
  obtain ⟨r, ot, rfl⟩ := k
  exact ⟨q + r, os ++ ot, by rw [← World.drewN_drewN, ← _root_.Go.Sort.grow_grow]; rfl⟩
theorem Quiet.below {w w' : World} (h : Quiet w w') : Below w.heap.size w w' := by
  obtain ⟨q, os, rfl⟩ := h
  exact ⟨rfl, rfl, rfl, by rw [_root_.Go.Sort.size_grow]; exact Nat.le_add_right _ _, fun k hk => _root_.Go.Sort.heap_grow_old _ _ hk⟩

set_option maxHeartbeats 2000000 in
theorem inOrder_any (a b : En) (w : World) : Calls Try.prog 35 #[ev a, ev b] w fun e w' => e = .returned (.int .i64 (ordF a.fl b.fl)) ∧ Quiet w w' := by
  obtain ⟨⟨p, f, t, o, d⟩, k, s, n⟩ := a
  obtain ⟨⟨p', f', t', o', d'⟩, k', s', n'⟩ := b
  simp only [ev]
  obtain ⟨c1, h1⟩ : ∃ c, cmpI p p' = c := ⟨_, rfl⟩
  obtain ⟨c2, h2⟩ : ∃ c, cmp8 f f' = c := ⟨_, rfl⟩
  obtain ⟨c3, h3⟩ : ∃ c, cmpI o o' = c := ⟨_, rfl⟩
  obtain ⟨c4, h4⟩ : ∃ c, cmp8 t t' = c := ⟨_, rfl⟩
  obtain ⟨c5, h5⟩ : ∃ c, cmpI d d' = c := ⟨_, rfl⟩
  have H : ordF ⟨p, f, t, o, d⟩ ⟨p', f', t', o', d'⟩ = orL [c1, c2, c3, c4, c5] := by rw [orL_five]; simp only [ordF, h1, h2, h3, h4, h5]
  rw [H]
  clear H
  obtain ⟨r, hr⟩ : ∃ r, orL [c1, c2, c3, c4, c5] = r := ⟨_, rfl⟩
  have OT := Lib.hid (fun g w hx => hr ▸ or_any [c1, c2, c3, c4, c5] g 5 w rfl (by omega) hx)
  rw [hr]
  clear hr
  have C1 := Lib.hid (fun w => h1 ▸ compare_any p p' w)
  have C2 := Lib.hid (fun w => h2 ▸ compares_any f f' w)
  have C3 := Lib.hid (fun w => h3 ▸ compare_any o o' w)
  have C4 := Lib.hid (fun w => h4 ▸ compares_any t t' w)
  have C5 := Lib.hid (fun w => h5 ▸ compare_any d d' w)
  clear h1 h2 h3 h4 h5
  go_enter Try.func35, Try.ntmps35
  go_wp2
  go_region
  all_goals
    go_wp2
    refine wp_region_tail 25 (by kernel_rfl) (by kernel_rfl) ?_
    simp only [List.take_succ_cons, List.take_zero, List.drop_succ_cons, List.drop_zero]
    repeat still_step
    still_call (same_turn (C1.out _))
    repeat still_step
    still_call (same_turn (C2.out _))
    repeat still_step
    still_call (same_turn (C3.out _))
    repeat still_step
    still_call (same_turn (C4.out _))
    repeat still_step
    still_call (same_turn (C5.out _))
    refine wpStill_nil ?_
    go_wp2_with fail
    refine (OT.out _ _ ?_).mono ?_
    · intro j hj
      rcases (show j = 0 ∨ j = 1 ∨ j = 2 ∨ j = 3 ∨ j = 4 by omega) with rfl | rfl | rfl | rfl | rfl
      all_goals simp [go_sem]
    rintro e w' ⟨rfl, rfl⟩
    go_wp2
    go_ret
    refine ⟨rfl, ?_⟩
    first | exact (((((((Quiet.refl _).alloc _).alloc _).alloc _).alloc _).alloc _).drew).drew

set_option maxHeartbeats 2000000 in
theorem byEnds_any (a b : En) (w : World) : Calls Try.prog 50 #[ev a, ev b] w fun e w' => e = .returned (.int .i64 (ordE a b)) ∧ Quiet w w' := by
  have C2 := Lib.hid (fun w => inOrder_any a b w)
  have H : ordE a b = orL [cmpI a.ends b.ends, ordF a.fl b.fl] := by rw [orL_two]; rfl
  rw [H]
  clear H
  obtain ⟨c1, h1⟩ : ∃ c, cmpI a.ends b.ends = c := ⟨_, rfl⟩
  obtain ⟨c2, h2⟩ : ∃ c, ordF a.fl b.fl = c := ⟨_, rfl⟩
  have C1 := Lib.hid (fun w => h1 ▸ compare_any a.ends b.ends w)
  rw [h2] at C2
  rw [h1, h2]
  clear h1 h2
  obtain ⟨⟨p, f, t, o, d⟩, k, s, n⟩ := a
  obtain ⟨⟨p', f', t', o', d'⟩, k', s', n'⟩ := b
  simp only [ev] at C1 C2 ⊢
  obtain ⟨r, hr⟩ : ∃ r, orL [c1, c2] = r := ⟨_, rfl⟩
  have OT := Lib.hid (fun g w hx => hr ▸ or_any [c1, c2] g 2 w rfl (by omega) hx)
  rw [hr]
  clear hr
  go_enter Try.func50, Try.ntmps50
  go_wp2
  refine wp_region_tail 7 (by kernel_rfl) (by kernel_rfl) ?_
  simp only [List.take_succ_cons, List.take_zero, List.drop_succ_cons, List.drop_zero]
  repeat still_step
  still_call (same_turn (C1.out _))
  repeat still_step
  refine wpStill_nil ?_
  go_wp2_with fail
  refine (C2.out _).mono ?_
  rintro e w1 ⟨rfl, hq⟩
  go_wp2_with fail
  refine (OT.out _ _ ?_).mono ?_
  · intro j hj
    rcases (show j = 0 ∨ j = 1 by omega) with rfl | rfl
    all_goals simp [go_sem]
  rintro e w' ⟨rfl, rfl⟩
  go_wp2
  go_ret
  refine ⟨rfl, ?_⟩
  first | exact ((((((Quiet.refl _).alloc _).alloc _).drew).trans hq).alloc _) | trace_state

end Go.Proofs.Ytondjponengedaa
