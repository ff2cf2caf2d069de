/-
  What a round does: sip.round, and the reference's Round.
-/
import Derived.Test.YtondjponengedaaLeaf
import Derived.StillTailTactics
namespace Go.Proofs.Ytondjponengedaa
set_option maxRecDepth 10000
open Go.RowKit

/-- The four numbers as a value. -/
def V4.val (v : V4) : Value := .agg #[.int .u64 v.a, .int .u64 v.b, .int .u64 v.c, .int .u64 v.d]

theorem wp_region_tail {P : Program} {id : Nat} {Q : Exit → Act → World → Prop} {a : Act} {w : World} {l : List Oper} (n : Nat) (hm : P.follows .mixedOrders = true) (hB : Region.lexTailB .any l.toArray n = true)
    (h : wpStill P l.toArray w.drew (fun a' => wpList P l.toArray Q (l.drop n) a' w.drew) (l.take n) a) : (Code.region id l.toArray true).wp P Q a w := wp_region_still_tail n hm hB h
theorem same_turn {P : Program} {f : FuncId} {args : Array Value} {w : World} {v : Value} (h : Calls P f args w fun e w' => e = .returned v ∧ w = w') : Calls P f args w fun e w' => e = .returned v ∧ w' = w := h.mono fun _ _ h => ⟨h.1, h.2.symm⟩

set_option maxHeartbeats 1000000 in
/-- sip.round. -/
theorem round_any (v : V4) (w : World) (hv : v.Ok) : Calls Try.prog 94 #[v.val] w fun e w' => e = .returned (rnd v).val ∧ Below w.heap.size w w' := by
  obtain ⟨a, b, c, d⟩ := v
  obtain ⟨ha, hb, hc, hd⟩ := hv
  simp only at ha hb hc hd
  obtain ⟨a1, ha1⟩ : ∃ x, IntKind.u64.wrap (a + b) = x := ⟨_, rfl⟩
  have ua1 : U a1 := by rw [← ha1, IntKind.wrap_u64]; exact ad_u a b
  obtain ⟨p, hp⟩ : ∃ x, rl b 13 = x := ⟨_, rfl⟩
  obtain ⟨b1, hb1⟩ : ∃ x, bits BinOp.xor IntKind.u64 p a1 = x := ⟨_, rfl⟩
  have ub1 : U b1 := by rw [← hb1]; exact xr_u _ _
  obtain ⟨a2, ha2⟩ : ∃ x, rl a1 32 = x := ⟨_, rfl⟩
  obtain ⟨c1, hc1⟩ : ∃ x, IntKind.u64.wrap (c + d) = x := ⟨_, rfl⟩
  obtain ⟨q, hq⟩ : ∃ x, rl d 16 = x := ⟨_, rfl⟩
  obtain ⟨d1, hd1⟩ : ∃ x, bits BinOp.xor IntKind.u64 q c1 = x := ⟨_, rfl⟩
  have ud1 : U d1 := by rw [← hd1]; exact xr_u _ _
  obtain ⟨a3, ha3⟩ : ∃ x, IntKind.u64.wrap (a2 + d1) = x := ⟨_, rfl⟩
  obtain ⟨r, hr⟩ : ∃ x, rl d1 21 = x := ⟨_, rfl⟩
  obtain ⟨d2, hd2⟩ : ∃ x, bits BinOp.xor IntKind.u64 r a3 = x := ⟨_, rfl⟩
  obtain ⟨c2, hc2⟩ : ∃ x, IntKind.u64.wrap (c1 + b1) = x := ⟨_, rfl⟩
  have uc2 : U c2 := by rw [← hc2, IntKind.wrap_u64]; exact ad_u c1 b1
  obtain ⟨s, hs⟩ : ∃ x, rl b1 17 = x := ⟨_, rfl⟩
  obtain ⟨b2, hb2⟩ : ∃ x, bits BinOp.xor IntKind.u64 s c2 = x := ⟨_, rfl⟩
  obtain ⟨c3, hc3⟩ : ∃ x, rl c2 32 = x := ⟨_, rfl⟩
  have H : (rnd ⟨a, b, c, d⟩).val = .agg #[.int .u64 a3, .int .u64 b2, .int .u64 c3, .int .u64 d2] := by
    rw [IntKind.wrap_u64] at ha1 hc1 ha3 hc2
    simp only [rnd, V4.val, ad, xr, ha1, hp, hb1, ha2, hc1, hq, hd1, ha3, hr, hd2, hc2, hs, hb2, hc3]
  rw [H]
  clear H
  have R1 := Lib.hid (fun w => hp ▸ rot13 b w hb)
  have R2 := Lib.hid (fun w => ha2 ▸ rot32 a1 w ua1)
  have R3 := Lib.hid (fun w => hq ▸ rot16 d w hd)
  have R4 := Lib.hid (fun w => hr ▸ rot21 d1 w ud1)
  have R5 := Lib.hid (fun w => hs ▸ rot17 b1 w ub1)
  have R6 := Lib.hid (fun w => hc3 ▸ rot32 c2 w uc2)
  clear hp ha2 hq hr hs hc3 ha hb hc hd ua1 ub1 ud1 uc2
  simp only [V4.val]
  go_enter Try.func94, Try.ntmps94
  go_wp2
  refine wp_region_tail 7 (by kernel_rfl) (by kernel_rfl) ?_
  simp only [List.take_succ_cons, List.take_zero, List.drop_succ_cons, List.drop_zero]
  repeat (first | still_step | still_call (same_turn (R1.out _)))
  refine wpStill_nil ?_
  go_wp2_with (go_at_call 95; refine (R2.out _).mono ?_; rintro e w' ⟨rfl, rfl⟩)
  refine wp_region_tail 7 (by kernel_rfl) (by kernel_rfl) ?_
  simp only [List.take_succ_cons, List.take_zero, List.drop_succ_cons, List.drop_zero]
  repeat (first | still_step | still_call (same_turn (R3.out _)))
  refine wpStill_nil ?_
  go_wp2
  refine wp_region_tail 7 (by kernel_rfl) (by kernel_rfl) ?_
  simp only [List.take_succ_cons, List.take_zero, List.drop_succ_cons, List.drop_zero]
  repeat (first | still_step | still_call (same_turn (R4.out _)))
  refine wpStill_nil ?_
  go_wp2
  refine wp_region_tail 7 (by kernel_rfl) (by kernel_rfl) ?_
  simp only [List.take_succ_cons, List.take_zero, List.drop_succ_cons, List.drop_zero]
  repeat (first | still_step | still_call (same_turn (R5.out _)))
  refine wpStill_nil ?_
  go_wp2_with (go_at_call 95; refine (R6.out _).mono ?_; rintro e w' ⟨rfl, rfl⟩)
  exact bodyPost_ret (v := .agg #[.int .u64 a3, .int .u64 b2, .int .u64 c3, .int .u64 d2]) (by simp [results, Try.results94, go_sem]) rfl ⟨rfl, below_drew (below_drew (below_drew (below_drew (((Below.refl _ _).alloc (Nat.le_refl _) _).alloc (by simp) _))))⟩

set_option maxHeartbeats 1000000 in
/-- outriderref07.Round. -/
theorem rround_any (v : V4) (w : World) (hv : v.Ok) : Calls Try.prog 63 #[v.val] w fun e w' => e = .returned (rnd v).val ∧ Below w.heap.size w w' := by
  obtain ⟨a, b, c, d⟩ := v
  obtain ⟨ha, hb, hc, hd⟩ := hv
  simp only at ha hb hc hd
  obtain ⟨a1, ha1⟩ : ∃ x, IntKind.u64.wrap (a + b) = x := ⟨_, rfl⟩
  have ua1 : U a1 := by rw [← ha1, IntKind.wrap_u64]; exact ad_u a b
  obtain ⟨p, hp⟩ : ∃ x, rl b 13 = x := ⟨_, rfl⟩
  obtain ⟨b1, hb1⟩ : ∃ x, bits BinOp.xor IntKind.u64 p a1 = x := ⟨_, rfl⟩
  have ub1 : U b1 := by rw [← hb1]; exact xr_u _ _
  obtain ⟨a2, ha2⟩ : ∃ x, rl a1 32 = x := ⟨_, rfl⟩
  obtain ⟨c1, hc1⟩ : ∃ x, IntKind.u64.wrap (c + d) = x := ⟨_, rfl⟩
  obtain ⟨q, hq⟩ : ∃ x, rl d 16 = x := ⟨_, rfl⟩
  obtain ⟨d1, hd1⟩ : ∃ x, bits BinOp.xor IntKind.u64 q c1 = x := ⟨_, rfl⟩
  have ud1 : U d1 := by rw [← hd1]; exact xr_u _ _
  obtain ⟨a3, ha3⟩ : ∃ x, IntKind.u64.wrap (a2 + d1) = x := ⟨_, rfl⟩
  obtain ⟨r, hr⟩ : ∃ x, rl d1 21 = x := ⟨_, rfl⟩
  obtain ⟨d2, hd2⟩ : ∃ x, bits BinOp.xor IntKind.u64 r a3 = x := ⟨_, rfl⟩
  obtain ⟨c2, hc2⟩ : ∃ x, IntKind.u64.wrap (c1 + b1) = x := ⟨_, rfl⟩
  have uc2 : U c2 := by rw [← hc2, IntKind.wrap_u64]; exact ad_u c1 b1
  obtain ⟨s, hs⟩ : ∃ x, rl b1 17 = x := ⟨_, rfl⟩
  obtain ⟨b2, hb2⟩ : ∃ x, bits BinOp.xor IntKind.u64 s c2 = x := ⟨_, rfl⟩
  obtain ⟨c3, hc3⟩ : ∃ x, rl c2 32 = x := ⟨_, rfl⟩
  have H : (rnd ⟨a, b, c, d⟩).val = .agg #[.int .u64 a3, .int .u64 b2, .int .u64 c3, .int .u64 d2] := by
    rw [IntKind.wrap_u64] at ha1 hc1 ha3 hc2
    simp only [rnd, V4.val, ad, xr, ha1, hp, hb1, ha2, hc1, hq, hd1, ha3, hr, hd2, hc2, hs, hb2, hc3]
  rw [H]
  clear H
  have R1 := Lib.hid (fun w => hp ▸ left_any b 13 w hb (by omega))
  have R2 := Lib.hid (fun w => ha2 ▸ left_any a1 32 w ua1 (by omega))
  have R3 := Lib.hid (fun w => hq ▸ left_any d 16 w hd (by omega))
  have R4 := Lib.hid (fun w => hr ▸ left_any d1 21 w ud1 (by omega))
  have R5 := Lib.hid (fun w => hs ▸ left_any b1 17 w ub1 (by omega))
  have R6 := Lib.hid (fun w => hc3 ▸ left_any c2 32 w uc2 (by omega))
  clear hp ha2 hq hr hs hc3 ha hb hc hd ua1 ub1 ud1 uc2
  simp only [V4.val]
  go_enter Try.func63, Try.ntmps63
  go_wp2
  refine wp_region_tail 7 (by kernel_rfl) (by kernel_rfl) ?_
  simp only [List.take_succ_cons, List.take_zero, List.drop_succ_cons, List.drop_zero]
  repeat (first | still_step | still_call (same_turn (R1.out _)))
  refine wpStill_nil ?_
  go_wp2_with (go_at_call 85; refine (R2.out _).mono ?_; rintro e w' ⟨rfl, rfl⟩)
  refine wp_region_tail 7 (by kernel_rfl) (by kernel_rfl) ?_
  simp only [List.take_succ_cons, List.take_zero, List.drop_succ_cons, List.drop_zero]
  repeat (first | still_step | still_call (same_turn (R3.out _)))
  refine wpStill_nil ?_
  go_wp2
  refine wp_region_tail 7 (by kernel_rfl) (by kernel_rfl) ?_
  simp only [List.take_succ_cons, List.take_zero, List.drop_succ_cons, List.drop_zero]
  repeat (first | still_step | still_call (same_turn (R4.out _)))
  refine wpStill_nil ?_
  go_wp2
  refine wp_region_tail 7 (by kernel_rfl) (by kernel_rfl) ?_
  simp only [List.take_succ_cons, List.take_zero, List.drop_succ_cons, List.drop_zero]
  repeat (first | still_step | still_call (same_turn (R5.out _)))
  refine wpStill_nil ?_
  go_wp2_with (go_at_call 85; refine (R6.out _).mono ?_; rintro e w' ⟨rfl, rfl⟩)
  exact bodyPost_ret (v := .agg #[.int .u64 a3, .int .u64 b2, .int .u64 c3, .int .u64 d2]) (by simp [results, Try.results63, go_sem]) rfl ⟨rfl, below_drew (below_drew (below_drew (below_drew (((Below.refl _ _).alloc (Nat.le_refl _) _).alloc (by simp) _))))⟩

end Go.Proofs.Ytondjponengedaa
