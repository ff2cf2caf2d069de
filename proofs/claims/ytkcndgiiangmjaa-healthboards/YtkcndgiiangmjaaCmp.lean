/-
  cmp.Compare, cmp.Or, wheel.inTurn: which of two timers is told first.
-/
import Derived.Test.YtkcndgiiangmjaaBase
import Derived.StillTailTactics
namespace Go.Proofs.Ytkcndgiiangmjaa
open Go.RowKit
set_option linter.unusedVariables false
set_option linter.unusedSimpArgs false
set_option maxRecDepth 10000

theorem wp_region_tail {P : Program} {id : Nat} {Q : Exit → Act → World → Prop} {a : Act} {w : World} {l : List Oper} (n : Nat) (hm : P.follows .mixedOrders = true) (hB : Region.lexTailB .any l.toArray n = true)
    (h : wpStill P l.toArray w.drew (fun a' => wpList P l.toArray Q (l.drop n) a' w.drew) (l.take n) a) : (Code.region id l.toArray true).wp P Q a w := wp_region_still_tail n hm hB h
theorem same_turn {P : Program} {f : FuncId} {args : Array Value} {w : World} {v : Value} (h : Calls P f args w fun e w' => e = .returned v ∧ w = w') : Calls P f args w fun e w' => e = .returned v ∧ w' = w := h.mono fun _ _ h => ⟨h.1, h.2.symm⟩

def cmpI (a b : Int) : Int := if a < b then -1 else if b < a then 1 else 0
def turn (a b : Tm) : Int := if cmpI a.at_ b.at_ = 0 then cmpI a.id b.id else cmpI a.at_ b.at_
theorem turn_neg (a b : Tm) : turn a b < 0 ↔ pre a b = true := by
  rw [pre_iff]
  unfold turn cmpI
  repeat' split
  all_goals omega

set_option maxHeartbeats 400000 in
theorem isNaN_any (x : Int) (w : World) : Calls Try.prog 50 #[.int .i64 x] w fun e w' => e = .returned (.bool false) ∧ w = w' := by
  go_enter Try.func50, Try.ntmps50
  go_wp2
  go_ret
  first | exact ⟨rfl, rfl⟩ | exact ⟨ret_bool (by simp), rfl⟩

set_option maxHeartbeats 400000 in
theorem compare_any (a b : Int) (w : World) : Calls Try.prog 47 #[.int .i64 a, .int .i64 b] w fun e w' => e = .returned (.int .i64 (cmpI a b)) ∧ w = w' := by
  by_cases h1 : a < b
  · have e : cmpI a b = -1 := by unfold cmpI; rw [if_pos h1]
    rw [e]
    clear e
    go_enter Try.func47, Try.ntmps47
    go_wp2_with (go_at_call 50; refine (isNaN_any _ _).mono ?_; rintro e w' ⟨rfl, rfl⟩)
    go_ret
    exact ⟨rfl, rfl⟩
  · by_cases h2 : b < a
    · have e : cmpI a b = 1 := by unfold cmpI; rw [if_neg h1, if_pos h2]
      rw [e]
      clear e
      go_enter Try.func47, Try.ntmps47
      go_wp2_with (go_at_call 50; refine (isNaN_any _ _).mono ?_; rintro e w' ⟨rfl, rfl⟩)
      go_ret
      exact ⟨rfl, rfl⟩
    · have e : cmpI a b = 0 := by unfold cmpI; rw [if_neg h1, if_neg h2]
      rw [e]
      clear e
      go_enter Try.func47, Try.ntmps47
      go_wp2_with (go_at_call 50; refine (isNaN_any _ _).mono ?_; rintro e w' ⟨rfl, rfl⟩)
      go_ret
      exact ⟨rfl, rfl⟩

set_option maxHeartbeats 800000 in
/-- cmp.Or of two numbers. -/
theorem or_two (x y : Int) (g : Nat) (w : World) (hx : w.cell? ⟨g, 0, none⟩ = some (.int .i64 x)) (hy : w.cell? ⟨g, 1, none⟩ = some (.int .i64 y)) :
    Calls Try.prog 46 #[.slice (some ⟨g, 0, none⟩) 2 2] w fun e w' => e = .returned (.int .i64 (if x = 0 then y else x)) ∧ w = w' := by
  obtain ⟨r, hr⟩ : ∃ r, (if x = 0 then y else x) = r := ⟨_, rfl⟩
  rw [hr]
  by_cases h0 : x = 0
  · rw [if_pos h0] at hr
    subst h0
    by_cases h1 : y = 0
    · subst h1
      subst hr
      have z : ((0 : Int) != 0) = false := by decide
      go_enter Try.func46, Try.ntmps46
      go_wp2
      go_loopg [5, 8] 2 (fun gg v i wr => ∃ k : Nat, k + gg = 2 ∧ i = .int .i64 k ∧ wr = w)
      case atStart => exact ⟨0, by omega, rfl, rfl⟩
      case round =>
        obtain ⟨k, hk, rfl, rfl⟩ := hrel
        by_cases hk2 : k < 2
        · rcases (show k = 0 ∨ k = 1 by omega) with rfl | rfl
          · go_wp2
            go_roundg 1
            case measure => omega
            case rel => exact ⟨1, by omega, rfl, rfl⟩
          · go_wp2
            go_roundg 0
            case measure => omega
            case rel => exact ⟨2, by omega, rfl, rfl⟩
        · obtain rfl : k = 2 := by omega
          go_wp2
          go_ret
          exact ⟨rfl, rfl⟩
    · subst hr
      have z : ((0 : Int) != 0) = false := by decide
      have z2 : (y != 0) = true := by simpa using h1
      have z3 : decide (y = 0) = false := by simpa using h1
      go_enter Try.func46, Try.ntmps46
      go_wp2
      go_loopg [5, 8] 2 (fun gg v i wr => ∃ k : Nat, k + gg = 2 ∧ k ≤ 1 ∧ i = .int .i64 k ∧ wr = w)
      case atStart => exact ⟨0, by omega, by omega, rfl, rfl⟩
      case round =>
        obtain ⟨k, hk, hk1, rfl, rfl⟩ := hrel
        rcases (show k = 0 ∨ k = 1 by omega) with rfl | rfl
        · go_wp2
          go_roundg 1
          case measure => omega
          case rel => exact ⟨1, by omega, by omega, rfl, rfl⟩
        · go_wp2
          try rw [Exit.noGoto_ret]
          go_ret
          exact ⟨rfl, rfl⟩
  · rw [if_neg h0] at hr
    subst hr
    have z2 : (x != 0) = true := by simpa using h0
    have z3 : decide (x = 0) = false := by simpa using h0
    go_enter Try.func46, Try.ntmps46
    go_wp2
    go_loopg [5, 8] 2 (fun gg v i wr => gg = 2 ∧ i = .int .i64 0 ∧ wr = w)
    case atStart => exact ⟨rfl, rfl, rfl⟩
    case round =>
      obtain ⟨hk, rfl, rfl⟩ := hrel
      go_wp2
      try rw [Exit.noGoto_ret]
      go_ret
      exact ⟨rfl, rfl⟩

theorem cells_two (w : World) (x y : Value) (t : TypeId) : (w.alloc (.cells #[x, y] t)).cell? ⟨w.heap.size, 0, none⟩ = some x ∧ (w.alloc (.cells #[x, y] t)).cell? ⟨w.heap.size, 1, none⟩ = some y := by
  constructor <;> simp [go_sem]

set_option maxHeartbeats 1000000 in
/-- wheel.inTurn. -/
theorem inTurn_any (a b : Tm) (w : World) : Calls Try.prog 43 #[tv a, tv b] w fun e w' => e = .returned (.int .i64 (turn a b)) ∧ Below w.heap.size w w' := by
  obtain ⟨i, x⟩ := a
  obtain ⟨j, y⟩ := b
  obtain ⟨p, hp⟩ : ∃ p, cmpI (x : Int) (y : Int) = p := ⟨_, rfl⟩
  obtain ⟨q, hq⟩ : ∃ q, cmpI (i : Int) (j : Int) = q := ⟨_, rfl⟩
  have H : turn ⟨i, x⟩ ⟨j, y⟩ = if p = 0 then q else p := by simp only [turn, hp, hq]
  rw [H]
  clear H
  have C1 := Lib.hid (fun w => hp ▸ compare_any (x : Int) (y : Int) w)
  have C2 := Lib.hid (fun w => hq ▸ compare_any (i : Int) (j : Int) w)
  clear hp hq
  obtain ⟨r, hr⟩ : ∃ r, (if p = 0 then q else p) = r := ⟨_, rfl⟩
  have OT := Lib.hid (fun g w hx hy => hr ▸ or_two p q g w hx hy)
  rw [hr]
  clear hr
  simp only [tv]
  go_enter Try.func43, Try.ntmps43
  go_wp2
  refine wp_region_tail 10 (by kernel_rfl) (by kernel_rfl) ?_
  simp only [List.take_succ_cons, List.take_zero, List.drop_succ_cons, List.drop_zero]
  repeat still_step
  still_call (same_turn (C1.out _))
  repeat still_step
  still_call (same_turn (C2.out _))
  refine wpStill_nil ?_
  have c2 : (((w.alloc (.cells #[.int .i64 i, .int .i64 x] 90)).alloc (.cells #[.int .i64 j, .int .i64 y] 90)).alloc (.cells #[.int .i64 p, .int .i64 q] 3)).drew.cell? ⟨w.heap.size + 1 + 1, 0, none⟩ = some (.int .i64 p) ∧
      (((w.alloc (.cells #[.int .i64 i, .int .i64 x] 90)).alloc (.cells #[.int .i64 j, .int .i64 y] 90)).alloc (.cells #[.int .i64 p, .int .i64 q] 3)).drew.cell? ⟨w.heap.size + 1 + 1, 1, none⟩ = some (.int .i64 q) := by
    constructor <;> simp [go_sem]
  have HC := Lib.hid c2
  clear c2
  go_wp2_with (go_at_call 46; refine (OT.out _ _ HC.out.1 HC.out.2).mono ?_; rintro e w' ⟨rfl, rfl⟩)
  go_ret
  refine ⟨rfl, ?_⟩
  exact below_drew (below_alloc (below_alloc (below_alloc (Below.refl _ _) _) _) _)

end Go.Proofs.Ytkcndgiiangmjaa
