/-
  Rules and probes: who is up, and how long the run is.
-/
import Derived.Test.YtkcndgiiangmjaaDoes
namespace Go.Proofs.Ytkcndgiiangmjaa
open Go.RowKit
set_option linter.unusedVariables false
set_option linter.unusedSimpArgs false
set_option maxRecDepth 10000

structure Ru where
  rise : Int
  fall : Int
  every : Int
deriving Inhabited
def inn (x m : Int) : Bool := decide (1 ≤ x ∧ x ≤ m)
def okR (r : Ru) : Bool := inn r.rise 20 && inn r.fall 20 && inn r.every 10000
theorem okR_iff {r : Ru} : okR r = true ↔ (1 ≤ r.rise ∧ r.rise ≤ 20) ∧ (1 ≤ r.fall ∧ r.fall ≤ 20) ∧ 1 ≤ r.every ∧ r.every ≤ 10000 := by
  simp [okR, inn, and_assoc]

structure Pr where
  up : Bool
  run : Int
deriving Inhabited
def enough (r : Ru) (up : Bool) : Int := if up then r.fall else r.rise
/-- What a Tell leaves, and what it tells. -/
def tellP (r : Ru) (p : Pr) (good : Bool) : Pr := if good = p.up then ⟨p.up, 0⟩ else if p.run + 1 < enough r p.up then ⟨p.up, p.run + 1⟩ else ⟨!p.up, 0⟩
def tellC (r : Ru) (p : Pr) (good : Bool) : Bool := (good != p.up) && !decide (p.run + 1 < enough r p.up)
def okP (r : Ru) (p : Pr) : Prop := 0 ≤ p.run ∧ p.run < enough r p.up
theorem enough_in {r : Ru} (h : okR r = true) (up : Bool) : 1 ≤ enough r up ∧ enough r up ≤ 20 := by
  rw [okR_iff] at h
  unfold enough
  split <;> omega
theorem okP_new {r : Ru} (h : okR r = true) (up : Bool) : okP r ⟨up, 0⟩ := by
  have := enough_in h up
  exact ⟨by show (0 : Int) ≤ 0; omega, by show (0 : Int) < enough r up; omega⟩
theorem okP_tell {r : Ru} (h : okR r = true) {p : Pr} (hp : okP r p) (good : Bool) : okP r (tellP r p good) := by
  unfold tellP
  split
  · exact okP_new h _
  · split
    · rename_i h2
      exact ⟨by show (0 : Int) ≤ p.run + 1; have := hp.1; omega, h2⟩
    · exact okP_new h _
theorem tell_same {r : Ru} {p : Pr} {good : Bool} (h : good = p.up) : tellP r p good = ⟨p.up, 0⟩ ∧ tellC r p good = false := by
  constructor
  · unfold tellP; rw [if_pos h]
  · unfold tellC; rw [h]; simp
theorem tell_less {r : Ru} {p : Pr} {good : Bool} (h : good = !p.up) (h2 : p.run + 1 < enough r p.up) : tellP r p good = ⟨p.up, p.run + 1⟩ ∧ tellC r p good = false := by
  have h1 : ¬ good = p.up := by rw [h]; cases p.up <;> simp
  constructor
  · unfold tellP; rw [if_neg h1, if_pos h2]
  · unfold tellC; simp [h2]
theorem tell_turn {r : Ru} {p : Pr} {good : Bool} (h : good = !p.up) (h2 : ¬ p.run + 1 < enough r p.up) : tellP r p good = ⟨!p.up, 0⟩ ∧ tellC r p good = true := by
  have h1 : ¬ good = p.up := by rw [h]; cases p.up <;> simp
  constructor
  · unfold tellP; rw [if_neg h1, if_neg h2]
  · unfold tellC; simp only [decide_eq_false h2, h]; cases p.up <;> rfl

/-! ## Values -/
def ruv (r : Ru) : Value := .agg #[.int .i64 r.rise, .int .i64 r.fall, .int .i64 r.every]

/-- A probe in memory: its rule, whether it is up, its run. -/
structure PbAt (w : World) (b : Nat) (r : Ru) (p : Pr) : Prop where
  lt : b < w.heap.size
  c0 : w.cell? ⟨b, 0, none⟩ = some (.int .i64 r.rise)
  c1 : w.cell? ⟨b, 1, none⟩ = some (.int .i64 r.fall)
  c2 : w.cell? ⟨b, 2, none⟩ = some (.int .i64 r.every)
  c3 : w.cell? ⟨b, 3, none⟩ = some (.bool p.up)
  c4 : w.cell? ⟨b, 4, none⟩ = some (.int .i64 p.run)
  f : ∀ j, w.frozen? ⟨b, j, none⟩ = false

theorem PbAt.only {w w' : World} {b : Nat} {r : Ru} {p : Pr} {F : Nat → Prop} (h : PbAt w b r p) (ho : Only F w w') (hF : ¬ F b) : PbAt w' b r p := by
  have e : ∀ j, w'.cell? ⟨b, j, none⟩ = w.cell? ⟨b, j, none⟩ := fun j => ho.cell (p := ⟨b, j, none⟩) h.lt hF
  have e2 : ∀ j, w'.frozen? ⟨b, j, none⟩ = w.frozen? ⟨b, j, none⟩ := fun j => ho.frozen (p := ⟨b, j, none⟩) h.lt hF
  exact ⟨Nat.lt_of_lt_of_le h.lt ho.size, (e 0).trans h.c0, (e 1).trans h.c1, (e 2).trans h.c2, (e 3).trans h.c3, (e 4).trans h.c4, fun j => (e2 j).trans (h.f j)⟩
theorem PbAt.below {w w' : World} {b : Nat} {r : Ru} {p : Pr} (h : PbAt w b r p) (hb : Below w.heap.size w w') : PbAt w' b r p :=
  h.only (F := fun _ => False) (Only.of_below hb) (fun h => h)
theorem pb_new (w : World) (r : Ru) (p : Pr) : PbAt (w.alloc (.cells #[.int .i64 r.rise, .int .i64 r.fall, .int .i64 r.every, .bool p.up, .int .i64 p.run] 69)) w.heap.size r p := by
  constructor
  · simp
  all_goals (try intro j)
  all_goals simp [go_sem]

/-! ## The small functions -/
theorem within_any (w : World) (x m : Int) : Calls Try.prog 29 #[.int .i64 x, .int .i64 m] w fun e w' => e = .returned (.bool (inn x m)) ∧ w = w' := by
  by_cases h1 : 1 ≤ x
  · have g1 : x ≥ 1 := h1
    by_cases h2 : x ≤ m
    · have e : inn x m = true := decide_eq_true ⟨h1, h2⟩
      rw [e]
      go_enter Try.func29, Try.ntmps29
      go_wp2
      go_ret
      exact ⟨rfl, rfl⟩
    · have e : inn x m = false := decide_eq_false fun h => h2 h.2
      rw [e]
      go_enter Try.func29, Try.ntmps29
      go_wp2
      go_ret
      exact ⟨rfl, rfl⟩
  · have g1 : ¬ x ≥ 1 := h1
    have e : inn x m = false := decide_eq_false fun h => h1 h.1
    rw [e]
    go_enter Try.func29, Try.ntmps29
    go_wp2
    go_ret
    exact ⟨rfl, rfl⟩

theorem holds_any (w : World) (r : Ru) : Calls Try.prog 26 #[ruv r] w fun e w' => e = .returned (.bool (okR r)) ∧ Below w.heap.size w w' := by
  have HW := Lib.hid (fun (w : World) x m => within_any w x m)
  have ho : okR r = (inn r.rise 20 && inn r.fall 20 && inn r.every 10000) := rfl
  unfold ruv
  rw [ho]
  have hb : Below w.heap.size w (w.alloc (.cells #[.int .i64 r.rise, .int .i64 r.fall, .int .i64 r.every] 29)) := below_alloc (Below.refl _ _) _
  have HB := Lib.hid hb
  clear hb ho
  have HW1 := Lib.hid (HW.out (w.alloc (.cells #[.int .i64 r.rise, .int .i64 r.fall, .int .i64 r.every] 29)) r.rise 20)
  have HW2 := Lib.hid (HW.out (w.alloc (.cells #[.int .i64 r.rise, .int .i64 r.fall, .int .i64 r.every] 29)) r.fall 20)
  have HW3 := Lib.hid (HW.out (w.alloc (.cells #[.int .i64 r.rise, .int .i64 r.fall, .int .i64 r.every] 29)) r.every 10000)
  generalize inn r.rise 20 = b1 at *
  generalize inn r.fall 20 = b2 at *
  generalize inn r.every 10000 = b3 at *
  clear HW
  cases b1
  · go_enter Try.func26, Try.ntmps26
    go_wp2_with (go_at_call 29; refine HW1.out.mono ?_; rintro e w1 ⟨rfl, rfl⟩)
    go_ret
    exact ⟨rfl, HB.out⟩
  · cases b2
    · go_enter Try.func26, Try.ntmps26
      go_wp2_with (first | (go_at_call_of 29 (Value.int .i64 r.rise); refine HW1.out.mono ?_; rintro e w1 ⟨rfl, rfl⟩) | (go_at_call_of 29 (Value.int .i64 r.fall); refine HW2.out.mono ?_; rintro e w1 ⟨rfl, rfl⟩))
      go_ret
      exact ⟨rfl, HB.out⟩
    · go_enter Try.func26, Try.ntmps26
      go_wp2_with (first | (go_at_call_of 29 (Value.int .i64 r.rise); refine HW1.out.mono ?_; rintro e w1 ⟨rfl, rfl⟩) | (go_at_call_of 29 (Value.int .i64 r.fall); refine HW2.out.mono ?_; rintro e w1 ⟨rfl, rfl⟩) | (go_at_call_of 29 (Value.int .i64 r.every); refine HW3.out.mono ?_; rintro e w1 ⟨rfl, rfl⟩))
      go_ret
      exact ⟨by simp, HB.out⟩

end Go.Proofs.Ytkcndgiiangmjaa
