/-
  The small functions: Step, Life, what may be, the reference's, too.
-/
import Derived.Test.YtondjponengedaaCmp
namespace Go.Proofs.Ytondjponengedaa
open Go.RowKit
set_option linter.unusedVariables false
set_option linter.unusedSimpArgs false
set_option maxRecDepth 10000

theorem eqz (a b : Int) (h : ¬ a = b) : (a == b) = false ∧ decide (a = b) = false ∧ (a != b) = true := by simp [h]
theorem eqo (a b : Int) (h : a = b) : (a == b) = true ∧ decide (a = b) = true ∧ (a != b) = false := by simp [h]

set_option maxHeartbeats 1000000 in
theorem step_any (s f : Int) (w : World) : Calls Try.prog 18 #[.int .i64 s, .int .i64 f] w fun e w' => e = .returned (.int .i64 (stp s f)) ∧ w = w' := by
  obtain ⟨r, hr⟩ : ∃ r, stp s f = r := ⟨_, rfl⟩
  rw [hr]
  unfold stp at hr
  obtain ⟨a, ha⟩ : ∃ a, bits BinOp.and IntKind.i64 f 5 = a := ⟨_, rfl⟩
  obtain ⟨b, hb⟩ : ∃ a, bits BinOp.and IntKind.i64 f 18 = a := ⟨_, rfl⟩
  rw [ha, hb] at hr
  by_cases h4 : s = 4
  · subst h4
    rw [if_pos rfl] at hr
    subst hr
    go_enter Try.func18, Try.ntmps18
    go_wp2
    go_ret
    exact ⟨rfl, rfl⟩
  · rw [if_neg h4] at hr
    obtain ⟨x1, x2, x3⟩ := eqz s 4 h4
    by_cases h5 : a = 0
    · rw [if_neg (by simpa using h5)] at hr
      subst h5
      by_cases h1 : s = 1
      · subst h1
        by_cases h16 : b = 16
        · subst h16
          rw [if_pos ⟨rfl, rfl⟩] at hr
          subst hr
          clear h4
          go_enter Try.func18, Try.ntmps18
          go_wp2
          go_ret
          exact ⟨rfl, rfl⟩
        · rw [if_neg (fun h => h16 h.2), if_neg (fun h => by omega)] at hr
          subst hr
          obtain ⟨y1, y2, y3⟩ := eqz b 16 h16
          clear h4
          go_enter Try.func18, Try.ntmps18
          go_wp2
          go_ret
          exact ⟨rfl, rfl⟩
      · rw [if_neg (fun h => h1 h.1)] at hr
        obtain ⟨y1, y2, y3⟩ := eqz s 1 h1
        by_cases h3 : s = 3
        · subst h3
          by_cases h2 : b = 2
          · subst h2
            rw [if_pos ⟨rfl, rfl⟩] at hr
            subst hr
            clear h4 h1
            go_enter Try.func18, Try.ntmps18
            go_wp2
            go_ret
            exact ⟨rfl, rfl⟩
          · rw [if_neg (fun h => h2 h.2)] at hr
            subst hr
            obtain ⟨z1, z2, z3⟩ := eqz b 2 h2
            clear h4 h1
            go_enter Try.func18, Try.ntmps18
            go_wp2
            go_ret
            exact ⟨rfl, rfl⟩
        · rw [if_neg (fun h => h3 h.1)] at hr
          obtain ⟨z1, z2, z3⟩ := eqz s 3 h3
          subst hr
          clear h4 h1 h3
          go_enter Try.func18, Try.ntmps18
          go_wp2
          go_ret
          exact ⟨rfl, rfl⟩
    · rw [if_pos h5] at hr
      subst hr
      obtain ⟨y1, y2, y3⟩ := eqz a 0 h5
      clear h4 h5
      go_enter Try.func18, Try.ntmps18
      go_wp2
      go_ret
      exact ⟨rfl, rfl⟩

theorem life_any (s : Int) (w : World) : Calls Try.prog 20 #[.int .i64 s] w fun e w' => e = .returned (.int .i64 (lif s)) ∧ w = w' := by
  by_cases h1 : s = 1
  · subst h1
    go_enter Try.func20, Try.ntmps20
    go_wp2
    go_ret
    exact ⟨rfl, rfl⟩
  · obtain ⟨x1, x2, x3⟩ := eqz s 1 h1
    by_cases h2 : s = 2
    · subst h2
      go_enter Try.func20, Try.ntmps20
      go_wp2
      go_ret
      exact ⟨rfl, rfl⟩
    · obtain ⟨y1, y2, y3⟩ := eqz s 2 h2
      by_cases h3 : s = 3
      · subst h3
        go_enter Try.func20, Try.ntmps20
        go_wp2
        go_ret
        exact ⟨rfl, rfl⟩
      · obtain ⟨z1, z2, z3⟩ := eqz s 3 h3
        by_cases h4 : s = 4
        · subst h4
          go_enter Try.func20, Try.ntmps20
          go_wp2
          go_ret
          exact ⟨rfl, rfl⟩
        · obtain ⟨t1, t2, t3⟩ := eqz s 4 h4
          have e : lif s = 0 := by unfold lif; rw [if_neg h1, if_neg h2, if_neg h3, if_neg h4]
          rw [e]
          clear h1 h2 h3 h4 e
          go_enter Try.func20, Try.ntmps20
          go_wp2
          go_ret
          exact ⟨rfl, rfl⟩

theorem mayServe_any (b : Int) (w : World) : Calls Try.prog 43 #[.int .i64 b] w fun e w' => e = .returned (.bool (okS b)) ∧ w = w' := by
  unfold okS
  rcases h1 : decide (0 ≤ b) with _ | _ <;> rcases h2 : decide (b < 16) with _ | _
  all_goals
    go_enter Try.func43, Try.ntmps43
    go_wp2
    go_ret
    exact ⟨rfl, rfl⟩
theorem maySee_any (b : Int) (w : World) : Calls Try.prog 44 #[.int .i64 b] w fun e w' => e = .returned (.bool (okN b)) ∧ w = w' := by
  unfold okN
  rcases h1 : decide (0 ≤ b) with _ | _ <;> rcases h2 : decide (b ≤ 1099511626776) with _ | _
  all_goals
    go_enter Try.func44, Try.ntmps44
    go_wp2
    go_ret
    exact ⟨rfl, rfl⟩

set_option maxHeartbeats 1000000 in
theorem mayBe_any (x : En) (w : World) : Calls Try.prog 64 #[ev x] w fun e w' => e = .returned (.bool (okE x)) ∧ Below w.heap.size w w' := by
  obtain ⟨⟨p, f, t, o, d⟩, k, s, n⟩ := x
  have HS := Lib.hid (fun w => mayServe_any k w)
  unfold okE
  simp only [ev]
  generalize okS k = q at HS ⊢
  rcases q with _ | _
  · go_enter Try.func64, Try.ntmps64
    go_wp2_with (go_at_call 43; refine (HS.out _).mono ?_; rintro e w' ⟨rfl, rfl⟩)
    go_ret
    exact ⟨rfl, below_alloc (Below.refl _ _) _⟩
  · rcases h1 : decide (1 ≤ s) with _ | _
    · go_enter Try.func64, Try.ntmps64
      go_wp2_with (go_at_call 43; refine (HS.out _).mono ?_; rintro e w' ⟨rfl, rfl⟩)
      go_ret
      exact ⟨rfl, below_alloc (Below.refl _ _) _⟩
    · rcases h2 : decide (s ≤ 4) with _ | _
      · go_enter Try.func64, Try.ntmps64
        go_wp2_with (go_at_call 43; refine (HS.out _).mono ?_; rintro e w' ⟨rfl, rfl⟩)
        go_ret
        exact ⟨rfl, below_alloc (Below.refl _ _) _⟩
      · rcases h3 : decide (0 ≤ n) with _ | _ <;> rcases h4 : decide (n ≤ 1099511627776) with _ | _
        all_goals
          go_enter Try.func64, Try.ntmps64
          go_wp2_with (go_at_call 43; refine (HS.out _).mono ?_; rintro e w' ⟨rfl, rfl⟩)
          go_ret
          exact ⟨rfl, below_alloc (Below.refl _ _) _⟩

theorem first_any (x : Fl) (g : Int) (w : World) : Calls Try.prog 46 #[fv x, .int .i64 g] w fun e w' => e = .returned (.int .i64 (firstSt x g)) ∧ Below w.heap.size w w' := by
  obtain ⟨p, f, t, o, d⟩ := x
  have HS := Lib.hid (fun w => step_any 1 g w)
  unfold firstSt
  simp only [fv]
  by_cases h : p = 6
  · subst h
    rw [if_pos rfl]
    generalize stp 1 g = q at HS ⊢
    go_enter Try.func46, Try.ntmps46
    go_wp2_with (go_at_call 18; refine (HS.out _).mono ?_; rintro e w' ⟨rfl, rfl⟩)
    go_ret
    exact ⟨rfl, below_alloc (Below.refl _ _) _⟩
  · obtain ⟨x1, x2, x3⟩ := eqz p 6 h
    rw [if_neg h]
    go_enter Try.func46, Try.ntmps46
    go_wp2
    go_ret
    exact ⟨rfl, below_alloc (Below.refl _ _) _⟩

theorem all1_any (x : En) (w : World) : Calls Try.prog 33 #[ev x] w fun e w' => e = .returned (.bool true) ∧ Below w.heap.size w w' := by
  obtain ⟨⟨p, f, t, o, d⟩, k, s, n⟩ := x
  simp only [ev]
  go_enter Try.func33, Try.ntmps33
  go_wp2
  go_ret
  exact ⟨rfl, below_alloc (Below.refl _ _) _⟩
theorem expire1_any (x : En) (P : Nat) (now : Int) (w : World) (hc : w.cell? ⟨P, 0, none⟩ = some (.int .i64 now)) (hP : P < w.heap.size) : Calls Try.prog 49 #[ev x, .pointer (some ⟨P, 0, none⟩)] w fun e w' => e = .returned (.bool (decide (x.ends ≤ now))) ∧ Below w.heap.size w w' := by
  obtain ⟨⟨p, f, t, o, d⟩, k, s, n⟩ := x
  simp only [ev]
  have hc2 : (w.alloc (.cells #[.int .i64 p, .string f, .string t, .int .i64 o, .int .i64 d, .int .i64 k, .int .i64 s, .int .i64 n] 39)).cell? ⟨P, 0, none⟩ = some (.int .i64 now) := by rw [World.cell?_alloc_lt _ _ _ hP]; exact hc
  go_enter Try.func49, Try.ntmps49
  go_wp2
  go_ret
  exact ⟨rfl, below_alloc (Below.refl _ _) _⟩

end Go.Proofs.Ytondjponengedaa
