/-
  The reference's small functions: Step, Life, ahead, wrong.
-/
import Derived.Test.YtondjponengedaaSmall
namespace Go.Proofs.Ytondjponengedaa
open Go.RowKit
set_option linter.unusedVariables false
set_option linter.unusedSimpArgs false
set_option maxRecDepth 10000

set_option maxHeartbeats 1000000 in
theorem rstep_any (s f : Int) (w : World) : Calls Try.prog 19 #[.int .i64 s, .int .i64 f] w fun e w' => e = .returned (.int .i64 (stp s f)) ∧ w = w' := by
  obtain ⟨r, hr⟩ : ∃ r, stp s f = r := ⟨_, rfl⟩
  rw [hr]
  unfold stp at hr
  obtain ⟨a, ha⟩ : ∃ a, bits BinOp.and IntKind.i64 f 5 = a := ⟨_, rfl⟩
  obtain ⟨b, hb⟩ : ∃ a, bits BinOp.and IntKind.i64 f 18 = a := ⟨_, rfl⟩
  rw [ha, hb] at hr
  by_cases h4 : s = 4
  · subst h4
    rw [if_pos rfl] at hr
    subst hr
    go_enter Try.func19, Try.ntmps19
    go_wp2
    go_ret
    exact ⟨rfl, rfl⟩
  · rw [if_neg h4] at hr
    obtain ⟨x1, x2, x3⟩ := eqz s 4 h4
    by_cases h5 : a = 0
    · rw [if_neg (by simpa using h5)] at hr
      subst h5
      by_cases h1 : s = 1
      · subst h1
        by_cases h16 : b = 16
        · subst h16
          rw [if_pos ⟨rfl, rfl⟩] at hr
          subst hr
          clear h4
          go_enter Try.func19, Try.ntmps19
          go_wp2
          go_ret
          exact ⟨rfl, rfl⟩
        · rw [if_neg (fun h => h16 h.2), if_neg (fun h => by omega)] at hr
          subst hr
          obtain ⟨y1, y2, y3⟩ := eqz b 16 h16
          clear h4
          go_enter Try.func19, Try.ntmps19
          go_wp2
          go_ret
          exact ⟨rfl, rfl⟩
      · rw [if_neg (fun h => h1 h.1)] at hr
        obtain ⟨y1, y2, y3⟩ := eqz s 1 h1
        by_cases h3 : s = 3
        · subst h3
          by_cases h2 : b = 2
          · subst h2
            rw [if_pos ⟨rfl, rfl⟩] at hr
            subst hr
            clear h4 h1
            go_enter Try.func19, Try.ntmps19
            go_wp2
            go_ret
            exact ⟨rfl, rfl⟩
          · rw [if_neg (fun h => h2 h.2)] at hr
            subst hr
            obtain ⟨z1, z2, z3⟩ := eqz b 2 h2
            clear h4 h1
            go_enter Try.func19, Try.ntmps19
            go_wp2
            go_ret
            exact ⟨rfl, rfl⟩
        · rw [if_neg (fun h => h3 h.1)] at hr
          obtain ⟨z1, z2, z3⟩ := eqz s 3 h3
          subst hr
          clear h4 h1 h3
          go_enter Try.func19, Try.ntmps19
          go_wp2
          go_ret
          exact ⟨rfl, rfl⟩
    · rw [if_pos h5] at hr
      subst hr
      obtain ⟨y1, y2, y3⟩ := eqz a 0 h5
      clear h4 h5
      go_enter Try.func19, Try.ntmps19
      go_wp2
      go_ret
      exact ⟨rfl, rfl⟩

def lives : List Value := [.int .i64 0, .int .i64 60, .int .i64 900, .int .i64 30, .int .i64 120]
set_option maxHeartbeats 1000000 in
theorem rlife_any (s : Int) (w : World) : Calls Try.prog 21 #[.int .i64 s] w fun e w' => e = .returned (.int .i64 (lif s)) ∧ Below w.heap.size w w' := by
  have hb : Below w.heap.size w (w.alloc (.cells #[.int .i64 0, .int .i64 60, .int .i64 900, .int .i64 30, .int .i64 120] 3)) := below_alloc (Below.refl _ _) _
  have HB := Lib.hid hb
  clear hb
  by_cases h0 : s < 0
  · have e : lif s = 0 := by unfold lif; repeat rw [if_neg (by omega)]
    have z : decide (s < 0) = true := by simpa using h0
    rw [e]
    clear e h0
    go_enter Try.func21, Try.ntmps21
    go_wp2
    go_ret
    exact ⟨rfl, HB.out⟩
  · have z : decide (s < 0) = false := by simpa using h0
    by_cases h4 : 4 < s
    · have e : lif s = 0 := by unfold lif; repeat rw [if_neg (by omega)]
      have z2 : decide (4 < s) = true := by simpa using h4
      rw [e]
      clear e h0 h4
      go_enter Try.func21, Try.ntmps21
      go_wp2
      go_ret
      exact ⟨rfl, HB.out⟩
    · rcases (show s = 0 ∨ s = 1 ∨ s = 2 ∨ s = 3 ∨ s = 4 by omega) with rfl | rfl | rfl | rfl | rfl
      all_goals
        clear h0 h4 z
        go_enter Try.func21, Try.ntmps21
        go_wp2
        go_ret
        exact ⟨rfl, HB.out⟩

set_option maxHeartbeats 1000000 in
theorem wrong_any (b now : Int) (w : World) : Calls Try.prog 66 #[.int .i64 b, .int .i64 now] w fun e w' => e = .returned (.bool (!(okS b && okN now))) ∧ w = w' := by
  by_cases h1 : b < 0
  · have e : (!(okS b && okN now)) = true := by
      have : okS b = false := by unfold okS; rw [decide_eq_false (by omega : ¬ 0 ≤ b)]; rfl
      rw [this]; rfl
    rw [e]
    have z : decide (b < 0) = true := by simpa using h1
    clear e h1
    go_enter Try.func66, Try.ntmps66
    go_wp2
    go_ret
    exact ⟨rfl, rfl⟩
  · have z : decide (b < 0) = false := by simpa using h1
    by_cases h2 : 15 < b
    · have e : (!(okS b && okN now)) = true := by
        have : okS b = false := by unfold okS; rw [decide_eq_false (by omega : ¬ b < 16)]; simp
        rw [this]; rfl
      rw [e]
      have z2 : decide (15 < b) = true := by simpa using h2
      clear e h1 h2
      go_enter Try.func66, Try.ntmps66
      go_wp2
      go_ret
      exact ⟨rfl, rfl⟩
    · have z2 : decide (15 < b) = false := by simpa using h2
      have eS : okS b = true := by unfold okS; rw [decide_eq_true (by omega : 0 ≤ b), decide_eq_true (by omega : b < 16)]; rfl
      rw [eS]
      by_cases h3 : now < 0
      · have e : (!(true && okN now)) = true := by
          have : okN now = false := by unfold okN; rw [decide_eq_false (by omega : ¬ 0 ≤ now)]; rfl
          rw [this]; rfl
        rw [e]
        have z3 : decide (now < 0) = true := by simpa using h3
        clear e eS h1 h2 h3
        go_enter Try.func66, Try.ntmps66
        go_wp2
        go_ret
        exact ⟨rfl, rfl⟩
      · have z3 : decide (now < 0) = false := by simpa using h3
        by_cases h4 : 1099511626776 < now
        · have e : (!(true && okN now)) = true := by
            have : okN now = false := by unfold okN; rw [decide_eq_false (by omega : ¬ now ≤ 1099511626776)]; simp
            rw [this]; rfl
          rw [e]
          have z4 : decide (1099511626776 < now) = true := by simpa using h4
          clear e eS h1 h2 h3 h4
          go_enter Try.func66, Try.ntmps66
          go_wp2
          go_ret
          exact ⟨rfl, rfl⟩
        · have e : (!(true && okN now)) = false := by
            have : okN now = true := by unfold okN; rw [decide_eq_true (by omega : 0 ≤ now), decide_eq_true (by omega : now ≤ 1099511626776)]; rfl
            rw [this]; rfl
          rw [e]
          have z4 : decide (1099511626776 < now) = false := by simpa using h4
          clear e eS h1 h2 h3 h4
          go_enter Try.func66, Try.ntmps66
          go_wp2
          go_ret
          exact ⟨rfl, rfl⟩

theorem or2_neg_of {a b : Int} (h : ¬ a = 0) : decide (or2 a b < 0) = decide (a < 0) := by unfold or2; rw [if_neg h]
theorem toList_ne {x y : ByteArray} (h : ¬ x = y) : (x.toList == y.toList) = false := by
  rcases h2 : (x.toList == y.toList) with _ | _
  · rfl
  · exact absurd (toList_inj (by simpa using h2)) h

set_option maxHeartbeats 2000000 in
/-- outriderref10.ahead. -/
theorem ahead_any (a b : Fl) (w : World) : Calls Try.prog 86 #[fv a, fv b] w fun e w' => e = .returned (.bool (ahd a b)) ∧ Below w.heap.size w w' := by
  obtain ⟨r, hr⟩ : ∃ r, ahd a b = r := ⟨_, rfl⟩
  rw [hr]
  unfold ahd ordF at hr
  obtain ⟨p, f, t, o, d⟩ := a
  obtain ⟨p', f', t', o', d'⟩ := b
  simp only [fv]
  simp only at hr
  by_cases h1 : p = p'
  · subst h1
    rw [cmpI_ok.refl, or2, if_pos rfl] at hr
    by_cases h2 : f = f'
    · subst h2
      rw [cmp8_ok.refl, or2, if_pos rfl] at hr
      by_cases h3 : o = o'
      · subst h3
        rw [cmpI_ok.refl, or2, if_pos rfl] at hr
        by_cases h4 : t = t'
        · subst h4
          rw [cmp8_ok.refl, or2, if_pos rfl] at hr
          have hr2 : decide (d < d') = r := by
            rw [← hr]
            unfold cmpI
            by_cases h : d < d'
            · simp [h]
            · rw [if_neg h]; split <;> simp [h]
          clear hr
          go_enter Try.func86, Try.ntmps86
          go_wp2
          go_ret
          exact ⟨rfl, below_alloc (below_alloc (Below.refl _ _) _) _⟩
        · have z := toList_ne h4
          have hr2 : Op.bytesLess t.toList t'.toList = r := by
            rw [← hr, or2_neg_of (fun h => h4 ((cmp8_ok.eq _ _).1 h))]
            rw [show Op.bytesLess t.toList t'.toList = lt8 t t' from rfl]
            rcases h : lt8 t t' with _ | _
            · exact (decide_eq_false fun h5 => by rw [(cmp8_neg _ _).1 h5] at h; simp at h).symm
            · exact (decide_eq_true ((cmp8_neg _ _).2 h)).symm
          clear hr h4
          go_enter Try.func86, Try.ntmps86
          go_wp2
          go_ret
          exact ⟨rfl, below_alloc (below_alloc (Below.refl _ _) _) _⟩
      · obtain ⟨z1, z2, z3⟩ := eqz o o' h3
        have hr2 : decide (o < o') = r := by
          rw [← hr, or2_neg_of (fun h => h3 ((cmpI_ok.eq _ _).1 h))]
          unfold cmpI
          by_cases h : o < o'
          · simp [h]
          · rw [if_neg h]; split <;> simp [h]
        clear hr h3
        go_enter Try.func86, Try.ntmps86
        go_wp2
        go_ret
        exact ⟨rfl, below_alloc (below_alloc (Below.refl _ _) _) _⟩
    · have z := toList_ne h2
      have hr2 : Op.bytesLess f.toList f'.toList = r := by
        rw [← hr, or2_neg_of (fun h => h2 ((cmp8_ok.eq _ _).1 h))]
        rw [show Op.bytesLess f.toList f'.toList = lt8 f f' from rfl]
        rcases h : lt8 f f' with _ | _
        · exact (decide_eq_false fun h5 => by rw [(cmp8_neg _ _).1 h5] at h; simp at h).symm
        · exact (decide_eq_true ((cmp8_neg _ _).2 h)).symm
      clear hr h2
      go_enter Try.func86, Try.ntmps86
      go_wp2
      go_ret
      exact ⟨rfl, below_alloc (below_alloc (Below.refl _ _) _) _⟩
  · obtain ⟨z1, z2, z3⟩ := eqz p p' h1
    have hr2 : decide (p < p') = r := by
      rw [← hr, or2_neg_of (fun h => h1 ((cmpI_ok.eq _ _).1 h))]
      unfold cmpI
      by_cases h : p < p'
      · simp [h]
      · rw [if_neg h]; split <;> simp [h]
    clear hr h1
    go_enter Try.func86, Try.ntmps86
    go_wp2
    go_ret
    exact ⟨rfl, below_alloc (below_alloc (Below.refl _ _) _) _⟩

end Go.Proofs.Ytondjponengedaa
