/-
  The document's small functions: Right, Tell, SameUp.
-/
import Derived.Test.YtkcndgiiangmjaaHtell
import Derived.Test.YtkcndgiiangmjaaSame
namespace Go.Proofs.Ytkcndgiiangmjaa
open Go.RowKit
set_option linter.unusedVariables false
set_option linter.unusedSimpArgs false
set_option maxRecDepth 10000

theorem right_any (w : World) (r : Ru) : Calls Try.prog 10 #[ruv r] w fun e w' => e = .returned (.bool (okR r)) ∧ Below w.heap.size w w' := by
  have HB := Lib.hid (below_alloc (Below.refl w.heap.size w) (.cells #[.int .i64 r.rise, .int .i64 r.fall, .int .i64 r.every] 23))
  have hi := @okR_iff r
  obtain ⟨a, b, c⟩ := r
  simp only at hi HB
  unfold ruv
  by_cases h0 : a ≥ 1
  · by_cases h1 : a ≤ 20
    · by_cases h2 : b ≥ 1
      · by_cases h3 : b ≤ 20
        · by_cases h4 : c ≥ 1
          · by_cases h5 : c ≤ 10000
            · have e : okR ⟨a, b, c⟩ = true := hi.2 (by omega)
              rw [e]
              clear hi e
              go_enter Try.func10, Try.ntmps10
              go_wp2
              go_ret
              exact ⟨rfl, HB.out⟩
            · have e : okR ⟨a, b, c⟩ = false := by
                rw [← Bool.not_eq_true, hi]
                omega
              rw [e]
              clear hi e
              go_enter Try.func10, Try.ntmps10
              go_wp2
              go_ret
              exact ⟨rfl, HB.out⟩
          · have e : okR ⟨a, b, c⟩ = false := by
              rw [← Bool.not_eq_true, hi]
              omega
            rw [e]
            clear hi e
            go_enter Try.func10, Try.ntmps10
            go_wp2
            go_ret
            exact ⟨rfl, HB.out⟩
        · have e : okR ⟨a, b, c⟩ = false := by
            rw [← Bool.not_eq_true, hi]
            omega
          rw [e]
          clear hi e
          go_enter Try.func10, Try.ntmps10
          go_wp2
          go_ret
          exact ⟨rfl, HB.out⟩
      · have e : okR ⟨a, b, c⟩ = false := by
          rw [← Bool.not_eq_true, hi]
          omega
        rw [e]
        clear hi e
        go_enter Try.func10, Try.ntmps10
        go_wp2
        go_ret
        exact ⟨rfl, HB.out⟩
    · have e : okR ⟨a, b, c⟩ = false := by
        rw [← Bool.not_eq_true, hi]
        omega
      rw [e]
      clear hi e
      go_enter Try.func10, Try.ntmps10
      go_wp2
      go_ret
      exact ⟨rfl, HB.out⟩
  · have e : okR ⟨a, b, c⟩ = false := by
      rw [← Bool.not_eq_true, hi]
      omega
    rw [e]
    clear hi e
    go_enter Try.func10, Try.ntmps10
    go_wp2
    go_ret
    exact ⟨rfl, HB.out⟩

def prv (p : Pr) : Value := .agg #[.bool p.up, .int .i64 p.run]
set_option maxHeartbeats 2000000 in
theorem rtell_any (w : World) {r : Ru} {p : Pr} (hr : okR r = true) (hp : okP r p) (good : Bool) :
    Calls Try.prog 12 #[ruv r, prv p, .bool good] w fun e w' => e = .returned (.tuple #[prv (tellP r p good), .bool (tellC r p good)]) ∧ Below w.heap.size w w' := by
  have hin := enough_in hr p.up
  obtain ⟨up, run⟩ := p
  have h1 := hp.1
  have h2 := hp.2
  simp only at h1 h2 hin
  have hw : IntKind.i64.wrap (run + 1) = run + 1 := by rw [IntKind.wrap_i64]; omega
  have e1 := @tell_same r ⟨up, run⟩ good
  have e2 := @tell_less r ⟨up, run⟩ good
  have e3 := @tell_turn r ⟨up, run⟩ good
  simp only at e1 e2 e3
  have HE := Lib.hid (And.intro e1 (And.intro e2 e3))
  clear hp hr e1 e2 e3
  unfold ruv
  cases up
  · have hen : enough r false = r.rise := rfl
    rw [hen] at h2 hin
    cases good
    · obtain ⟨e1, e2⟩ := HE.out.1 rfl
      rw [e1, e2]
      clear e1 e2 HE
      simp only [prv]
      go_enter Try.func12, Try.ntmps12
      go_wp2
      refine bodyPost_ret (v := .tuple #[.agg #[.bool false, .int .i64 0], .bool false]) (by simp [results, Try.results12, go_sem]) rfl ⟨rfl, ?_⟩
      repeat (first | exact Below.refl _ _ | with_reducible refine below_drewN ?_ _ | with_reducible refine below_drew ?_ | with_reducible refine Below.setCell ?_ (by simp) _ | with_reducible refine below_alloc ?_ _)
    · by_cases hlt2 : run + 1 < r.rise
      · obtain ⟨e1, e2⟩ := HE.out.2.1 rfl hlt2
        have hz : (run + 1 == r.rise) = false := beq_eq_false_iff_ne.2 (by omega)
        have hz2 : ¬ (run + 1 = r.rise) := by omega
        rw [e1, e2]
        clear e1 e2 HE
        simp only [prv]
        go_enter Try.func12, Try.ntmps12
        go_wp2
        refine bodyPost_ret (v := .tuple #[.agg #[.bool false, .int .i64 (run + 1)], .bool false]) (by simp [results, Try.results12, go_sem]) rfl ⟨rfl, ?_⟩
        repeat (first | exact Below.refl _ _ | with_reducible refine below_drewN ?_ _ | with_reducible refine below_drew ?_ | with_reducible refine Below.setCell ?_ (by simp) _ | with_reducible refine below_alloc ?_ _)
      · obtain ⟨e1, e2⟩ := HE.out.2.2 rfl hlt2
        have hz2 : run + 1 = r.rise := by omega
        have hz : (run + 1 == r.rise) = true := by rw [hz2]; simp
        rw [e1, e2]
        clear e1 e2 HE
        simp only [prv]
        go_enter Try.func12, Try.ntmps12
        go_wp2
        refine bodyPost_ret (v := .tuple #[.agg #[.bool true, .int .i64 0], .bool true]) (by simp [results, Try.results12, go_sem]) rfl ⟨rfl, ?_⟩
        repeat (first | exact Below.refl _ _ | with_reducible refine below_drewN ?_ _ | with_reducible refine below_drew ?_ | with_reducible refine Below.setCell ?_ (by simp) _ | with_reducible refine below_alloc ?_ _)
  · have hen : enough r true = r.fall := rfl
    rw [hen] at h2 hin
    cases good
    · by_cases hlt2 : run + 1 < r.fall
      · obtain ⟨e1, e2⟩ := HE.out.2.1 rfl hlt2
        have hz : (run + 1 == r.fall) = false := beq_eq_false_iff_ne.2 (by omega)
        have hz2 : ¬ (run + 1 = r.fall) := by omega
        rw [e1, e2]
        clear e1 e2 HE
        simp only [prv]
        go_enter Try.func12, Try.ntmps12
        go_wp2
        refine bodyPost_ret (v := .tuple #[.agg #[.bool true, .int .i64 (run + 1)], .bool false]) (by simp [results, Try.results12, go_sem]) rfl ⟨rfl, ?_⟩
        repeat (first | exact Below.refl _ _ | with_reducible refine below_drewN ?_ _ | with_reducible refine below_drew ?_ | with_reducible refine Below.setCell ?_ (by simp) _ | with_reducible refine below_alloc ?_ _)
      · obtain ⟨e1, e2⟩ := HE.out.2.2 rfl hlt2
        have hz2 : run + 1 = r.fall := by omega
        have hz : (run + 1 == r.fall) = true := by rw [hz2]; simp
        rw [e1, e2]
        clear e1 e2 HE
        simp only [prv]
        go_enter Try.func12, Try.ntmps12
        go_wp2
        refine bodyPost_ret (v := .tuple #[.agg #[.bool false, .int .i64 0], .bool true]) (by simp [results, Try.results12, go_sem]) rfl ⟨rfl, ?_⟩
        repeat (first | exact Below.refl _ _ | with_reducible refine below_drewN ?_ _ | with_reducible refine below_drew ?_ | with_reducible refine Below.setCell ?_ (by simp) _ | with_reducible refine below_alloc ?_ _)
    · obtain ⟨e1, e2⟩ := HE.out.1 rfl
      rw [e1, e2]
      clear e1 e2 HE
      simp only [prv]
      go_enter Try.func12, Try.ntmps12
      go_wp2
      refine bodyPost_ret (v := .tuple #[.agg #[.bool true, .int .i64 0], .bool false]) (by simp [results, Try.results12, go_sem]) rfl ⟨rfl, ?_⟩
      repeat (first | exact Below.refl _ _ | with_reducible refine below_drewN ?_ _ | with_reducible refine below_drew ?_ | with_reducible refine Below.setCell ?_ (by simp) _ | with_reducible refine below_alloc ?_ _)

def SuRel (w : World) (n : Nat) (xs ys : List Bool) (gg : Nat) (s5 : Value) (wr : World) : Prop :=
  ∃ k q : Nat, k + gg = n ∧ s5 = .int .i64 k ∧ (∀ i, i < k → xs[i]! = ys[i]!) ∧ wr = w.drewN q

set_option maxHeartbeats 1000000 in
theorem sameup_any {w : World} {b1 b2 : Nat} {v u : Value} {xs ys : List Bool} (hx : w.ownsRow b1 4 1 v xs.length (bcells xs)) (hy : w.ownsRow b2 4 1 u ys.length (bcells ys)) (hxl : xs.length ≤ 100000) :
    Calls Try.prog 23 #[v, u] w fun e w' => e = .returned (.bool (decide (xs = ys))) ∧ ∃ q, w' = w.drewN q := by
  obtain ⟨a, c, rfl, hnc, hcm⟩ := row_any hx
  obtain ⟨a', c', rfl, hnc', hcm'⟩ := row_any hy
  by_cases hl : xs.length = ys.length
  · have HX := Lib.hid hx
    obtain ⟨n, hn⟩ : ∃ n, n = xs.length := ⟨_, rfl⟩
    have HY : Hid (w.ownsRow b2 4 1 (.slice a' n c') n (bcells ys)) := Lib.hid (by rw [hn, hl]; exact hy)
    rw [← hn] at HX
    have HN := Lib.hid (And.intro hn (hn.trans hl))
    have hnc2 : n ≤ c' := by rw [hn, hl]; exact hnc'
    rw [← hl, ← hn]
    rw [← hn] at hxl hnc
    obtain ⟨r, hr⟩ : ∃ r, decide (xs = ys) = r := ⟨_, rfl⟩
    have HR := Lib.hid hr
    rw [hr]
    clear hx hy hl hn hr hcm hcm' hnc'
    go_enter Try.func23, Try.ntmps23
    go_wp2
    go_loopg [5] n (fun gg s5 wr => Hid (SuRel w n xs ys gg s5 wr))
    case atStart => exact Lib.hid ⟨0, 0, by omega, rfl, fun i hi => by omega, rfl⟩
    case round =>
      obtain ⟨k, q, hk, rfl, hall, rfl⟩ := hrel.out
      clear hrel
      by_cases hkn : k < n
      · have hkz : (k : Int) < (n : Int) := by omega
        have hx2 := HX.out
        have hy2 := HY.out
        obtain ⟨g, _, e, _⟩ := row_slice hx2 (by omega)
        simp only [Value.slice.injEq, true_and] at e
        obtain ⟨rfl, rfl⟩ := e
        obtain ⟨g', _, e, _⟩ := row_slice hy2 (by omega)
        simp only [Value.slice.injEq, true_and] at e
        obtain ⟨rfl, rfl⟩ := e
        have d0 := brow_at hx2 hkn
        have d1 := brow_at hy2 hkn
        obtain ⟨x, hxk⟩ : ∃ x, xs[k]! = x := ⟨_, rfl⟩
        obtain ⟨y, hyk⟩ : ∃ y, ys[k]! = y := ⟨_, rfl⟩
        rw [hxk] at d0
        rw [hyk] at d1
        have HXY := Lib.hid (And.intro hxk hyk)
        have HALL := Lib.hid hall
        clear hx2 hy2 hxk hyk hall
        by_cases hxy : x = y
        · subst hxy
          have z : (x != x) = false := by simp
          go_wp2
          go_quiet (fail)
          go_wp2
          go_roundg (n - (k + 1))
          case measure => omega
          case rel =>
            refine Lib.hid ⟨k + 1, q + nq, by omega, by go_num, fun i hi => ?_, rfl⟩
            rcases (show i < k ∨ i = k by omega) with h | rfl
            · exact HALL.out i h
            · rw [HXY.out.1, HXY.out.2]
        · have z : (x != y) = true := by simpa using hxy
          have z3 : (x == y) = false := by simpa using hxy
          have hrf : r = false := by
            rw [← HR.out]
            refine decide_eq_false fun e => hxy ?_
            rw [← HXY.out.1, ← HXY.out.2, e]
          subst hrf
          go_wp2
          go_quiet (fail)
          go_wp2
          try rw [Exit.noGoto_ret]
          go_ret
          exact ⟨rfl, q + nq, by first | rfl | rw [World.drewN_drewN]⟩
      · obtain rfl : k = n := by omega
        have hrt : r = true := by
          rw [← HR.out]
          refine decide_eq_true (List.ext_getElem (HN.out.1.symm.trans HN.out.2) fun i h1 h2 => ?_)
          have := hall i (by have := HN.out.1; omega)
          rwa [getElem!_pos xs i h1, getElem!_pos ys i h2] at this
        subst hrt
        go_wp2
        go_ret
        exact ⟨rfl, q, rfl⟩
  · have hr : decide (xs = ys) = false := decide_eq_false fun e => hl (by rw [e])
    rw [hr]
    generalize xs.length = n1 at *
    generalize ys.length = n2 at *
    have z : ((n1 : Int) != (n2 : Int)) = true := by simp; omega
    have z2 : ¬ ((n1 : Int) = (n2 : Int)) := by omega
    clear hx hy hr
    go_enter Try.func23, Try.ntmps23
    go_wp2
    go_ret
    exact ⟨rfl, 0, rfl⟩

end Go.Proofs.Ytkcndgiiangmjaa
