/-
  outriderref09.Same: whether two rows of ids are the same.
-/
import Derived.Test.YtkcndgiiangmjaaClo
namespace Go.Proofs.Ytkcndgiiangmjaa
open Go.RowKit
set_option linter.unusedVariables false
set_option linter.unusedSimpArgs false
set_option maxRecDepth 10000

theorem irow_at {w : World} {base n g c : Nat} {xs : List Int} (h : w.ownsRow base 3 1 (.slice (some ⟨g, 0, none⟩) n c) n (icells xs)) {i : Nat} (hi : i < n) : w.cell? ⟨g, i, none⟩ = some (.int .i64 xs[i]!) := by
  have hl : xs.length = n := by have := h.1; rw [icells_len] at this; omega
  rw [h.cellAt i (by omega), icells, List.getElem?_map, List.getElem?_eq_getElem (by omega), getElem!_pos xs i (by omega)]
  rfl

def SmRel (w : World) (n : Nat) (xs ys : List Int) (gg : Nat) (s5 : Value) (wr : World) : Prop :=
  ∃ k q : Nat, k + gg = n ∧ s5 = .int .i64 k ∧ (∀ i, i < k → xs[i]! = ys[i]!) ∧ wr = w.drewN q

set_option maxHeartbeats 1000000 in
theorem same_any {w : World} {b1 b2 : Nat} {v u : Value} {xs ys : List Int} (hx : w.ownsRow b1 3 1 v xs.length (icells xs)) (hy : w.ownsRow b2 3 1 u ys.length (icells ys)) (hxl : xs.length ≤ 100000) :
    Calls Try.prog 21 #[v, u] w fun e w' => e = .returned (.bool (decide (xs = ys))) ∧ ∃ q, w' = w.drewN q := by
  obtain ⟨a, c, rfl, hnc, hcm⟩ := row_any hx
  obtain ⟨a', c', rfl, hnc', hcm'⟩ := row_any hy
  by_cases hl : xs.length = ys.length
  · have HX := Lib.hid hx
    obtain ⟨n, hn⟩ : ∃ n, n = xs.length := ⟨_, rfl⟩
    have HY : Hid (w.ownsRow b2 3 1 (.slice a' n c') n (icells ys)) := Lib.hid (by rw [hn, hl]; exact hy)
    rw [← hn] at HX
    have HN := Lib.hid (And.intro hn (hn.trans hl))
    have hnc2 : n ≤ c' := by rw [hn, hl]; exact hnc'
    rw [← hl, ← hn]
    rw [← hn] at hxl hnc
    obtain ⟨r, hr⟩ : ∃ r, decide (xs = ys) = r := ⟨_, rfl⟩
    have HR := Lib.hid hr
    rw [hr]
    clear hx hy hl hn hr hcm hcm' hnc'
    go_enter Try.func21, Try.ntmps21
    go_wp2
    go_loopg [5] n (fun gg s5 wr => Hid (SmRel w n xs ys gg s5 wr))
    case atStart => exact Lib.hid ⟨0, 0, by omega, rfl, fun i hi => by omega, rfl⟩
    case round =>
      obtain ⟨k, q, hk, rfl, hall, rfl⟩ := hrel.out
      clear hrel
      by_cases hkn : k < n
      · have hkz : (k : Int) < (n : Int) := by omega
        have hx2 := HX.out
        have hy2 := HY.out
        obtain ⟨g, _, e, _⟩ := row_slice hx2 (by omega)
        simp only [Value.slice.injEq, true_and] at e
        obtain ⟨rfl, rfl⟩ := e
        obtain ⟨g', _, e, _⟩ := row_slice hy2 (by omega)
        simp only [Value.slice.injEq, true_and] at e
        obtain ⟨rfl, rfl⟩ := e
        have d0 := irow_at hx2 hkn
        have d1 := irow_at hy2 hkn
        obtain ⟨x, hxk⟩ : ∃ x, xs[k]! = x := ⟨_, rfl⟩
        obtain ⟨y, hyk⟩ : ∃ y, ys[k]! = y := ⟨_, rfl⟩
        rw [hxk] at d0
        rw [hyk] at d1
        have HXY := Lib.hid (And.intro hxk hyk)
        have HALL := Lib.hid hall
        clear hx2 hy2 hxk hyk hall
        by_cases hxy : x = y
        · subst hxy
          have z : (x != x) = false := by simp
          go_wp2
          go_quiet (fail)
          go_wp2
          go_roundg (n - (k + 1))
          case measure => omega
          case rel =>
            refine Lib.hid ⟨k + 1, q + nq, by omega, by go_num, fun i hi => ?_, rfl⟩
            rcases (show i < k ∨ i = k by omega) with h | rfl
            · exact HALL.out i h
            · rw [HXY.out.1, HXY.out.2]
        · have z : (x != y) = true := by simpa using hxy
          have hrf : r = false := by
            rw [← HR.out]
            refine decide_eq_false fun e => hxy ?_
            rw [← HXY.out.1, ← HXY.out.2, e]
          subst hrf
          go_wp2
          go_quiet (fail)
          go_wp2
          try rw [Exit.noGoto_ret]
          go_ret
          exact ⟨rfl, q + nq, by first | rfl | rw [World.drewN_drewN]⟩
      · obtain rfl : k = n := by omega
        have hrt : r = true := by
          rw [← HR.out]
          refine decide_eq_true (List.ext_getElem (HN.out.1.symm.trans HN.out.2) fun i h1 h2 => ?_)
          have := hall i (by have := HN.out.1; omega)
          rwa [getElem!_pos xs i h1, getElem!_pos ys i h2] at this
        subst hrt
        go_wp2
        go_ret
        exact ⟨rfl, q, rfl⟩
  · have hr : decide (xs = ys) = false := decide_eq_false fun e => hl (by rw [e])
    rw [hr]
    generalize xs.length = n1 at *
    generalize ys.length = n2 at *
    have z : ((n1 : Int) != (n2 : Int)) = true := by simp; omega
    have z2 : ¬ ((n1 : Int) = (n2 : Int)) := by omega
    clear hx hy hr
    go_enter Try.func21, Try.ntmps21
    go_wp2
    go_ret
    exact ⟨rfl, 0, rfl⟩

end Go.Proofs.Ytkcndgiiangmjaa
