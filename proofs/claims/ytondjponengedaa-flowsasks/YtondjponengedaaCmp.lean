/-
  cmp.Compare, cmp.Or, flows.inOrder, flows.byEnds.
-/
import Derived.Test.YtondjponengedaaBase
import Derived.StillTailTactics
import Derived.Laws.Cover1
import Derived.Sort.Grow
namespace Go.Proofs.Ytondjponengedaa
open Go.RowKit
set_option linter.unusedVariables false
set_option linter.unusedSimpArgs false
set_option maxRecDepth 10000

set_option maxHeartbeats 400000 in
theorem isNaN_any (x : Int) (w : World) : Calls Try.prog 78 #[.int .i64 x] w fun e w' => e = .returned (.bool false) ∧ w = w' := by
  go_enter Try.func78, Try.ntmps78
  go_wp2
  go_ret
  first | exact ⟨rfl, rfl⟩ | exact ⟨ret_bool (by simp), rfl⟩

set_option maxHeartbeats 400000 in
theorem isNaNs_any (x : ByteArray) (w : World) : Calls Try.prog 79 #[.string x] w fun e w' => e = .returned (.bool false) ∧ w = w' := by
  go_enter Try.func79, Try.ntmps79
  go_wp2
  go_ret
  first | exact ⟨rfl, rfl⟩ | exact ⟨ret_bool (by simp), rfl⟩

set_option maxHeartbeats 400000 in
theorem compare_any (a b : Int) (w : World) : Calls Try.prog 59 #[.int .i64 a, .int .i64 b] w fun e w' => e = .returned (.int .i64 (cmpI a b)) ∧ w = w' := by
  by_cases h1 : a < b
  · have e : cmpI a b = -1 := by unfold cmpI; rw [if_pos h1]
    rw [e]
    clear e
    go_enter Try.func59, Try.ntmps59
    go_wp2_with (go_at_call 78; refine (isNaN_any _ _).mono ?_; rintro e w' ⟨rfl, rfl⟩)
    go_ret
    exact ⟨rfl, rfl⟩
  · by_cases h2 : b < a
    · have e : cmpI a b = 1 := by unfold cmpI; rw [if_neg h1, if_pos h2]
      rw [e]
      clear e
      go_enter Try.func59, Try.ntmps59
      go_wp2_with (go_at_call 78; refine (isNaN_any _ _).mono ?_; rintro e w' ⟨rfl, rfl⟩)
      go_ret
      exact ⟨rfl, rfl⟩
    · have e : cmpI a b = 0 := by unfold cmpI; rw [if_neg h1, if_neg h2]
      rw [e]
      clear e
      go_enter Try.func59, Try.ntmps59
      go_wp2_with (go_at_call 78; refine (isNaN_any _ _).mono ?_; rintro e w' ⟨rfl, rfl⟩)
      go_ret
      exact ⟨rfl, rfl⟩

set_option maxHeartbeats 400000 in
theorem compares_any (x y : ByteArray) (w : World) : Calls Try.prog 60 #[.string x, .string y] w fun e w' => e = .returned (.int .i64 (cmp8 x y)) ∧ w = w' := by
  have e0 : Op.bytesLess x.toList y.toList = lt8 x y := rfl
  rcases h1 : lt8 x y with _ | _
  · rw [h1] at e0
    rcases h2 : (x.toList == y.toList) with _ | _
    · have hc : cmp8 x y = 1 := by
        have h3 : lt8 y x = true := by
          rcases h4 : lt8 y x with _ | _
          · rw [lt8_tri h1 h4] at h2; simp at h2
          · rfl
        simp [cmp8, h1, h3]
      rw [hc]
      clear hc h1
      go_enter Try.func60, Try.ntmps60
      go_wp2_with (go_at_call 79; refine (isNaNs_any _ _).mono ?_; rintro e w' ⟨rfl, rfl⟩)
      go_ret
      exact ⟨by rfl, rfl⟩
    · have hc : cmp8 x y = 0 := by
        have h3 : x = y := toList_inj (by simpa using h2)
        subst h3
        simp [cmp8, h1]
      rw [hc]
      clear hc h1
      go_enter Try.func60, Try.ntmps60
      go_wp2_with (go_at_call 79; refine (isNaNs_any _ _).mono ?_; rintro e w' ⟨rfl, rfl⟩)
      go_ret
      exact ⟨by rfl, rfl⟩
  · rw [h1] at e0
    have hc : cmp8 x y = -1 := by simp [cmp8, h1]
    rw [hc]
    clear hc h1
    go_enter Try.func60, Try.ntmps60
    go_wp2_with (go_at_call 79; refine (isNaNs_any _ _).mono ?_; rintro e w' ⟨rfl, rfl⟩)
    go_ret
    exact ⟨by rfl, rfl⟩

def orL : List Int → Int
  | [] => 0
  | x :: r => if x = 0 then orL r else x
theorem orL_two (a b : Int) : orL [a, b] = or2 a b := by unfold orL orL orL or2; split <;> (try split) <;> omega
theorem orL_five (a b c d e : Int) : orL [a, b, c, d, e] = or2 a (or2 b (or2 c (or2 d e))) := by
  have h2 := orL_two d e
  rw [orL, orL, orL, h2]; rfl
theorem orL_drop (xs : List Int) : ∀ k, k < xs.length → orL (xs.drop k) = if xs[k]! = 0 then orL (xs.drop (k + 1)) else xs[k]! := fun k hk => by
  rw [getElem!_pos xs k hk, ← List.getElem_cons_drop hk, orL]

def OrRel (w : World) (xs : List Int) (n gg : Nat) (i : Value) (wr : World) : Prop := ∃ k : Nat, k + gg = n ∧ i = .int .i64 k ∧ wr = w ∧ orL (xs.drop k) = orL xs

set_option maxHeartbeats 800000 in
/-- cmp.Or of numbers. -/
theorem or_any (xs : List Int) (g n : Nat) (w : World) (hn : xs.length = n) (hn9 : n ≤ 100) (hx : ∀ j, j < n → w.cell? ⟨g, j, none⟩ = some (.int .i64 xs[j]!)) :
    Calls Try.prog 58 #[.slice (some ⟨g, 0, none⟩) n n] w fun e w' => e = .returned (.int .i64 (orL xs)) ∧ w = w' := by
  have HN := Lib.hid hn
  clear hn
  go_enter Try.func58, Try.ntmps58
  go_wp2
  go_loopg [5, 8] n (fun gg v i wr => Hid (OrRel w xs n gg i wr))
  case atStart => exact Lib.hid ⟨0, by omega, rfl, rfl, rfl⟩
  case round =>
    obtain ⟨k, hk, rfl, rfl, ho⟩ := hrel.out
    clear hrel
    by_cases hlt : k < n
    · have hltz : (k : Int) < (n : Int) := by omega
      have d0 := hx k hlt
      have hd := orL_drop xs k (by rw [HN.out]; exact hlt)
      generalize xs[k]! = x at d0 hd
      by_cases h0 : x = 0
      · subst h0
        rw [if_pos rfl] at hd
        rw [hd] at ho
        have HO := Lib.hid ho
        clear hd ho hx
        have z : ((0 : Int) != 0) = false := by decide
        go_wp2
        go_roundg (n - (k + 1))
        case measure => omega
        case rel => exact Lib.hid ⟨k + 1, by omega, by simp, rfl, HO.out⟩
      · rw [if_neg h0] at hd
        rw [hd] at ho
        have HO := Lib.hid ho
        clear hd hx ho
        have z2 : (x != 0) = true := by simpa using h0
        have z3 : decide (x = 0) = false := by simpa using h0
        go_wp2
        try rw [Exit.noGoto_ret]
        go_ret
        exact ⟨ret_int HO.out, rfl⟩
    · obtain rfl : k = n := by omega
      rw [List.drop_of_length_le (by rw [HN.out]; exact Nat.le_refl _)] at ho
      have HO := Lib.hid ho
      clear ho hx
      go_wp2
      go_ret
      exact ⟨ret_int HO.out, rfl⟩

theorem cells_of (w : World) (xs : List Value) (t : TypeId) (j : Nat) (v : Value) (hv : xs[j]? = some v) : (w.alloc (.cells xs.toArray t)).cell? ⟨w.heap.size, j, none⟩ = some v := by
  simp [go_sem, hv]

theorem grow_two (w : World) (a b : Obj) : (w.alloc a).alloc b = _root_.Go.Sort.grow w #[a, b] := by rw [_root_.Go.Sort.alloc_eq_grow, _root_.Go.Sort.alloc_eq_grow, _root_.Go.Sort.grow_grow]; rfl

end Go.Proofs.Ytondjponengedaa
