/-
  The reference's Set.
-/
import Derived.Test.YtkcndgiiangmjaaRefC
namespace Go.Proofs.Ytkcndgiiangmjaa
open Go.RowKit Go.Maps
set_option linter.unusedVariables false
set_option linter.unusedSimpArgs false
set_option maxRecDepth 10000

theorem ins_done {t : Tm} : ∀ {A : List Tm} (B : List Tm), A.any (pre t) = true → ins t (A ++ B) = ins t A ++ B
  | [], B, h => by simp at h
  | x :: A, B, h => by
    simp only [List.cons_append, ins]
    by_cases hx : pre t x = true
    · rw [if_pos hx, if_pos hx]; rfl
    · rw [if_neg hx, if_neg hx, ins_done B (by simpa [hx] using h)]; rfl
theorem ins_not {t : Tm} : ∀ {A : List Tm} (B : List Tm), A.any (pre t) = false → ins t (A ++ B) = A ++ ins t B
  | [], B, h => rfl
  | x :: A, B, h => by
    simp only [List.any_cons, Bool.or_eq_false_iff] at h
    simp only [List.cons_append, ins]
    rw [if_neg (by rw [h.1]; exact Bool.false_ne_true), ins_not B h.2]

def dn (t : Tm) (l : List Tm) (k : Nat) : Bool := (l.take k).any (pre t)
def outS (t : Tm) (l : List Tm) (k : Nat) : List Tm := if dn t l k = true then ins t (l.take k) else l.take k
theorem take_next (l : List Tm) {k : Nat} (h : k < l.length) : l.take (k + 1) = l.take k ++ [l[k]!] := by
  rw [List.take_add_one, List.getElem?_eq_getElem h, getElem!_pos l k h, Option.toList_some]
theorem outS_done {t : Tm} {l : List Tm} {k : Nat} (h : k < l.length) (hd : dn t l k = true) : outS t l (k + 1) = outS t l k ++ [l[k]!] ∧ dn t l (k + 1) = true := by
  have h1 : dn t l (k + 1) = true := by unfold dn at hd ⊢; rw [take_next l h, List.any_append, hd]; rfl
  refine ⟨?_, h1⟩
  unfold outS
  rw [if_pos h1, if_pos hd, take_next l h, ins_done _ hd]
theorem outS_now {t : Tm} {l : List Tm} {k : Nat} (h : k < l.length) (hd : dn t l k = false) (hp : pre t l[k]! = true) : outS t l (k + 1) = outS t l k ++ [t] ++ [l[k]!] ∧ dn t l (k + 1) = true := by
  have h1 : dn t l (k + 1) = true := by unfold dn at hd ⊢; rw [take_next l h, List.any_append, List.any_cons, hp]; simp
  refine ⟨?_, h1⟩
  unfold outS
  rw [if_pos h1, if_neg (by rw [hd]; exact Bool.false_ne_true), take_next l h, ins_not _ hd, ins, if_pos hp]
  simp
theorem outS_not {t : Tm} {l : List Tm} {k : Nat} (h : k < l.length) (hd : dn t l k = false) (hp : pre t l[k]! = false) : outS t l (k + 1) = outS t l k ++ [l[k]!] ∧ dn t l (k + 1) = false := by
  have h1 : dn t l (k + 1) = false := by unfold dn at hd ⊢; rw [take_next l h, List.any_append, List.any_cons, hp, hd]; rfl
  refine ⟨?_, h1⟩
  unfold outS
  rw [if_neg (by rw [h1]; exact Bool.false_ne_true), if_neg (by rw [hd]; exact Bool.false_ne_true), take_next l h]
theorem outS_end {t : Tm} {l : List Tm} : (dn t l l.length = true → outS t l l.length = ins t l) ∧ (dn t l l.length = false → outS t l l.length ++ [t] = ins t l) := by
  unfold outS dn
  rw [List.take_length]
  constructor
  · intro h; rw [if_pos h]
  · intro h; rw [if_neg (by rw [h]; exact Bool.false_ne_true)]
    have := ins_not (t := t) [] h
    rw [List.append_nil] at this
    rw [this]; rfl
theorem outS_len {t : Tm} {l : List Tm} {k : Nat} : (outS t l k).length ≤ l.length + 1 := by
  unfold outS
  split
  · rw [ins_length, List.length_take]; omega
  · rw [List.length_take]; omega

set_option maxHeartbeats 1000000 in
theorem rset_no {w : World} {now : Nat} {v : Value} {L : List Tm} {x a : Int} (hrow : w.ownsRow 0 93 2 v L.length (tcells L)) (hr : ¬ (0 ≤ x ∧ x ≤ 65535 ∧ 0 ≤ a ∧ a ≤ 1099511627776)) :
    Calls Try.prog 32 #[rv now v, .int .i64 x, .int .i64 a] w fun e w' => e = .returned (.tuple #[rv now v, .bool false]) ∧ Below w.heap.size w w' := by
  obtain ⟨a', c, rfl, hnc, -⟩ := row_any hrow
  generalize L.length = n at *
  clear hrow
  simp only [rv]
  by_cases h1 : x < 0
  · clear hr
    go_enter Try.func32, Try.ntmps32
    go_wp2
    refine bodyPost_ret (v := .tuple #[.agg #[.int .i64 (now : Int), .slice a' n c], .bool false]) (by simp [results, Try.results32, go_sem]) rfl ⟨rfl, ?_⟩
    repeat (first | exact Below.refl _ _ | with_reducible refine below_drewN ?_ _ | with_reducible refine below_drew ?_ | with_reducible refine Below.setCell ?_ (by simp) _ | with_reducible refine below_alloc ?_ _)
  · by_cases h2 : 65535 < x
    · clear hr
      go_enter Try.func32, Try.ntmps32
      go_wp2
      refine bodyPost_ret (v := .tuple #[.agg #[.int .i64 (now : Int), .slice a' n c], .bool false]) (by simp [results, Try.results32, go_sem]) rfl ⟨rfl, ?_⟩
      repeat (first | exact Below.refl _ _ | with_reducible refine below_drewN ?_ _ | with_reducible refine below_drew ?_ | with_reducible refine Below.setCell ?_ (by simp) _ | with_reducible refine below_alloc ?_ _)
    · by_cases h3 : a < 0
      · clear hr
        go_enter Try.func32, Try.ntmps32
        go_wp2
        refine bodyPost_ret (v := .tuple #[.agg #[.int .i64 (now : Int), .slice a' n c], .bool false]) (by simp [results, Try.results32, go_sem]) rfl ⟨rfl, ?_⟩
        repeat (first | exact Below.refl _ _ | with_reducible refine below_drewN ?_ _ | with_reducible refine below_drew ?_ | with_reducible refine Below.setCell ?_ (by simp) _ | with_reducible refine below_alloc ?_ _)
      · have h4 : 1099511627776 < a := by omega
        clear hr
        go_enter Try.func32, Try.ntmps32
        go_wp2
        refine bodyPost_ret (v := .tuple #[.agg #[.int .i64 (now : Int), .slice a' n c], .bool false]) (by simp [results, Try.results32, go_sem]) rfl ⟨rfl, ?_⟩
        repeat (first | exact Below.refl _ _ | with_reducible refine below_drewN ?_ _ | with_reducible refine below_drew ?_ | with_reducible refine Below.setCell ?_ (by simp) _ | with_reducible refine below_alloc ?_ _)

end Go.Proofs.Ytkcndgiiangmjaa
