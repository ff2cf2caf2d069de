/-
  The reference's Do, d.
-/
import Derived.Test.YthddphgeepgidaaRefD0
namespace Go.Proofs.Ythddphgeepgidaa
open Go.RowKit Go.Maps
set_option linter.unusedVariables false
set_option linter.unusedSimpArgs false
set_option maxRecDepth 10000

set_option maxHeartbeats 4000000 in
theorem rdo_d {w : World} {s : St} {k i a : Int} {v : Value} (hrow : w.ownsRow 0 58 2 v s.l.length (tcells s.l)) (ok : OkS s 990) (h0 : ¬ k = 0) (h11 : ¬ k = 1) (h2 : ¬ k = 2) :
    Calls Try.prog 22 #[rv s.now v, .agg #[.int .i64 k, .int .i64 i, .int .i64 a]] w fun e w' => ∃ v' u, e = .returned (.tuple #[rv (stp s k i a).now v', .bool (ans s k i a), u]) ∧
      w'.ownsRow 0 58 2 v' (stp s k i a).l.length (tcells (stp s k i a).l) ∧ (∀ g, v'.ownBlock = some g → v.ownBlock = some g ∨ w.heap.size ≤ g) ∧
      w'.ownsRow w.heap.size 3 1 u (tol s k a).length (icells (tol s k a)) ∧ Below w.heap.size w w' := by
  obtain ⟨a0, c, rfl, hnc, -⟩ := row_any hrow
  have hb0 : Below w.heap.size w (((w.alloc (.cells #[.int .i64 (s.now : Int), .slice a0 s.l.length c] 28)).alloc (.cells #[.int .i64 k, .int .i64 i, .int .i64 a] 38)).alloc (.cells #[.int .i64 0, .slice none 0 0] 28)) := below_alloc (below_alloc (below_alloc (Below.refl _ _) _) _) _
  have hr0 := row_below hrow hb0
  have hx0 := bd_new w (.int .i64 (s.now : Int)) (.slice a0 s.l.length c) (.int .i64 k) (.int .i64 i) (.int .i64 a) (.int .i64 0) (.slice none 0 0)
  have hold : ∀ g, (Value.slice a0 s.l.length c).ownBlock = some g → g < w.heap.size := fun g hg => (hrow.lt g hg).2
  have HX0 := Lib.hid hx0
  have HB0 := Lib.hid hb0
  have HOLD := Lib.hid hold
  have HOK := Lib.hid ok
  have e1 : ans s k i a = true := by unfold ans; rw [if_neg h0, if_neg h11]
  have e2 : stp s k i a = s := by unfold stp; rw [if_neg h0, if_neg h11, if_neg h2]
  have e3 : tol s k a = [] := by unfold tol; rw [if_neg h2]
  rw [e1, e2, e3]
  have HROW := Lib.hid hrow
  have d0 : decide (k = 0) = false := decide_eq_false h0
  have d1 : decide (k = 1) = false := decide_eq_false h11
  have d2 : decide (k = 2) = false := decide_eq_false h2
  clear hrow hr0 hb0 hx0 hold e1 e2 e3 ok
  generalize hn : s.l.length = n at *
  generalize s.now = now at *
  simp only [rv]
  go_enter Try.func22, Try.ntmps22
  go_wp2
  refine bodyPost_ret (v := .tuple #[.agg #[.int .i64 (now : Nat), .slice a0 n c], .bool true, .slice none 0 0]) (by simp [results, Try.results22, go_sem]) rfl ⟨_, _, rfl, ?_⟩
  refine (fun hb => ⟨row_below HROW.out hb, fun g hg => .inl hg, World.ownsRow_nil _ _ _ _, hb⟩ : Below w.heap.size w _ → _) ?_
  repeat (first | exact Below.refl _ _ | with_reducible refine below_drewN ?_ _ | with_reducible refine below_drew ?_ | with_reducible refine Below.setCell ?_ (by simp) _ | with_reducible refine below_alloc ?_ _)

end Go.Proofs.Ythddphgeepgidaa
