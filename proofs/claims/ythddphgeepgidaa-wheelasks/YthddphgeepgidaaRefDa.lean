/-
  The reference's Do, a.
-/
import Derived.Test.YthddphgeepgidaaRefD0
namespace Go.Proofs.Ythddphgeepgidaa
open Go.RowKit Go.Maps
set_option linter.unusedVariables false
set_option linter.unusedSimpArgs false
set_option maxRecDepth 10000

set_option maxHeartbeats 4000000 in
theorem rdo_a {w : World} {s : St} {k i a : Int} {v : Value} (hrow : w.ownsRow 0 58 2 v s.l.length (tcells s.l)) (ok : OkS s 990) (h0 : k = 0) :
    Calls Try.prog 22 #[rv s.now v, .agg #[.int .i64 k, .int .i64 i, .int .i64 a]] w fun e w' => ∃ v' u, e = .returned (.tuple #[rv (stp s k i a).now v', .bool (ans s k i a), u]) ∧
      w'.ownsRow 0 58 2 v' (stp s k i a).l.length (tcells (stp s k i a).l) ∧ (∀ g, v'.ownBlock = some g → v.ownBlock = some g ∨ w.heap.size ≤ g) ∧
      w'.ownsRow w.heap.size 3 1 u (tol s k a).length (icells (tol s k a)) ∧ Below w.heap.size w w' := by
  obtain ⟨a0, c, rfl, hnc, -⟩ := row_any hrow
  have hb0 : Below w.heap.size w (((w.alloc (.cells #[.int .i64 (s.now : Int), .slice a0 s.l.length c] 28)).alloc (.cells #[.int .i64 k, .int .i64 i, .int .i64 a] 38)).alloc (.cells #[.int .i64 0, .slice none 0 0] 28)) := below_alloc (below_alloc (below_alloc (Below.refl _ _) _) _) _
  have hr0 := row_below hrow hb0
  have hx0 := bd_new w (.int .i64 (s.now : Int)) (.slice a0 s.l.length c) (.int .i64 k) (.int .i64 i) (.int .i64 a) (.int .i64 0) (.slice none 0 0)
  have hold : ∀ g, (Value.slice a0 s.l.length c).ownBlock = some g → g < w.heap.size := fun g hg => (hrow.lt g hg).2
  have HX0 := Lib.hid hx0
  have HB0 := Lib.hid hb0
  have HOLD := Lib.hid hold
  have HOK := Lib.hid ok
  have e1 : ans s k i a = inR i a := by unfold ans; rw [if_pos h0]
  have e2 : stp s k i a = ⟨s.now, setL s.l i a⟩ := by unfold stp; rw [if_pos h0]
  have e3 : tol s k a = [] := by unfold tol; rw [if_neg (by omega)]
  subst h0
  have HC := Lib.hid (rset_any (now := s.now) (x := i) (a := a) hr0 (by have := ok.len; omega))
  rw [e1, e2, e3]
  generalize inR i a = r at HC ⊢
  generalize setL s.l i a = L1 at HC ⊢
  generalize s.now = now at *
  simp only
  clear hrow hr0 hb0 hx0 hold e1 e2 e3 ok
  generalize hn : s.l.length = n at *
  simp only [rv] at HC ⊢
  go_enter Try.func22, Try.ntmps22
  go_wp2_with (go_at_call 28; refine HC.out.mono ?_; rintro e w1 ⟨v1, rfl, hr1, hg1, hb1⟩; obtain ⟨a1, c1, rfl, hnc1, -⟩ := row_any hr1; have HB1 := Lib.hid hb1; have HX := Lib.hid hg1; have HR1 := Lib.hid hr1; have hx1 := HX0.out.below hb1 (by simp); obtain ⟨c0, c1', o0, o1, o2, r0, r1, f0, f1, g0, g1⟩ := hx1; clear hr1 hb1 hg1)
  have HNE := Lib.hid (show ∀ j, (j = w.heap.size ∨ j = w.heap.size + 2) → (Value.slice a1 L1.length c1).ownBlock ≠ some j from fun j hj e => by
    rcases HX.out j e with h | h
    · have := HOLD.out j h; omega
    · simp at h; omega)
  generalize hq1 : L1.length = q1 at *
  have HQ1 := Lib.hid hq1
  clear hq1
  go_wp2
  refine bodyPost_ret (v := .tuple #[.agg #[.int .i64 (now : Nat), .slice a1 q1 c1], .bool r, .slice none 0 0]) (by simp [results, Try.results22, go_sem, c0, c1', o0, o1, o2, r0, r1]) rfl ⟨_, _, rfl, ?_, ?_, ?_, ?_⟩
  · try rw [HQ1.out]
    repeat (first | exact HR1.out | exact row_base HR1.out (Nat.zero_le _) | with_reducible refine row_drewN ?_ _ | with_reducible refine row_drew ?_ | with_reducible refine row_put ?_ (HNE.out _ (by simp)) _)
  · intro g hg
    rcases HX.out g hg with h | h
    · exact .inl h
    · right; simp at h; omega
  · exact World.ownsRow_nil _ _ _ _
  · have hbb := HB0.out.trans (HB1.out.mono (by simp; omega))
    repeat (first | exact hbb | with_reducible refine below_drewN ?_ _ | with_reducible refine below_drew ?_ | with_reducible refine Below.setCell ?_ (by simp only []; omega) _)

end Go.Proofs.Ythddphgeepgidaa
