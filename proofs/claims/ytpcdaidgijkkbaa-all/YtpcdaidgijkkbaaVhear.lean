/-
  What a machine does with what it hears: hear, meet.
-/
import Derived.Test.YtpcdaidgijkkbaaVdo
namespace Go.Proofs.Ytpcdaidgijkkbaa
open Go.RowKit Go.Maps
set_option linter.unusedVariables false
set_option linter.unusedSimpArgs false
set_option maxRecDepth 40000

theorem Mm.drewN {base B : Nat} {w : World} {m : Mc} (h : Mm base w B m) (q : Nat) : Mm base (w.drewN q) B m := h.below (below_drewN (Below.refl _ _) q)
section
variable {base B : Nat} {w : World} {m : Mc} {A : Option Addr} {n c : Nat}

set_option maxHeartbeats 2000000 in
/-- Machine.hear. -/
theorem hear_any (h : Mm base w B m) (h2 : m.st = 2) (a : Av) :
    Calls Try.prog 43 #[.pointer (some ⟨B, 0, none⟩), .agg #[.int .i64 a.id, .int .i64 a.pr, .int .i64 a.ev, .slice A n c]] w fun e w' => e = .returned (.tuple #[]) ∧ Mm base w' B (hearM m a) ∧ Kp base B w w' := by
  have hb0 : Below w.heap.size w (w.alloc (.cells #[.int .i64 a.id, .int .i64 a.pr, .int .i64 a.ev, .slice A n c] 55)) := below_alloc (Below.refl _ _) _
  have h0 := h.below hb0
  have hok := h.ok
  have hlt := h.lt
  obtain ⟨va, vo, l, hS⟩ := h0
  obtain ⟨c0, c1, c2, c3, c4, c5, c6, c7, c8, c9⟩ := hS.cells
  have f8 := hS.blk.free 8
  have hlt8 := hS.blk.lt
  by_cases hp : a.pr = 0
  · have HE : Hid (hearM m a = { m with wt := max (skewI m.c.pr m.pace) 1 }) := Lib.hid (by
      unfold hearM
      rw [if_pos hp]
      congr 1
      split <;> omega)
    have HD := Lib.hid (mskew_any c1 c7)
    have HOK := hok.hear a
    rw [HE.out] at HOK ⊢
    generalize skewI m.c.pr m.pace = s at *
    have HM : ∀ q, Hid (Mm base (((w.alloc (.cells #[.int .i64 a.id, .int .i64 a.pr, .int .i64 a.ev, .slice A n c] 55)).drewN q).setCell ⟨B, 8, none⟩ (.int .i64 (max s 1))) B { m with wt := max s 1 } ∧ Kp base B w (((w.alloc (.cells #[.int .i64 a.id, .int .i64 a.pr, .int .i64 a.ev, .slice A n c] 55)).drewN q).setCell ⟨B, 8, none⟩ (.int .i64 (max s 1)))) := fun q =>
      Lib.hid ⟨((hS.below (below_drewN (Below.refl _ _) q)).wt _ HOK).mm, (((Kp.of_below hb0)).drewN q).setCell 8 _⟩
    clear h hS HOK hok hb0 c0 c1 c2 c3 c4 c5 c6 c7 c9
    obtain ⟨ai, ap, ae, ax⟩ := a
    simp only at hp
    subst hp
    go_enter Try.func43, Try.ntmps43
    go_wp2_with fail
    refine HD.out.mono ?_
    rintro e w1 ⟨rfl, q, rfl⟩
    go_wp2
    first | go_end0 | ((try simp only [Exit.inBlock, Exit.then]); refine bodyPost_ret (results_none rfl _ _ _) rfl ?_)
    exact ⟨rfl, (HM q).out⟩
  · have hpb : (a.pr == 0) = false := beq_eq_false_iff_ne.2 hp
    obtain ⟨ai, ap, ae, ax⟩ := a
    simp only at hp hpb
    by_cases hg : m.c.pre = false ∨ m.c.pr ≤ ap
    · have HE : Hid (hearM m ⟨ai, ap, ae, ax⟩ = followM m ae) := Lib.hid (by
        unfold hearM
        rw [if_neg hp, if_pos hg])
      have HB : ∀ q, Hid (Calls Try.prog 42 #[.pointer (some ⟨B, 0, none⟩), .int .i64 ae] ((w.alloc (.cells #[.int .i64 ai, .int .i64 ap, .int .i64 ae, .slice A n c] 55)).drewN q) fun e w' => e = .returned (.tuple #[]) ∧ Mm base w' B (followM m ae) ∧ Kp base B w w') := fun q =>
        Lib.hid ((backup_any (hS.mm.drewN q) ae).mono fun e w' ⟨h1, h3, h4⟩ => ⟨h1, h3, ((Kp.of_below hb0).drewN q).trans h4⟩)
      rw [HE.out]
      clear h hS hok hb0 c0 c2 c4 c5 c6 c7 c8 c9 h2
      cases hpre : m.c.pre with
      | false =>
        rw [hpre] at c3
        clear hg hpre
        go_enter Try.func43, Try.ntmps43
        go_wp2
        go_quiet (fail)
        go_wp2_with fail
        refine (HB _).out.mono ?_
        rintro e w1 ⟨rfl, hm⟩
        go_wp2
        first | go_end0 | ((try simp only [Exit.inBlock, Exit.then]); refine bodyPost_ret (results_none rfl _ _ _) rfl ?_)
        exact ⟨rfl, hm⟩
      | true =>
        have hge : m.c.pr ≤ ap := by rw [hpre] at hg; simpa using hg
        rw [hpre] at c3
        have e1 : decide (ap ≥ m.c.pr) = true := decide_eq_true hge
        have e2 : decide (m.c.pr ≤ ap) = true := decide_eq_true hge
        clear hg hpre
        generalize m.c.pr = pr at *
        go_enter Try.func43, Try.ntmps43
        go_wp2
        go_quiet (fail)
        go_wp2_with fail
        refine (HB _).out.mono ?_
        rintro e w1 ⟨rfl, hm⟩
        go_wp2
        first | go_end0 | ((try simp only [Exit.inBlock, Exit.then]); refine bodyPost_ret (results_none rfl _ _ _) rfl ?_)
        exact ⟨rfl, hm⟩
    · have HE : Hid (hearM m ⟨ai, ap, ae, ax⟩ = m) := Lib.hid (by
        unfold hearM
        rw [if_neg hp, if_neg hg])
      rw [HE.out]
      have hpre : m.c.pre = true := by
        cases e : m.c.pre
        · exact absurd (.inl e) hg
        · rfl
      have hge : ¬ m.c.pr ≤ ap := fun e => hg (.inr e)
      have HM : ∀ q, Hid (Mm base ((w.alloc (.cells #[.int .i64 ai, .int .i64 ap, .int .i64 ae, .slice A n c] 55)).drewN q) B m ∧ Kp base B w ((w.alloc (.cells #[.int .i64 ai, .int .i64 ap, .int .i64 ae, .slice A n c] 55)).drewN q)) := fun q => Lib.hid ⟨hS.mm.drewN q, (Kp.of_below hb0).drewN q⟩
      rw [hpre] at c3
      have e1 : decide (ap ≥ m.c.pr) = false := decide_eq_false hge
      have e2 : decide (m.c.pr ≤ ap) = false := decide_eq_false hge
      clear h hS hok hb0 c0 c2 c4 c5 c6 c7 c8 c9 h2 hg hpre
      generalize m.c.pr = pr at *
      go_enter Try.func43, Try.ntmps43
      go_wp2
      go_quiet (fail)
      go_wp2
      first | go_end0 | ((try simp only [Exit.inBlock, Exit.then]); refine bodyPost_ret (results_none rfl _ _ _) rfl ?_)
      exact ⟨rfl, (HM _).out⟩
end
end Go.Proofs.Ytpcdaidgijkkbaa
