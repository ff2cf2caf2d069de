/-
  What a master does with what it hears: meet.
-/
import Derived.Test.YtpcdaidgijkkbaaVhear
namespace Go.Proofs.Ytpcdaidgijkkbaa
open Go.RowKit Go.Maps
set_option linter.unusedVariables false
set_option linter.unusedSimpArgs false
set_option maxRecDepth 40000

theorem gtr_addr {x y : ByteArray} (r : Bool) (h : lt8 y x = r) (w : World) : (binOp .gtr 22 (.string x) (.string y)).run Try.prog w = .ok (.bool r) w := by
  have h1 : (!Op.bytesLess x.toList y.toList && !(x.toList == y.toList)) = r := by
    cases r with
    | true =>
      have h1 : Op.bytesLess x.toList y.toList = false := lt8_asym h
      have h2 : (x.toList == y.toList) = false := by
        rw [beq_eq_false_iff_ne]
        intro e
        have h0 : Op.bytesLess y.toList x.toList = true := h
        rw [e, bl_irr] at h0
        cases h0
      rw [h1, h2]; rfl
    | false =>
      cases h2 : Op.bytesLess x.toList y.toList
      · have e : x = y := lt8_tri h2 h
        subst e
        simp
      · rfl
  simp [binOp, Op.stringOp, go_sem]
  exact h1

section
variable {base B : Nat} {w : World} {m : Mc} {A : Option Addr} {n c : Nat}

set_option maxHeartbeats 2000000 in
theorem meet_zero (h : Mm base w B m) (h3 : m.st = 3) (f : ByteArray) (ai ap ae : Int) (hp : ap = 0) (hlen : m.out.length ≤ 549755813888) :
    Calls Try.prog 44 #[.pointer (some ⟨B, 0, none⟩), .string f, .agg #[.int .i64 ai, .int .i64 ap, .int .i64 ae, .slice A n c]] w fun e w' => e = .returned (.tuple #[]) ∧ Mm base w' B (sayM m m.c.pr) ∧ Kp base B w w' := by
  have hb0 : Below w.heap.size w (w.alloc (.cells #[.int .i64 ai, .int .i64 ap, .int .i64 ae, .slice A n c] 55)) := below_alloc (Below.refl _ _) _
  have h0 := h.below hb0
  have hok := h.ok
  have hlt := h.lt
  obtain ⟨va, vo, l, hS⟩ := h0
  obtain ⟨c0, c1, c2, c3, c4, c5, c6, c7, c8, c9⟩ := hS.cells
  have hlt8 := hS.blk.lt
  have HB : Hid (Calls Try.prog 45 #[.pointer (some ⟨B, 0, none⟩)] (w.alloc (.cells #[.int .i64 ai, .int .i64 ap, .int .i64 ae, .slice A n c] 55)) fun e w' => e = .returned (.tuple #[]) ∧ Mm base w' B (sayM m m.c.pr) ∧ Kp base B w w') :=
    Lib.hid ((again_any hS.mm (hok.say _) hlen).mono fun e w' ⟨h1, h3, h4⟩ => ⟨h1, h3, (Kp.of_below hb0).trans h4⟩)
  clear h hS hok hb0 c0 c1 c2 c3 c4 c5 c6 c7 c8 c9 h3 hlen
  subst hp
  go_enter Try.func44, Try.ntmps44
  go_wp2_with fail
  refine HB.out.mono ?_
  rintro e w1 ⟨rfl, hm⟩
  go_wp2
  first | go_end0 | ((try simp only [Exit.inBlock, Exit.then]); refine bodyPost_ret (results_none rfl _ _ _) rfl ?_)
  exact ⟨rfl, hm⟩

set_option maxHeartbeats 2000000 in
theorem meet_gt (h : Mm base w B m) (h3 : m.st = 3) (f : ByteArray) (ai ap ae : Int) (hp : ap ≠ 0) (hgt : m.c.pr < ap) :
    Calls Try.prog 44 #[.pointer (some ⟨B, 0, none⟩), .string f, .agg #[.int .i64 ai, .int .i64 ap, .int .i64 ae, .slice A n c]] w fun e w' => e = .returned (.tuple #[]) ∧ Mm base w' B (followM m ae) ∧ Kp base B w w' := by
  have hb0 : Below w.heap.size w (w.alloc (.cells #[.int .i64 ai, .int .i64 ap, .int .i64 ae, .slice A n c] 55)) := below_alloc (Below.refl _ _) _
  have h0 := h.below hb0
  have hok := h.ok
  have hlt := h.lt
  obtain ⟨va, vo, l, hS⟩ := h0
  obtain ⟨c0, c1, c2, c3, c4, c5, c6, c7, c8, c9⟩ := hS.cells
  have hlt8 := hS.blk.lt
  have HB : ∀ q, Hid (Calls Try.prog 42 #[.pointer (some ⟨B, 0, none⟩), .int .i64 ae] ((w.alloc (.cells #[.int .i64 ai, .int .i64 ap, .int .i64 ae, .slice A n c] 55)).drewN q) fun e w' => e = .returned (.tuple #[]) ∧ Mm base w' B (followM m ae) ∧ Kp base B w w') := fun q =>
    Lib.hid ((backup_any (hS.mm.drewN q) ae).mono fun e w' ⟨h1, h3, h4⟩ => ⟨h1, h3, ((Kp.of_below hb0).drewN q).trans h4⟩)
  have heq : ¬ ap = m.c.pr := by omega
  have hpb : (ap == 0) = false := beq_eq_false_iff_ne.2 hp
  have e1 : decide (ap > m.c.pr) = true := decide_eq_true hgt
  have e2 : decide (m.c.pr < ap) = true := decide_eq_true hgt
  have e3 : (ap == m.c.pr) = false := beq_eq_false_iff_ne.2 heq
  clear h hS hok hb0 c0 c2 c3 c5 c6 c7 c8 c9 h3 hp
  clear hgt
  clear heq
  generalize m.c.pr = pr at *
  generalize m.c.fr = fr at *
  go_enter Try.func44, Try.ntmps44
  go_wp2
  go_quiet (fail)
  go_wp2
  go_quiet (fail)
  go_wp2_with fail
  refine (HB _).out.mono ?_
  rintro e w1 ⟨rfl, hm⟩
  go_wp2
  first | go_end0 | ((try simp only [Exit.inBlock, Exit.then]); refine bodyPost_ret (results_none rfl _ _ _) rfl ?_)
  exact ⟨rfl, hm⟩

set_option maxHeartbeats 2000000 in
theorem meet_tx (h : Mm base w B m) (h3 : m.st = 3) (f : ByteArray) (ai ap ae : Int) (hp : ap ≠ 0) (hgt : ¬ m.c.pr < ap) (heq : ap = m.c.pr) (htx : lt8 m.c.fr f = true) :
    Calls Try.prog 44 #[.pointer (some ⟨B, 0, none⟩), .string f, .agg #[.int .i64 ai, .int .i64 ap, .int .i64 ae, .slice A n c]] w fun e w' => e = .returned (.tuple #[]) ∧ Mm base w' B (followM m ae) ∧ Kp base B w w' := by
  have hb0 : Below w.heap.size w (w.alloc (.cells #[.int .i64 ai, .int .i64 ap, .int .i64 ae, .slice A n c] 55)) := below_alloc (Below.refl _ _) _
  have h0 := h.below hb0
  have hok := h.ok
  have hlt := h.lt
  obtain ⟨va, vo, l, hS⟩ := h0
  obtain ⟨c0, c1, c2, c3, c4, c5, c6, c7, c8, c9⟩ := hS.cells
  have hlt8 := hS.blk.lt
  have HB : ∀ q, Hid (Calls Try.prog 42 #[.pointer (some ⟨B, 0, none⟩), .int .i64 ae] ((w.alloc (.cells #[.int .i64 ai, .int .i64 ap, .int .i64 ae, .slice A n c] 55)).drewN q) fun e w' => e = .returned (.tuple #[]) ∧ Mm base w' B (followM m ae) ∧ Kp base B w w') := fun q =>
    Lib.hid ((backup_any (hS.mm.drewN q) ae).mono fun e w' ⟨h1, h3, h4⟩ => ⟨h1, h3, ((Kp.of_below hb0).drewN q).trans h4⟩)
  have hpb : (ap == 0) = false := beq_eq_false_iff_ne.2 hp
  have e1 : decide (ap > m.c.pr) = false := decide_eq_false hgt
  have e2 : decide (m.c.pr < ap) = false := decide_eq_false hgt
  have e3 : (ap == m.c.pr) = true := beq_iff_eq.2 heq
  have e4 := gtr_addr true htx
  clear h hS hok hb0 c0 c2 c3 c5 c6 c7 c8 c9 h3 hp
  clear htx
  clear hgt
  clear heq
  generalize m.c.pr = pr at *
  generalize m.c.fr = fr at *
  go_enter Try.func44, Try.ntmps44
  go_wp2
  go_quiet (fail)
  go_wp2
  go_quiet (fail)
  go_wp2_with fail
  refine (HB _).out.mono ?_
  rintro e w1 ⟨rfl, hm⟩
  go_wp2
  first | go_end0 | ((try simp only [Exit.inBlock, Exit.then]); refine bodyPost_ret (results_none rfl _ _ _) rfl ?_)
  exact ⟨rfl, hm⟩

set_option maxHeartbeats 2000000 in
theorem meet_no (h : Mm base w B m) (h3 : m.st = 3) (f : ByteArray) (ai ap ae : Int) (hp : ap ≠ 0) (hgt : ¬ m.c.pr < ap) (heq : ap = m.c.pr) (htx : lt8 m.c.fr f = false) :
    Calls Try.prog 44 #[.pointer (some ⟨B, 0, none⟩), .string f, .agg #[.int .i64 ai, .int .i64 ap, .int .i64 ae, .slice A n c]] w fun e w' => e = .returned (.tuple #[]) ∧ Mm base w' B m ∧ Kp base B w w' := by
  have hb0 : Below w.heap.size w (w.alloc (.cells #[.int .i64 ai, .int .i64 ap, .int .i64 ae, .slice A n c] 55)) := below_alloc (Below.refl _ _) _
  have h0 := h.below hb0
  have hok := h.ok
  have hlt := h.lt
  obtain ⟨va, vo, l, hS⟩ := h0
  obtain ⟨c0, c1, c2, c3, c4, c5, c6, c7, c8, c9⟩ := hS.cells
  have hlt8 := hS.blk.lt
  have HM : ∀ q, Hid (Mm base ((w.alloc (.cells #[.int .i64 ai, .int .i64 ap, .int .i64 ae, .slice A n c] 55)).drewN q) B m ∧ Kp base B w ((w.alloc (.cells #[.int .i64 ai, .int .i64 ap, .int .i64 ae, .slice A n c] 55)).drewN q)) := fun q => Lib.hid ⟨hS.mm.drewN q, (Kp.of_below hb0).drewN q⟩
  have hpb : (ap == 0) = false := beq_eq_false_iff_ne.2 hp
  have e1 : decide (ap > m.c.pr) = false := decide_eq_false hgt
  have e2 : decide (m.c.pr < ap) = false := decide_eq_false hgt
  have e3 : (ap == m.c.pr) = true := beq_iff_eq.2 heq
  have e4 := gtr_addr false htx
  clear h hS hok hb0 c0 c2 c3 c5 c6 c7 c8 c9 h3 hp
  clear htx
  clear hgt
  clear heq
  generalize m.c.pr = pr at *
  generalize m.c.fr = fr at *
  go_enter Try.func44, Try.ntmps44
  go_wp2
  go_quiet (fail)
  go_wp2
  go_quiet (fail)
  go_wp2
  first | go_end0 | ((try simp only [Exit.inBlock, Exit.then]); refine bodyPost_ret (results_none rfl _ _ _) rfl ?_)
  refine ⟨rfl, ?_⟩
  rw [World.drewN_drewN]
  exact (HM _).out

set_option maxHeartbeats 2000000 in
theorem meet_lt (h : Mm base w B m) (h3 : m.st = 3) (f : ByteArray) (ai ap ae : Int) (hp : ap ≠ 0) (hgt : ¬ m.c.pr < ap) (heq : ¬ ap = m.c.pr) :
    Calls Try.prog 44 #[.pointer (some ⟨B, 0, none⟩), .string f, .agg #[.int .i64 ai, .int .i64 ap, .int .i64 ae, .slice A n c]] w fun e w' => e = .returned (.tuple #[]) ∧ Mm base w' B m ∧ Kp base B w w' := by
  have hb0 : Below w.heap.size w (w.alloc (.cells #[.int .i64 ai, .int .i64 ap, .int .i64 ae, .slice A n c] 55)) := below_alloc (Below.refl _ _) _
  have h0 := h.below hb0
  have hok := h.ok
  have hlt := h.lt
  obtain ⟨va, vo, l, hS⟩ := h0
  obtain ⟨c0, c1, c2, c3, c4, c5, c6, c7, c8, c9⟩ := hS.cells
  have hlt8 := hS.blk.lt
  have HM : ∀ q, Hid (Mm base ((w.alloc (.cells #[.int .i64 ai, .int .i64 ap, .int .i64 ae, .slice A n c] 55)).drewN q) B m ∧ Kp base B w ((w.alloc (.cells #[.int .i64 ai, .int .i64 ap, .int .i64 ae, .slice A n c] 55)).drewN q)) := fun q => Lib.hid ⟨hS.mm.drewN q, (Kp.of_below hb0).drewN q⟩
  have hpb : (ap == 0) = false := beq_eq_false_iff_ne.2 hp
  have e1 : decide (ap > m.c.pr) = false := decide_eq_false hgt
  have e2 : decide (m.c.pr < ap) = false := decide_eq_false hgt
  have e3 : (ap == m.c.pr) = false := beq_eq_false_iff_ne.2 heq
  clear h hS hok hb0 c0 c2 c3 c5 c6 c7 c8 c9 h3 hp
  clear hgt
  clear heq
  generalize m.c.pr = pr at *
  generalize m.c.fr = fr at *
  go_enter Try.func44, Try.ntmps44
  go_wp2
  go_quiet (fail)
  go_wp2
  go_quiet (fail)
  go_wp2
  first | go_end0 | ((try simp only [Exit.inBlock, Exit.then]); refine bodyPost_ret (results_none rfl _ _ _) rfl ?_)
  refine ⟨rfl, ?_⟩
  rw [World.drewN_drewN]
  exact (HM _).out

/-- Machine.meet. -/
theorem meet_any (h : Mm base w B m) (h3 : m.st = 3) (f : ByteArray) (a : Av) (hlen : m.out.length ≤ 549755813888) :
    Calls Try.prog 44 #[.pointer (some ⟨B, 0, none⟩), .string f, .agg #[.int .i64 a.id, .int .i64 a.pr, .int .i64 a.ev, .slice A n c]] w fun e w' => e = .returned (.tuple #[]) ∧ Mm base w' B (meetM m f a) ∧ Kp base B w w' := by
  unfold meetM
  by_cases hp : a.pr = 0
  · rw [if_pos hp]; exact meet_zero h h3 f _ _ _ hp hlen
  rw [if_neg hp]
  by_cases hgt : m.c.pr < a.pr
  · rw [if_pos (.inl hgt)]; exact meet_gt h h3 f _ _ _ hp hgt
  by_cases heq : a.pr = m.c.pr
  · cases htx : lt8 m.c.fr f
    · rw [if_neg (by simp [hgt])]; exact meet_no h h3 f _ _ _ hp hgt heq htx
    · rw [if_pos (.inr ⟨heq, rfl⟩)]; exact meet_tx h h3 f _ _ _ hp hgt heq htx
  · rw [if_neg (by simp [hgt, heq])]; exact meet_lt h h3 f _ _ _ hp hgt heq
end
end Go.Proofs.Ytpcdaidgijkkbaa
