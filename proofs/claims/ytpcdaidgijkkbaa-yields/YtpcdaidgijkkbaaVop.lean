/-
  What Start, Stop, Tick and Take do.
-/
import Derived.Test.YtpcdaidgijkkbaaVmeet
namespace Go.Proofs.Ytpcdaidgijkkbaa
open Go.RowKit Go.Maps
set_option linter.unusedVariables false
set_option linter.unusedSimpArgs false
set_option maxRecDepth 40000

section
variable {base B : Nat} {w : World} {m : Mc} {A : Option Addr} {n c : Nat}

set_option maxHeartbeats 2000000 in
/-- Machine.Start. -/
theorem start_any (h : Mm base w B m) (hlen : m.out.length ≤ 549755813888) :
    Calls Try.prog 26 #[.pointer (some ⟨B, 0, none⟩)] w fun e w' => e = .returned (.tuple #[]) ∧ Mm base w' B (startM m) ∧ Kp base B w w' := by
  obtain ⟨va, vo, l, hS⟩ := h
  obtain ⟨c0, c1, c2, c3, c4, c5, c6, c7, c8, c9⟩ := hS.cells
  have hlt := hS.blk.lt
  have HMa := Lib.hid (master_any hS.mm hlen)
  have HBa := Lib.hid (backup_any hS.mm m.c.ev)
  have HS := Lib.hid hS.mm
  clear hlen hS c0 c3 c4 c5 c7 c8 c9
  unfold startM
  by_cases h1 : m.st = 1
  · rw [if_pos h1]
    have e1 : (m.st != 1) = false := by simpa using h1
    by_cases h2 : m.c.pr = 255
    · rw [if_pos h2]
      rw [h2] at c1
      clear h1 h2
      generalize m.st = st at *
      go_enter Try.func26, Try.ntmps26
      go_wp2_with fail
      refine HMa.out.mono ?_
      rintro e w1 ⟨rfl, hm⟩
      go_wp2
      first | go_end0 | ((try simp only [Exit.inBlock, Exit.then]); refine bodyPost_ret (results_none rfl _ _ _) rfl ?_)
      exact ⟨rfl, hm⟩
    · rw [if_neg h2]
      have e2 : (m.c.pr == 255) = false := beq_eq_false_iff_ne.2 h2
      clear h1 h2
      generalize m.st = st at *
      go_enter Try.func26, Try.ntmps26
      go_wp2_with fail
      refine HBa.out.mono ?_
      rintro e w1 ⟨rfl, hm⟩
      go_wp2
      first | go_end0 | ((try simp only [Exit.inBlock, Exit.then]); refine bodyPost_ret (results_none rfl _ _ _) rfl ?_)
      exact ⟨rfl, hm⟩
  · rw [if_neg h1]
    have e1 : (m.st != 1) = true := by simpa using h1
    clear h1
    go_enter Try.func26, Try.ntmps26
    go_wp2
    first | go_end0 | ((try simp only [Exit.inBlock, Exit.then]); refine bodyPost_ret (results_none rfl _ _ _) rfl ?_)
    exact ⟨rfl, HS.out, Kp.refl _ _ _⟩

set_option maxHeartbeats 2000000 in
/-- Machine.Stop. -/
theorem stop_any (h : Mm base w B m) (hlen : m.out.length ≤ 549755813888) :
    Calls Try.prog 29 #[.pointer (some ⟨B, 0, none⟩)] w fun e w' => e = .returned (.tuple #[]) ∧ Mm base w' B (stopM m) ∧ Kp base B w w' := by
  obtain ⟨va, vo, l, hS⟩ := h
  obtain ⟨c0, c1, c2, c3, c4, c5, c6, c7, c8, c9⟩ := hS.cells
  have hlt := hS.blk.lt
  have HOK := Lib.hid hS.ok.stop
  by_cases h1 : m.st = 3
  · have HY := Lib.hid (sent_any hS 0)
    have HG : Hid (∀ {w1 : World} {v : Value} (hv : Adr w1 w.heap.size v m.c.ads) (hb : Below w.heap.size w w1), Calls Try.prog 46 #[.pointer (some ⟨B, 0, none⟩), .slice (some ⟨w1.heap.size, 0, none⟩) 1 1] (w1.alloc (.cells #[.int .i64 1, .int .i64 m.c.id, .int .i64 0, .int .i64 m.c.ev, v] 58)) fun e w' => e = .returned (.tuple #[]) ∧ Mm base w' B { m with out := m.out ++ [saysV m.c 0] } ∧ Kp base B w w') := Lib.hid (fun hv hb => given_one hS hv hb 0 hlen)
    have HE : Hid (stopM m = { m with st := 1, wt := 0, out := m.out ++ [saysV m.c 0] }) := Lib.hid (by unfold stopM; rw [if_pos h1])
    rw [HE.out] at HOK ⊢
    rw [h1] at c6
    clear hlen hS c0 c1 c2 c3 c4 c5 c7 c8 c9 h1 HE
    go_enter Try.func29, Try.ntmps29
    go_wp2_with fail
    refine HY.out.mono ?_
    rintro e w1 ⟨v, rfl, hadr, hb1⟩
    obtain ⟨a', c', rfl, -, -⟩ := row_any hadr
    have HA := Lib.hid hadr
    have HB := Lib.hid hb1
    clear hadr hb1
    go_wp2_with fail
    refine (HG.out HA.out HB.out).mono ?_
    rintro e w2 ⟨rfl, ⟨va2, vo2, l2, h2⟩, hk2⟩
    obtain ⟨d0, d1, d2, d3, d4, d5, d6, d7, d8, d9⟩ := h2.cells
    have f6 := h2.blk.free 6
    have f8 := h2.blk.free 8
    have hlt2 := h2.blk.lt
    have HM : Hid (Mm base ((w2.setCell ⟨B, 6, none⟩ (.int .i64 1)).setCell ⟨B, 8, none⟩ (.int .i64 0)) B { m with st := 1, wt := 0, out := m.out ++ [saysV m.c 0] }) := Lib.hid (h2.stwt 1 0 HOK.out).mm
    have HK : Hid (Kp base B w ((w2.setCell ⟨B, 6, none⟩ (.int .i64 1)).setCell ⟨B, 8, none⟩ (.int .i64 0))) := Lib.hid ((hk2.setCell 6 _).setCell 8 _)
    clear h2 hk2 d0 d1 d2 d3 d4 d5 d7 d9
    go_wp2
    first | go_end0 | ((try simp only [Exit.inBlock, Exit.then]); refine bodyPost_ret (results_none rfl _ _ _) rfl ?_)
    exact ⟨rfl, HM.out, HK.out⟩
  · have HE : Hid (stopM m = { m with st := 1, wt := 0 }) := Lib.hid (by unfold stopM; rw [if_neg h1])
    rw [HE.out] at HOK ⊢
    have e1 : (m.st == 3) = false := beq_eq_false_iff_ne.2 h1
    have f6 := hS.blk.free 6
    have f8 := hS.blk.free 8
    have HM : Hid (Mm base ((w.setCell ⟨B, 6, none⟩ (.int .i64 1)).setCell ⟨B, 8, none⟩ (.int .i64 0)) B { m with st := 1, wt := 0 }) := Lib.hid (hS.stwt 1 0 HOK.out).mm
    have HK : Hid (Kp base B w ((w.setCell ⟨B, 6, none⟩ (.int .i64 1)).setCell ⟨B, 8, none⟩ (.int .i64 0))) := Lib.hid (((Kp.refl _ _ _).setCell 6 _).setCell 8 _)
    clear hlen hS c0 c1 c2 c3 c4 c5 c7 c9 h1 HE
    generalize m.st = st at *
    go_enter Try.func29, Try.ntmps29
    go_wp2
    first | go_end0 | ((try simp only [Exit.inBlock, Exit.then]); refine bodyPost_ret (results_none rfl _ _ _) rfl ?_)
    exact ⟨rfl, HM.out, HK.out⟩

set_option maxHeartbeats 2000000 in
/-- Machine.Tick. -/
theorem tick_any (h : Mm base w B m) (ht : OkT m) (hlen : m.out.length ≤ 549755813888) :
    Calls Try.prog 28 #[.pointer (some ⟨B, 0, none⟩)] w fun e w' => e = .returned (.tuple #[]) ∧ Mm base w' B (tickM m) ∧ Kp base B w w' := by
  obtain ⟨va, vo, l, hS⟩ := h
  obtain ⟨c0, c1, c2, c3, c4, c5, c6, c7, c8, c9⟩ := hS.cells
  have hlt := hS.blk.lt
  have hok := hS.ok
  have f8 := hS.blk.free 8
  unfold tickM
  by_cases h1 : m.st = 1
  · rw [if_pos h1]
    have HS := Lib.hid hS.mm
    rw [h1] at c6
    clear hlen hS c0 c1 c2 c3 c4 c5 c7 c8 c9 h1 hok
    go_enter Try.func28, Try.ntmps28
    go_wp2
    first | go_end0 | ((try simp only [Exit.inBlock, Exit.then]); refine bodyPost_ret (results_none rfl _ _ _) rfl ?_)
    exact ⟨rfl, HS.out, Kp.refl _ _ _⟩
  rw [if_neg h1]
  have e1 : (m.st == 1) = false := beq_eq_false_iff_ne.2 h1
  have hw := hok.wt
  have hw2 := ht.wt2 h1
  obtain ⟨k, hk⟩ : ∃ k, m.wt - 1 = k := ⟨_, rfl⟩
  have hkw : wrap64 (m.wt - 1) = k := by rw [hk]; unfold wrap64; omega
  have ho : Only (fun i => i = B) w (w.setCell ⟨B, 8, none⟩ (.int .i64 k)) := (Only.refl (fun i => i = B) w).setCell (p := ⟨B, 8, none⟩) (.inl rfl) _
  rw [hk]
  by_cases h0 : 0 < k
  · rw [if_pos h0]
    have HM : Hid (Mm base (w.setCell ⟨B, 8, none⟩ (.int .i64 k)) B { m with wt := k }) := Lib.hid (hS.wt k (hok.wait k (by omega))).mm
    have HK : Hid (Kp base B w (w.setCell ⟨B, 8, none⟩ (.int .i64 k))) := Lib.hid ((Kp.refl _ _ _).setCell 8 _)
    have e0 : decide (0 < k) = true := decide_eq_true h0
    have e0' : decide (k > 0) = true := decide_eq_true h0
    clear hlen hS c0 c1 c2 c3 c4 c5 c7 c9 h1 hok hw hw2 hk ho h0
    generalize m.st = st at *
    generalize m.wt = wt at c8 hkw
    go_enter Try.func28, Try.ntmps28
    go_wp2
    first | go_end0 | ((try simp only [Exit.inBlock, Exit.then]); refine bodyPost_ret (results_none rfl _ _ _) rfl ?_)
    exact ⟨rfl, HM.out, HK.out⟩
  rw [if_neg h0]
  have hk0 : k = 0 := by omega
  subst hk0
  have hM0 : Mm base (w.setCell ⟨B, 8, none⟩ (.int .i64 0)) B { m with wt := 0 } := (hS.wt 0 (hok.wait 0 (by omega))).mm
  have hK0 : Kp base B w (w.setCell ⟨B, 8, none⟩ (.int .i64 0)) := (Kp.refl _ _ _).setCell 8 _
  by_cases h2 : m.st = 2
  · rw [if_pos h2]
    have HC : Hid (Calls Try.prog 41 #[.pointer (some ⟨B, 0, none⟩)] (w.setCell ⟨B, 8, none⟩ (.int .i64 0)) fun e w' => e = .returned (.tuple #[]) ∧ Mm base w' B (leadM { m with wt := 0 }) ∧ Kp base B w w') :=
      Lib.hid ((master_any hM0 hlen).mono fun e w' ⟨h1, h3, h4⟩ => ⟨h1, h3, hK0.trans h4⟩)
    rw [h2] at c6
    clear hlen hS c0 c1 c2 c3 c4 c5 c7 c9 h1 hok hw hw2 hk ho h0 hM0 hK0 e1 h2 ht
    generalize m.wt = wt at c8 hkw
    go_enter Try.func28, Try.ntmps28
    go_wp2_with fail
    refine HC.out.mono ?_
    rintro e w1 ⟨rfl, hm⟩
    go_wp2
    first | go_end0 | ((try simp only [Exit.inBlock, Exit.then]); refine bodyPost_ret (results_none rfl _ _ _) rfl ?_)
    exact ⟨rfl, hm⟩
  · rw [if_neg h2]
    have HC : Hid (Calls Try.prog 45 #[.pointer (some ⟨B, 0, none⟩)] (w.setCell ⟨B, 8, none⟩ (.int .i64 0)) fun e w' => e = .returned (.tuple #[]) ∧ Mm base w' B (sayM { m with wt := 0 } m.c.pr) ∧ Kp base B w w') :=
      Lib.hid ((again_any hM0 ((hok.wait 0 (by omega)).say _) hlen).mono fun e w' ⟨h1, h3, h4⟩ => ⟨h1, h3, hK0.trans h4⟩)
    have e2 : (m.st == 2) = false := beq_eq_false_iff_ne.2 h2
    clear hlen hS c0 c1 c2 c3 c4 c5 c7 c9 h1 hok hw hw2 hk ho h0 hM0 hK0 h2 ht
    generalize m.wt = wt at c8 hkw
    generalize m.st = st at *
    go_enter Try.func28, Try.ntmps28
    go_wp2_with fail
    refine HC.out.mono ?_
    rintro e w1 ⟨rfl, hm⟩
    go_wp2
    first | go_end0 | ((try simp only [Exit.inBlock, Exit.then]); refine bodyPost_ret (results_none rfl _ _ _) rfl ?_)
    exact ⟨rfl, hm⟩

set_option maxHeartbeats 2000000 in
/-- Machine.Take. -/
theorem take_any (h : Mm base w B m) (f : ByteArray) (a : Av) (hlen : m.out.length ≤ 549755813888) :
    Calls Try.prog 27 #[.pointer (some ⟨B, 0, none⟩), .string f, .agg #[.int .i64 a.id, .int .i64 a.pr, .int .i64 a.ev, .slice A n c]] w fun e w' => e = .returned (.tuple #[]) ∧ Mm base w' B (takeM m f a) ∧ Kp base B w w' := by
  have hb0 : Below w.heap.size w (w.alloc (.cells #[.int .i64 a.id, .int .i64 a.pr, .int .i64 a.ev, .slice A n c] 55)) := below_alloc (Below.refl _ _) _
  have h0 := h.below hb0
  have hlt := h.lt
  obtain ⟨va, vo, l, hS⟩ := h0
  obtain ⟨c0, c1, c2, c3, c4, c5, c6, c7, c8, c9⟩ := hS.cells
  have hlt8 := hS.blk.lt
  have HM : ∀ q, Hid (Mm base ((w.alloc (.cells #[.int .i64 a.id, .int .i64 a.pr, .int .i64 a.ev, .slice A n c] 55)).drewN q) B m ∧ Kp base B w ((w.alloc (.cells #[.int .i64 a.id, .int .i64 a.pr, .int .i64 a.ev, .slice A n c] 55)).drewN q)) := fun q => Lib.hid ⟨hS.mm.drewN q, (Kp.of_below hb0).drewN q⟩
  unfold takeM
  by_cases hid : a.id = m.c.id
  · rw [if_pos hid]
    have e0 : (a.id != m.c.id) = false := by simpa using hid
    by_cases h2 : m.st = 2
    · rw [if_pos h2]
      have HC : ∀ q, Hid (Calls Try.prog 43 #[.pointer (some ⟨B, 0, none⟩), .agg #[.int .i64 a.id, .int .i64 a.pr, .int .i64 a.ev, .slice A n c]] ((w.alloc (.cells #[.int .i64 a.id, .int .i64 a.pr, .int .i64 a.ev, .slice A n c] 55)).drewN q) fun e w' => e = .returned (.tuple #[]) ∧ Mm base w' B (hearM m a) ∧ Kp base B w w') := fun q =>
        Lib.hid ((hear_any (HM q).out.1 h2 a).mono fun e w' ⟨h1, h3, h4⟩ => ⟨h1, h3, (HM q).out.2.trans h4⟩)
      rw [h2] at c6
      clear h hS hb0 c1 c2 c3 c4 c5 c7 c8 c9 h2 HM hid hlen
      generalize m.c.id = mid at *
      generalize a.id = ai at *
      generalize a.pr = ap at *
      generalize a.ev = ae at *
      go_enter Try.func27, Try.ntmps27
      go_wp2
      go_quiet (fail)
      go_wp2_with fail
      refine (HC _).out.mono ?_
      rintro e w1 ⟨rfl, hm⟩
      go_wp2
      first | go_end0 | ((try simp only [Exit.inBlock, Exit.then]); refine bodyPost_ret (results_none rfl _ _ _) rfl ?_)
      exact ⟨rfl, hm⟩
    · rw [if_neg h2]
      have e2 : (m.st == 2) = false := beq_eq_false_iff_ne.2 h2
      by_cases h3 : m.st = 3
      · rw [if_pos h3]
        have HC : ∀ q, Hid (Calls Try.prog 44 #[.pointer (some ⟨B, 0, none⟩), .string f, .agg #[.int .i64 a.id, .int .i64 a.pr, .int .i64 a.ev, .slice A n c]] ((w.alloc (.cells #[.int .i64 a.id, .int .i64 a.pr, .int .i64 a.ev, .slice A n c] 55)).drewN q) fun e w' => e = .returned (.tuple #[]) ∧ Mm base w' B (meetM m f a) ∧ Kp base B w w') := fun q =>
          Lib.hid ((meet_any (HM q).out.1 h3 f a hlen).mono fun e w' ⟨h1, h3, h4⟩ => ⟨h1, h3, (HM q).out.2.trans h4⟩)
        rw [h3] at c6
        clear h hS hb0 c1 c2 c3 c4 c5 c7 c8 c9 h2 h3 HM hid hlen e2
        generalize m.c.id = mid at *
        generalize a.id = ai at *
        generalize a.pr = ap at *
        generalize a.ev = ae at *
        go_enter Try.func27, Try.ntmps27
        go_wp2
        go_quiet (fail)
        go_wp2_with fail
        refine (HC _).out.mono ?_
        rintro e w1 ⟨rfl, hm⟩
        go_wp2
        first | go_end0 | ((try simp only [Exit.inBlock, Exit.then]); refine bodyPost_ret (results_none rfl _ _ _) rfl ?_)
        exact ⟨rfl, hm⟩
      · rw [if_neg h3]
        have e3 : (m.st == 3) = false := beq_eq_false_iff_ne.2 h3
        clear h hS hb0 c1 c2 c3 c4 c5 c7 c8 c9 h2 h3 hid hlen
        generalize m.c.id = mid at *
        generalize m.st = st at *
        generalize a.id = ai at *
        generalize a.pr = ap at *
        generalize a.ev = ae at *
        go_enter Try.func27, Try.ntmps27
        go_wp2
        go_quiet (fail)
        go_wp2
        first | go_end0 | ((try simp only [Exit.inBlock, Exit.then]); refine bodyPost_ret (results_none rfl _ _ _) rfl ?_)
        exact ⟨rfl, (HM _).out⟩
  · rw [if_neg hid]
    have e0 : (a.id != m.c.id) = true := by simpa using hid
    clear h hS hb0 c1 c2 c3 c4 c5 c6 c7 c8 c9 hid hlen
    generalize m.c.id = mid at *
    generalize a.id = ai at *
    generalize a.pr = ap at *
    generalize a.ev = ae at *
    go_enter Try.func27, Try.ntmps27
    go_wp2
    go_quiet (fail)
    go_wp2
    first | go_end0 | ((try simp only [Exit.inBlock, Exit.then]); refine bodyPost_ret (results_none rfl _ _ _) rfl ?_)
    exact ⟨rfl, (HM _).out⟩
end
end Go.Proofs.Ytpcdaidgijkkbaa
