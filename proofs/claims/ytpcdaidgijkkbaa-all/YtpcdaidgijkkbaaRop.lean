/-
  The reference: Start, Stop, Tick.
-/
import Derived.Test.YtpcdaidgijkkbaaRstep
namespace Go.Proofs.Ytpcdaidgijkkbaa
open Go.RowKit Go.Maps
set_option linter.unusedVariables false
set_option linter.unusedSimpArgs false
set_option maxRecDepth 40000
attribute [local go_sem ↓] bigS34
attribute [local go_sem ↓] bigS78

set_option maxHeartbeats 4000000 in
/-- The reference's Start. -/
theorem rstart_any {b : Nat} {A : Option Addr} {n c : Nat} {w : World} {m : Mc} {vo : Value} (hrow : Rw b w vo A n c m.out) (hb : b ≤ w.heap.size) (hlen : m.out.length ≤ 274877906944) :
    Calls Try.prog 35 #[.agg #[.int .i64 m.c.id, .int .i64 m.c.pr, .int .i64 m.c.ev, .bool m.c.pre, .string m.c.fr, .slice A n c, .int .i64 m.st, .int .i64 m.pace, .int .i64 m.wt, vo]] w fun e w' => ∃ vo', e = .returned (.agg #[.int .i64 (startM m).c.id, .int .i64 (startM m).c.pr, .int .i64 (startM m).c.ev, .bool (startM m).c.pre, .string (startM m).c.fr, .slice A n c, .int .i64 (startM m).st, .int .i64 (startM m).pace, .int .i64 (startM m).wt, vo']) ∧ Rw b w' vo' A n c (startM m).out ∧ Below w.heap.size w w' := by
  obtain ⟨A2, n2, c2, rfl⟩ := hrow.letters
  unfold startM
  by_cases h1 : m.st = 1
  · rw [if_pos h1]
    have e1 : (m.st != 1) = false := by simpa using h1
    by_cases h2 : m.c.pr = 255
    · rw [if_pos h2]
      have e2 : (m.c.pr == 255) = true := beq_iff_eq.2 h2
      clear h1 h2
      generalize hX : ((w.alloc (.cells #[.int .i64 m.c.id, .int .i64 m.c.pr, .int .i64 m.c.ev, .bool m.c.pre, .string m.c.fr, .slice A n c, .int .i64 m.st, .int .i64 m.pace, .int .i64 m.wt, .slice A2 n2 c2] 34)).alloc (.cells #[.int .i64 0, .int .i64 0, .int .i64 0, .bool false, .string ⟨#[]⟩, .slice none 0 0, .int .i64 0, .int .i64 0, .int .i64 0, .slice none 0 0] 34)) = X
      have hXs : X.heap.size = w.heap.size + 1 + 1 := by rw [← hX]; simp
      have hbX : Below w.heap.size w X := by rw [← hX]; exact below_alloc (below_alloc (Below.refl _ _) _) _
      have hc0 : Cb X (w.heap.size) 34 [.int .i64 m.c.id, .int .i64 m.c.pr, .int .i64 m.c.ev, .bool m.c.pre, .string m.c.fr, .slice A n c, .int .i64 m.st, .int .i64 m.pace, .int .i64 m.wt, .slice A2 n2 c2] := by
        have h1 := Cb.new w [.int .i64 m.c.id, .int .i64 m.c.pr, .int .i64 m.c.ev, .bool m.c.pre, .string m.c.fr, .slice A n c, .int .i64 m.st, .int .i64 m.pace, .int .i64 m.wt, .slice A2 n2 c2] 34
        rw [show w.heap.size = w.heap.size by simp] at h1
        rw [← hX]; exact (h1.alloc _)
      have hc1 : Cb X (w.heap.size + 1) 34 [.int .i64 0, .int .i64 0, .int .i64 0, .bool false, .string ⟨#[]⟩, .slice none 0 0, .int .i64 0, .int .i64 0, .int .i64 0, .slice none 0 0] := by
        have h1 := Cb.new (w.alloc (.cells #[.int .i64 m.c.id, .int .i64 m.c.pr, .int .i64 m.c.ev, .bool m.c.pre, .string m.c.fr, .slice A n c, .int .i64 m.st, .int .i64 m.pace, .int .i64 m.wt, .slice A2 n2 c2] 34)) [.int .i64 0, .int .i64 0, .int .i64 0, .bool false, .string ⟨#[]⟩, .slice none 0 0, .int .i64 0, .int .i64 0, .int .i64 0, .slice none 0 0] 34
        rw [show (w.alloc (.cells #[.int .i64 m.c.id, .int .i64 m.c.pr, .int .i64 m.c.ev, .bool m.c.pre, .string m.c.fr, .slice A n c, .int .i64 m.st, .int .i64 m.pace, .int .i64 m.wt, .slice A2 n2 c2] 34)).heap.size = w.heap.size + 1 by simp] at h1
        rw [← hX]; exact h1
      have HROW := Lib.hid (hrow.below hbX)
      have HBX := Lib.hid hbX
      have HC0 := Lib.hid hc0
      have HC1 := Lib.hid hc1
      have HBB : Hid (b ≤ w.heap.size) := Lib.hid hb
      have HLE := Lib.hid hlen
      have HXS := Lib.hid hXs
      subst hX
      clear hbX hrow hb hlen hXs hc0 hc1
      have HY := Lib.hid (rlead_any HROW.out (Nat.le_trans HBB.out HBX.out.size) HLE.out)
      clear HROW
      go_enter Try.func35, Try.ntmps35
      go_wp2_with fail
      refine HY.out.mono ?_
      rintro e w5 ⟨vo5, rfl, hr5, hb5⟩
      obtain ⟨a5, k5, c5, rfl⟩ := hr5.letters
      have HT5 := Lib.hid (HC1.out.below hb5)
      have HB5 := Lib.hid (below_then HBX.out HBX.out.size hb5)
      have HR5 := Lib.hid hr5
      clear hr5 hb5 HBX HY
      obtain ⟨wz, hstz, hcbz, hoz⟩ := store34 HT5.out rfl (leadM m).c.id (leadM m).c.pr (leadM m).c.ev (leadM m).c.pre (leadM m).c.fr (.slice A n c) (leadM m).st (leadM m).pace (leadM m).wt (.slice a5 k5 c5) rfl rfl
      have HRZ := Lib.hid (HR5.out.put hoz HT5.out)
      have HBZ := Lib.hid (only_below HB5.out hoz (by omega))
      obtain ⟨g0, g1, g2, g3, g4, g5, g6, g7, g8, g9⟩ := hcbz.ten
      clear hcbz hoz 
      go_wp2
      refine bodyPost_ret (v := .agg #[.int .i64 (leadM m).c.id, .int .i64 (leadM m).c.pr, .int .i64 (leadM m).c.ev, .bool (leadM m).c.pre, .string (leadM m).c.fr, .slice A n c, .int .i64 (leadM m).st, .int .i64 (leadM m).pace, .int .i64 (leadM m).wt, (.slice a5 k5 c5)]) (by simp [results, Try.results35, go_sem, g0, g1, g2, g3, g4, g5, g6, g7, g8, g9]) rfl ⟨_, rfl, HRZ.out, HBZ.out⟩
    · rw [if_neg h2]
      have e2 : (m.c.pr == 255) = false := beq_eq_false_iff_ne.2 h2
      clear h1 h2
      generalize hX : ((w.alloc (.cells #[.int .i64 m.c.id, .int .i64 m.c.pr, .int .i64 m.c.ev, .bool m.c.pre, .string m.c.fr, .slice A n c, .int .i64 m.st, .int .i64 m.pace, .int .i64 m.wt, .slice A2 n2 c2] 34)).alloc (.cells #[.int .i64 0, .int .i64 0, .int .i64 0, .bool false, .string ⟨#[]⟩, .slice none 0 0, .int .i64 0, .int .i64 0, .int .i64 0, .slice none 0 0] 34)) = X
      have hXs : X.heap.size = w.heap.size + 1 + 1 := by rw [← hX]; simp
      have hbX : Below w.heap.size w X := by rw [← hX]; exact below_alloc (below_alloc (Below.refl _ _) _) _
      have hc0 : Cb X (w.heap.size) 34 [.int .i64 m.c.id, .int .i64 m.c.pr, .int .i64 m.c.ev, .bool m.c.pre, .string m.c.fr, .slice A n c, .int .i64 m.st, .int .i64 m.pace, .int .i64 m.wt, .slice A2 n2 c2] := by
        have h1 := Cb.new w [.int .i64 m.c.id, .int .i64 m.c.pr, .int .i64 m.c.ev, .bool m.c.pre, .string m.c.fr, .slice A n c, .int .i64 m.st, .int .i64 m.pace, .int .i64 m.wt, .slice A2 n2 c2] 34
        rw [show w.heap.size = w.heap.size by simp] at h1
        rw [← hX]; exact (h1.alloc _)
      have hc1 : Cb X (w.heap.size + 1) 34 [.int .i64 0, .int .i64 0, .int .i64 0, .bool false, .string ⟨#[]⟩, .slice none 0 0, .int .i64 0, .int .i64 0, .int .i64 0, .slice none 0 0] := by
        have h1 := Cb.new (w.alloc (.cells #[.int .i64 m.c.id, .int .i64 m.c.pr, .int .i64 m.c.ev, .bool m.c.pre, .string m.c.fr, .slice A n c, .int .i64 m.st, .int .i64 m.pace, .int .i64 m.wt, .slice A2 n2 c2] 34)) [.int .i64 0, .int .i64 0, .int .i64 0, .bool false, .string ⟨#[]⟩, .slice none 0 0, .int .i64 0, .int .i64 0, .int .i64 0, .slice none 0 0] 34
        rw [show (w.alloc (.cells #[.int .i64 m.c.id, .int .i64 m.c.pr, .int .i64 m.c.ev, .bool m.c.pre, .string m.c.fr, .slice A n c, .int .i64 m.st, .int .i64 m.pace, .int .i64 m.wt, .slice A2 n2 c2] 34)).heap.size = w.heap.size + 1 by simp] at h1
        rw [← hX]; exact h1
      have HROW := Lib.hid (hrow.below hbX)
      have HBX := Lib.hid hbX
      have HC0 := Lib.hid hc0
      have HC1 := Lib.hid hc1
      have HBB : Hid (b ≤ w.heap.size) := Lib.hid hb
      have HLE := Lib.hid hlen
      have HXS := Lib.hid hXs
      subst hX
      clear hbX hrow hb hlen hXs hc0 hc1
      have HY := Lib.hid (rfollow_any HROW.out (Nat.le_trans HBB.out HBX.out.size) HLE.out m.c.ev)
      clear HROW
      go_enter Try.func35, Try.ntmps35
      go_wp2_with fail
      refine HY.out.mono ?_
      rintro e w5 ⟨vo5, rfl, hr5, hb5⟩
      obtain ⟨a5, k5, c5, rfl⟩ := hr5.letters
      have HT5 := Lib.hid (HC1.out.below hb5)
      have HB5 := Lib.hid (below_then HBX.out HBX.out.size hb5)
      have HR5 := Lib.hid hr5
      clear hr5 hb5 HBX HY
      obtain ⟨wz, hstz, hcbz, hoz⟩ := store34 HT5.out rfl (followM m m.c.ev).c.id (followM m m.c.ev).c.pr (followM m m.c.ev).c.ev (followM m m.c.ev).c.pre (followM m m.c.ev).c.fr (.slice A n c) (followM m m.c.ev).st (followM m m.c.ev).pace (followM m m.c.ev).wt (.slice a5 k5 c5) rfl rfl
      have HRZ := Lib.hid (HR5.out.put hoz HT5.out)
      have HBZ := Lib.hid (only_below HB5.out hoz (by omega))
      obtain ⟨g0, g1, g2, g3, g4, g5, g6, g7, g8, g9⟩ := hcbz.ten
      clear hcbz hoz 
      go_wp2
      refine bodyPost_ret (v := .agg #[.int .i64 (followM m m.c.ev).c.id, .int .i64 (followM m m.c.ev).c.pr, .int .i64 (followM m m.c.ev).c.ev, .bool (followM m m.c.ev).c.pre, .string (followM m m.c.ev).c.fr, .slice A n c, .int .i64 (followM m m.c.ev).st, .int .i64 (followM m m.c.ev).pace, .int .i64 (followM m m.c.ev).wt, (.slice a5 k5 c5)]) (by simp [results, Try.results35, go_sem, g0, g1, g2, g3, g4, g5, g6, g7, g8, g9]) rfl ⟨_, rfl, HRZ.out, HBZ.out⟩
  · rw [if_neg h1]
    have e1 : (m.st != 1) = true := by simpa using h1
    clear h1
    generalize hX : ((w.alloc (.cells #[.int .i64 m.c.id, .int .i64 m.c.pr, .int .i64 m.c.ev, .bool m.c.pre, .string m.c.fr, .slice A n c, .int .i64 m.st, .int .i64 m.pace, .int .i64 m.wt, .slice A2 n2 c2] 34)).alloc (.cells #[.int .i64 0, .int .i64 0, .int .i64 0, .bool false, .string ⟨#[]⟩, .slice none 0 0, .int .i64 0, .int .i64 0, .int .i64 0, .slice none 0 0] 34)) = X
    have hXs : X.heap.size = w.heap.size + 1 + 1 := by rw [← hX]; simp
    have hbX : Below w.heap.size w X := by rw [← hX]; exact below_alloc (below_alloc (Below.refl _ _) _) _
    have hc0 : Cb X (w.heap.size) 34 [.int .i64 m.c.id, .int .i64 m.c.pr, .int .i64 m.c.ev, .bool m.c.pre, .string m.c.fr, .slice A n c, .int .i64 m.st, .int .i64 m.pace, .int .i64 m.wt, .slice A2 n2 c2] := by
      have h1 := Cb.new w [.int .i64 m.c.id, .int .i64 m.c.pr, .int .i64 m.c.ev, .bool m.c.pre, .string m.c.fr, .slice A n c, .int .i64 m.st, .int .i64 m.pace, .int .i64 m.wt, .slice A2 n2 c2] 34
      rw [show w.heap.size = w.heap.size by simp] at h1
      rw [← hX]; exact (h1.alloc _)
    have hc1 : Cb X (w.heap.size + 1) 34 [.int .i64 0, .int .i64 0, .int .i64 0, .bool false, .string ⟨#[]⟩, .slice none 0 0, .int .i64 0, .int .i64 0, .int .i64 0, .slice none 0 0] := by
      have h1 := Cb.new (w.alloc (.cells #[.int .i64 m.c.id, .int .i64 m.c.pr, .int .i64 m.c.ev, .bool m.c.pre, .string m.c.fr, .slice A n c, .int .i64 m.st, .int .i64 m.pace, .int .i64 m.wt, .slice A2 n2 c2] 34)) [.int .i64 0, .int .i64 0, .int .i64 0, .bool false, .string ⟨#[]⟩, .slice none 0 0, .int .i64 0, .int .i64 0, .int .i64 0, .slice none 0 0] 34
      rw [show (w.alloc (.cells #[.int .i64 m.c.id, .int .i64 m.c.pr, .int .i64 m.c.ev, .bool m.c.pre, .string m.c.fr, .slice A n c, .int .i64 m.st, .int .i64 m.pace, .int .i64 m.wt, .slice A2 n2 c2] 34)).heap.size = w.heap.size + 1 by simp] at h1
      rw [← hX]; exact h1
    have HROW := Lib.hid (hrow.below hbX)
    have HBX := Lib.hid hbX
    have HC0 := Lib.hid hc0
    have HC1 := Lib.hid hc1
    have HBB : Hid (b ≤ w.heap.size) := Lib.hid hb
    have HLE := Lib.hid hlen
    have HXS := Lib.hid hXs
    subst hX
    clear hbX hrow hb hlen hXs hc0 hc1
    obtain ⟨wz, hstz, hcbz, hoz⟩ := store34 HC1.out rfl m.c.id m.c.pr m.c.ev m.c.pre m.c.fr (.slice A n c) m.st m.pace m.wt (.slice A2 n2 c2) rfl rfl
    have HRZ := Lib.hid (HROW.out.put hoz HC1.out)
    have HBZ := Lib.hid (only_below HBX.out hoz (by omega))
    obtain ⟨g0, g1, g2, g3, g4, g5, g6, g7, g8, g9⟩ := hcbz.ten
    obtain ⟨y0, y1, y2, y3, y4, y5, y6, y7, y8, y9⟩ := HC0.out.ten
    clear hcbz hoz HC0 HC1 HBX HROW
    go_enter Try.func35, Try.ntmps35
    go_wp2
    refine bodyPost_ret (v := .agg #[.int .i64 m.c.id, .int .i64 m.c.pr, .int .i64 m.c.ev, .bool m.c.pre, .string m.c.fr, .slice A n c, .int .i64 m.st, .int .i64 m.pace, .int .i64 m.wt, .slice A2 n2 c2]) (by simp [results, Try.results35, go_sem, g0, g1, g2, g3, g4, g5, g6, g7, g8, g9]) rfl ⟨_, rfl, HRZ.out, HBZ.out⟩

set_option maxHeartbeats 4000000 in
/-- The reference's Stop. -/
theorem rstop_any {b : Nat} {A : Option Addr} {n c : Nat} {w : World} {m : Mc} {vo : Value} (hrow : Rw b w vo A n c m.out) (hb : b ≤ w.heap.size) (hlen : m.out.length ≤ 274877906944) :
    Calls Try.prog 36 #[.agg #[.int .i64 m.c.id, .int .i64 m.c.pr, .int .i64 m.c.ev, .bool m.c.pre, .string m.c.fr, .slice A n c, .int .i64 m.st, .int .i64 m.pace, .int .i64 m.wt, vo]] w fun e w' => ∃ vo', e = .returned (.agg #[.int .i64 (stopM m).c.id, .int .i64 (stopM m).c.pr, .int .i64 (stopM m).c.ev, .bool (stopM m).c.pre, .string (stopM m).c.fr, .slice A n c, .int .i64 (stopM m).st, .int .i64 (stopM m).pace, .int .i64 (stopM m).wt, vo']) ∧ Rw b w' vo' A n c (stopM m).out ∧ Below w.heap.size w w' := by
  obtain ⟨A2, n2, c2, rfl⟩ := hrow.letters
  by_cases h1 : m.st = 3
  · have e1 : (m.st == 3) = true := beq_iff_eq.2 h1
    have HE : Hid (stopM m = { sayM m 0 with st := 1, wt := 0 }) := Lib.hid (by unfold stopM; rw [if_pos h1]; rfl)
    rw [HE.out]
    clear h1
    generalize hX : ((w.alloc (.cells #[.int .i64 m.c.id, .int .i64 m.c.pr, .int .i64 m.c.ev, .bool m.c.pre, .string m.c.fr, .slice A n c, .int .i64 m.st, .int .i64 m.pace, .int .i64 m.wt, .slice A2 n2 c2] 34)).alloc (.cells #[.int .i64 0, .int .i64 0, .int .i64 0, .bool false, .string ⟨#[]⟩, .slice none 0 0, .int .i64 0, .int .i64 0, .int .i64 0, .slice none 0 0] 34)) = X
    have hXs : X.heap.size = w.heap.size + 1 + 1 := by rw [← hX]; simp
    have hbX : Below w.heap.size w X := by rw [← hX]; exact below_alloc (below_alloc (Below.refl _ _) _) _
    have hc0 : Cb X (w.heap.size) 34 [.int .i64 m.c.id, .int .i64 m.c.pr, .int .i64 m.c.ev, .bool m.c.pre, .string m.c.fr, .slice A n c, .int .i64 m.st, .int .i64 m.pace, .int .i64 m.wt, .slice A2 n2 c2] := by
      have h1 := Cb.new w [.int .i64 m.c.id, .int .i64 m.c.pr, .int .i64 m.c.ev, .bool m.c.pre, .string m.c.fr, .slice A n c, .int .i64 m.st, .int .i64 m.pace, .int .i64 m.wt, .slice A2 n2 c2] 34
      rw [show w.heap.size = w.heap.size by simp] at h1
      rw [← hX]; exact (h1.alloc _)
    have hc1 : Cb X (w.heap.size + 1) 34 [.int .i64 0, .int .i64 0, .int .i64 0, .bool false, .string ⟨#[]⟩, .slice none 0 0, .int .i64 0, .int .i64 0, .int .i64 0, .slice none 0 0] := by
      have h1 := Cb.new (w.alloc (.cells #[.int .i64 m.c.id, .int .i64 m.c.pr, .int .i64 m.c.ev, .bool m.c.pre, .string m.c.fr, .slice A n c, .int .i64 m.st, .int .i64 m.pace, .int .i64 m.wt, .slice A2 n2 c2] 34)) [.int .i64 0, .int .i64 0, .int .i64 0, .bool false, .string ⟨#[]⟩, .slice none 0 0, .int .i64 0, .int .i64 0, .int .i64 0, .slice none 0 0] 34
      rw [show (w.alloc (.cells #[.int .i64 m.c.id, .int .i64 m.c.pr, .int .i64 m.c.ev, .bool m.c.pre, .string m.c.fr, .slice A n c, .int .i64 m.st, .int .i64 m.pace, .int .i64 m.wt, .slice A2 n2 c2] 34)).heap.size = w.heap.size + 1 by simp] at h1
      rw [← hX]; exact h1
    have HROW := Lib.hid (hrow.below hbX)
    have HBX := Lib.hid hbX
    have HC0 := Lib.hid hc0
    have HC1 := Lib.hid hc1
    have HBB : Hid (b ≤ w.heap.size) := Lib.hid hb
    have HLE := Lib.hid hlen
    have HXS := Lib.hid hXs
    subst hX
    clear hbX hrow hb hlen hXs hc0 hc1
    have HY := Lib.hid (rsay_any HROW.out (Nat.le_trans HBB.out HBX.out.size) (by have := HLE.out; omega) 0)
    clear HROW
    go_enter Try.func36, Try.ntmps36
    go_wp2_with fail
    refine HY.out.mono ?_
    rintro e w5 ⟨vo5, rfl, hr5, hb5⟩
    obtain ⟨a5, k5, c5, rfl⟩ := hr5.letters
    have hc5 := HC0.out.below hb5
    have ht5 := HC1.out.below hb5
    have hB5 := below_then HBX.out HBX.out.size hb5
    obtain ⟨w6, hst6, hcb6, ho6⟩ := store34 hc5 rfl (sayM m 0).c.id (sayM m 0).c.pr (sayM m 0).c.ev (sayM m 0).c.pre (sayM m 0).c.fr (.slice A n c) (sayM m 0).st (sayM m 0).pace (sayM m 0).wt (.slice a5 k5 c5) rfl rfl
    have ht6 := ht5.only ho6 (by omega)
    have hB6 := only_below hB5 ho6 (Nat.le_refl _)
    have hr6 := hr5.put ho6 hc5
    have HC8 : Hid (Cb ((w6.setCell ⟨w.heap.size, 6, none⟩ (.int .i64 1)).setCell ⟨w.heap.size, 8, none⟩ (.int .i64 0)) w.heap.size 34 [.int .i64 (sayM m 0).c.id, .int .i64 (sayM m 0).c.pr, .int .i64 (sayM m 0).c.ev, .bool (sayM m 0).c.pre, .string (sayM m 0).c.fr, .slice A n c, .int .i64 1, .int .i64 (sayM m 0).pace, .int .i64 0, .slice a5 k5 c5]) := Lib.hid ((hcb6.setAt 6 _).setAt 8 _)
    have hO8 : Only (· = w.heap.size) w6 ((w6.setCell ⟨w.heap.size, 6, none⟩ (.int .i64 1)).setCell ⟨w.heap.size, 8, none⟩ (.int .i64 0)) := ((Only.refl (· = w.heap.size) w6).setCell (p := ⟨w.heap.size, 6, none⟩) (.inl rfl) _).setCell (p := ⟨w.heap.size, 8, none⟩) (.inl rfl) _
    have HT8 := Lib.hid (ht6.only hO8 (by omega))
    have HB8 := Lib.hid (only_below hB6 hO8 (Nat.le_refl _))
    have HR8 := Lib.hid (hr6.put hO8 hcb6)
    obtain ⟨y0, y1, y2, y3, y4, y5, y6, y7, y8, y9⟩ := hcb6.ten
    have hf6 := hcb6.free 6
    have hf8 := hcb6.free 8
    have hl6 := hcb6.lt
    clear hr5 hb5 HBX HY hc5 ht5 hB5 ho6 ht6 hB6 hr6 hcb6 hO8 HC0 HC1
    go_upto_region 5 with fail
    clear y0 y1 y2 y3 y4 y5 y6 y7 y8 y9 hf6 hf8 hl6 hst6
    generalize (w6.setCell ⟨w.heap.size, 6, none⟩ (.int .i64 1)).setCell ⟨w.heap.size, 8, none⟩ (.int .i64 0) = w8 at *
    obtain ⟨y0, y1, y2, y3, y4, y5, y6, y7, y8, y9⟩ := HC8.out.ten
    obtain ⟨wz, hstz, hcbz, hoz⟩ := store34 HT8.out rfl (sayM m 0).c.id (sayM m 0).c.pr (sayM m 0).c.ev (sayM m 0).c.pre (sayM m 0).c.fr (.slice A n c) 1 (sayM m 0).pace 0 (.slice a5 k5 c5) rfl rfl
    have HRZ := Lib.hid (HR8.out.put hoz HT8.out)
    have HBZ := Lib.hid (only_below HB8.out hoz (by omega))
    obtain ⟨g0, g1, g2, g3, g4, g5, g6, g7, g8, g9⟩ := hcbz.ten
    clear hcbz hoz
    go_wp2
    refine bodyPost_ret (v := .agg #[.int .i64 (sayM m 0).c.id, .int .i64 (sayM m 0).c.pr, .int .i64 (sayM m 0).c.ev, .bool (sayM m 0).c.pre, .string (sayM m 0).c.fr, .slice A n c, .int .i64 1, .int .i64 (sayM m 0).pace, .int .i64 0, .slice a5 k5 c5]) (by simp [results, Try.results36, go_sem, g0, g1, g2, g3, g4, g5, g6, g7, g8, g9]) rfl ⟨_, rfl, HRZ.out, HBZ.out⟩
  · have e1 : (m.st == 3) = false := beq_eq_false_iff_ne.2 h1
    have HE : Hid (stopM m = { m with st := 1, wt := 0 }) := Lib.hid (by unfold stopM; rw [if_neg h1])
    rw [HE.out]
    clear h1
    generalize hX : ((w.alloc (.cells #[.int .i64 m.c.id, .int .i64 m.c.pr, .int .i64 m.c.ev, .bool m.c.pre, .string m.c.fr, .slice A n c, .int .i64 1, .int .i64 m.pace, .int .i64 0, .slice A2 n2 c2] 34)).alloc (.cells #[.int .i64 0, .int .i64 0, .int .i64 0, .bool false, .string ⟨#[]⟩, .slice none 0 0, .int .i64 0, .int .i64 0, .int .i64 0, .slice none 0 0] 34)) = X
    have hXs : X.heap.size = w.heap.size + 1 + 1 := by rw [← hX]; simp
    have hbX : Below w.heap.size w X := by rw [← hX]; exact below_alloc (below_alloc (Below.refl _ _) _) _
    have hc0 : Cb X (w.heap.size) 34 [.int .i64 m.c.id, .int .i64 m.c.pr, .int .i64 m.c.ev, .bool m.c.pre, .string m.c.fr, .slice A n c, .int .i64 1, .int .i64 m.pace, .int .i64 0, .slice A2 n2 c2] := by
      have h1 := Cb.new w [.int .i64 m.c.id, .int .i64 m.c.pr, .int .i64 m.c.ev, .bool m.c.pre, .string m.c.fr, .slice A n c, .int .i64 1, .int .i64 m.pace, .int .i64 0, .slice A2 n2 c2] 34
      rw [show w.heap.size = w.heap.size by simp] at h1
      rw [← hX]; exact (h1.alloc _)
    have hc1 : Cb X (w.heap.size + 1) 34 [.int .i64 0, .int .i64 0, .int .i64 0, .bool false, .string ⟨#[]⟩, .slice none 0 0, .int .i64 0, .int .i64 0, .int .i64 0, .slice none 0 0] := by
      have h1 := Cb.new (w.alloc (.cells #[.int .i64 m.c.id, .int .i64 m.c.pr, .int .i64 m.c.ev, .bool m.c.pre, .string m.c.fr, .slice A n c, .int .i64 1, .int .i64 m.pace, .int .i64 0, .slice A2 n2 c2] 34)) [.int .i64 0, .int .i64 0, .int .i64 0, .bool false, .string ⟨#[]⟩, .slice none 0 0, .int .i64 0, .int .i64 0, .int .i64 0, .slice none 0 0] 34
      rw [show (w.alloc (.cells #[.int .i64 m.c.id, .int .i64 m.c.pr, .int .i64 m.c.ev, .bool m.c.pre, .string m.c.fr, .slice A n c, .int .i64 1, .int .i64 m.pace, .int .i64 0, .slice A2 n2 c2] 34)).heap.size = w.heap.size + 1 by simp] at h1
      rw [← hX]; exact h1
    have HROW := Lib.hid (hrow.below hbX)
    have HBX := Lib.hid hbX
    have HC0 := Lib.hid hc0
    have HC1 := Lib.hid hc1
    have HBB : Hid (b ≤ w.heap.size) := Lib.hid hb
    have HLE := Lib.hid hlen
    have HXS := Lib.hid hXs
    subst hX
    clear hbX hrow hb hlen hXs hc0 hc1
    obtain ⟨wz, hstz, hcbz, hoz⟩ := store34 HC1.out rfl m.c.id m.c.pr m.c.ev m.c.pre m.c.fr (.slice A n c) 1 m.pace 0 (.slice A2 n2 c2) rfl rfl
    have HRZ := Lib.hid (HROW.out.put hoz HC1.out)
    have HBZ := Lib.hid (only_below HBX.out hoz (by omega))
    obtain ⟨g0, g1, g2, g3, g4, g5, g6, g7, g8, g9⟩ := hcbz.ten
    obtain ⟨y0, y1, y2, y3, y4, y5, y6, y7, y8, y9⟩ := HC0.out.ten
    clear hcbz hoz HC0 HC1 HBX HROW
    go_enter Try.func36, Try.ntmps36
    go_wp2
    refine bodyPost_ret (v := .agg #[.int .i64 m.c.id, .int .i64 m.c.pr, .int .i64 m.c.ev, .bool m.c.pre, .string m.c.fr, .slice A n c, .int .i64 1, .int .i64 m.pace, .int .i64 0, .slice A2 n2 c2]) (by simp [results, Try.results36, go_sem, g0, g1, g2, g3, g4, g5, g6, g7, g8, g9]) rfl ⟨_, rfl, HRZ.out, HBZ.out⟩

set_option maxHeartbeats 4000000 in
/-- The reference's Tick. -/
theorem rtick_any {b : Nat} {A : Option Addr} {n c : Nat} {w : World} {m : Mc} {vo : Value} (hrow : Rw b w vo A n c m.out) (hb : b ≤ w.heap.size) (hlen : m.out.length ≤ 274877906944) (hok : OkM m) :
    Calls Try.prog 37 #[.agg #[.int .i64 m.c.id, .int .i64 m.c.pr, .int .i64 m.c.ev, .bool m.c.pre, .string m.c.fr, .slice A n c, .int .i64 m.st, .int .i64 m.pace, .int .i64 m.wt, vo]] w fun e w' => ∃ vo', e = .returned (.agg #[.int .i64 (tickM m).c.id, .int .i64 (tickM m).c.pr, .int .i64 (tickM m).c.ev, .bool (tickM m).c.pre, .string (tickM m).c.fr, .slice A n c, .int .i64 (tickM m).st, .int .i64 (tickM m).pace, .int .i64 (tickM m).wt, vo']) ∧ Rw b w' vo' A n c (tickM m).out ∧ Below w.heap.size w w' := by
  obtain ⟨A2, n2, c2, rfl⟩ := hrow.letters
  unfold tickM
  by_cases h1 : m.st = 1
  · rw [if_pos h1]
    have e1 : (m.st == 1) = true := beq_iff_eq.2 h1
    clear h1 hok
    generalize hX : ((w.alloc (.cells #[.int .i64 m.c.id, .int .i64 m.c.pr, .int .i64 m.c.ev, .bool m.c.pre, .string m.c.fr, .slice A n c, .int .i64 m.st, .int .i64 m.pace, .int .i64 m.wt, .slice A2 n2 c2] 34)).alloc (.cells #[.int .i64 0, .int .i64 0, .int .i64 0, .bool false, .string ⟨#[]⟩, .slice none 0 0, .int .i64 0, .int .i64 0, .int .i64 0, .slice none 0 0] 34)) = X
    have hXs : X.heap.size = w.heap.size + 1 + 1 := by rw [← hX]; simp
    have hbX : Below w.heap.size w X := by rw [← hX]; exact below_alloc (below_alloc (Below.refl _ _) _) _
    have hc0 : Cb X (w.heap.size) 34 [.int .i64 m.c.id, .int .i64 m.c.pr, .int .i64 m.c.ev, .bool m.c.pre, .string m.c.fr, .slice A n c, .int .i64 m.st, .int .i64 m.pace, .int .i64 m.wt, .slice A2 n2 c2] := by
      have h1 := Cb.new w [.int .i64 m.c.id, .int .i64 m.c.pr, .int .i64 m.c.ev, .bool m.c.pre, .string m.c.fr, .slice A n c, .int .i64 m.st, .int .i64 m.pace, .int .i64 m.wt, .slice A2 n2 c2] 34
      rw [show w.heap.size = w.heap.size by simp] at h1
      rw [← hX]; exact (h1.alloc _)
    have hc1 : Cb X (w.heap.size + 1) 34 [.int .i64 0, .int .i64 0, .int .i64 0, .bool false, .string ⟨#[]⟩, .slice none 0 0, .int .i64 0, .int .i64 0, .int .i64 0, .slice none 0 0] := by
      have h1 := Cb.new (w.alloc (.cells #[.int .i64 m.c.id, .int .i64 m.c.pr, .int .i64 m.c.ev, .bool m.c.pre, .string m.c.fr, .slice A n c, .int .i64 m.st, .int .i64 m.pace, .int .i64 m.wt, .slice A2 n2 c2] 34)) [.int .i64 0, .int .i64 0, .int .i64 0, .bool false, .string ⟨#[]⟩, .slice none 0 0, .int .i64 0, .int .i64 0, .int .i64 0, .slice none 0 0] 34
      rw [show (w.alloc (.cells #[.int .i64 m.c.id, .int .i64 m.c.pr, .int .i64 m.c.ev, .bool m.c.pre, .string m.c.fr, .slice A n c, .int .i64 m.st, .int .i64 m.pace, .int .i64 m.wt, .slice A2 n2 c2] 34)).heap.size = w.heap.size + 1 by simp] at h1
      rw [← hX]; exact h1
    have HROW := Lib.hid (hrow.below hbX)
    have HBX := Lib.hid hbX
    have HC0 := Lib.hid hc0
    have HC1 := Lib.hid hc1
    have HBB : Hid (b ≤ w.heap.size) := Lib.hid hb
    have HLE := Lib.hid hlen
    have HXS := Lib.hid hXs
    subst hX
    clear hbX hrow hb hlen hXs hc0 hc1
    obtain ⟨wz, hstz, hcbz, hoz⟩ := store34 HC1.out rfl m.c.id m.c.pr m.c.ev m.c.pre m.c.fr (.slice A n c) m.st m.pace m.wt (.slice A2 n2 c2) rfl rfl
    have HRZ := Lib.hid (HROW.out.put hoz HC1.out)
    have HBZ := Lib.hid (only_below HBX.out hoz (by omega))
    obtain ⟨g0, g1, g2, g3, g4, g5, g6, g7, g8, g9⟩ := hcbz.ten
    obtain ⟨y0, y1, y2, y3, y4, y5, y6, y7, y8, y9⟩ := HC0.out.ten
    clear hcbz hoz HC0 HC1 HBX HROW
    go_enter Try.func37, Try.ntmps37
    go_wp2
    refine bodyPost_ret (v := .agg #[.int .i64 m.c.id, .int .i64 m.c.pr, .int .i64 m.c.ev, .bool m.c.pre, .string m.c.fr, .slice A n c, .int .i64 m.st, .int .i64 m.pace, .int .i64 m.wt, .slice A2 n2 c2]) (by simp [results, Try.results37, go_sem, g0, g1, g2, g3, g4, g5, g6, g7, g8, g9]) rfl ⟨_, rfl, HRZ.out, HBZ.out⟩
  · rw [if_neg h1]
    have e1 : (m.st == 1) = false := beq_eq_false_iff_ne.2 h1
    have hw : wrap64 (m.wt - 1) = m.wt - 1 := by have := hok.wt; unfold wrap64; omega
    by_cases h2 : 0 < m.wt - 1
    · rw [if_pos h2]
      have e2 : decide (m.wt - 1 > 0) = true := decide_eq_true h2
      have e2' : decide (0 < m.wt - 1) = true := decide_eq_true h2
      have e2b : decide (1 < m.wt) = true := decide_eq_true (by omega)
      clear h1 hok
      generalize hX : ((w.alloc (.cells #[.int .i64 m.c.id, .int .i64 m.c.pr, .int .i64 m.c.ev, .bool m.c.pre, .string m.c.fr, .slice A n c, .int .i64 m.st, .int .i64 m.pace, .int .i64 (m.wt - 1), .slice A2 n2 c2] 34)).alloc (.cells #[.int .i64 0, .int .i64 0, .int .i64 0, .bool false, .string ⟨#[]⟩, .slice none 0 0, .int .i64 0, .int .i64 0, .int .i64 0, .slice none 0 0] 34)) = X
      have hXs : X.heap.size = w.heap.size + 1 + 1 := by rw [← hX]; simp
      have hbX : Below w.heap.size w X := by rw [← hX]; exact below_alloc (below_alloc (Below.refl _ _) _) _
      have hc0 : Cb X (w.heap.size) 34 [.int .i64 m.c.id, .int .i64 m.c.pr, .int .i64 m.c.ev, .bool m.c.pre, .string m.c.fr, .slice A n c, .int .i64 m.st, .int .i64 m.pace, .int .i64 (m.wt - 1), .slice A2 n2 c2] := by
        have h1 := Cb.new w [.int .i64 m.c.id, .int .i64 m.c.pr, .int .i64 m.c.ev, .bool m.c.pre, .string m.c.fr, .slice A n c, .int .i64 m.st, .int .i64 m.pace, .int .i64 (m.wt - 1), .slice A2 n2 c2] 34
        rw [show w.heap.size = w.heap.size by simp] at h1
        rw [← hX]; exact (h1.alloc _)
      have hc1 : Cb X (w.heap.size + 1) 34 [.int .i64 0, .int .i64 0, .int .i64 0, .bool false, .string ⟨#[]⟩, .slice none 0 0, .int .i64 0, .int .i64 0, .int .i64 0, .slice none 0 0] := by
        have h1 := Cb.new (w.alloc (.cells #[.int .i64 m.c.id, .int .i64 m.c.pr, .int .i64 m.c.ev, .bool m.c.pre, .string m.c.fr, .slice A n c, .int .i64 m.st, .int .i64 m.pace, .int .i64 (m.wt - 1), .slice A2 n2 c2] 34)) [.int .i64 0, .int .i64 0, .int .i64 0, .bool false, .string ⟨#[]⟩, .slice none 0 0, .int .i64 0, .int .i64 0, .int .i64 0, .slice none 0 0] 34
        rw [show (w.alloc (.cells #[.int .i64 m.c.id, .int .i64 m.c.pr, .int .i64 m.c.ev, .bool m.c.pre, .string m.c.fr, .slice A n c, .int .i64 m.st, .int .i64 m.pace, .int .i64 (m.wt - 1), .slice A2 n2 c2] 34)).heap.size = w.heap.size + 1 by simp] at h1
        rw [← hX]; exact h1
      have HROW := Lib.hid (hrow.below hbX)
      have HBX := Lib.hid hbX
      have HC0 := Lib.hid hc0
      have HC1 := Lib.hid hc1
      have HBB : Hid (b ≤ w.heap.size) := Lib.hid hb
      have HLE := Lib.hid hlen
      have HXS := Lib.hid hXs
      subst hX
      clear hbX hrow hb hlen hXs hc0 hc1
      obtain ⟨wz, hstz, hcbz, hoz⟩ := store34 HC1.out rfl m.c.id m.c.pr m.c.ev m.c.pre m.c.fr (.slice A n c) m.st m.pace (m.wt - 1) (.slice A2 n2 c2) rfl rfl
      have HRZ := Lib.hid (HROW.out.put hoz HC1.out)
      have HBZ := Lib.hid (only_below HBX.out hoz (by omega))
      obtain ⟨g0, g1, g2, g3, g4, g5, g6, g7, g8, g9⟩ := hcbz.ten
      obtain ⟨y0, y1, y2, y3, y4, y5, y6, y7, y8, y9⟩ := HC0.out.ten
      clear hcbz hoz HC0 HC1 HBX HROW
      go_enter Try.func37, Try.ntmps37
      go_wp2
      refine bodyPost_ret (v := .agg #[.int .i64 m.c.id, .int .i64 m.c.pr, .int .i64 m.c.ev, .bool m.c.pre, .string m.c.fr, .slice A n c, .int .i64 m.st, .int .i64 m.pace, .int .i64 (m.wt - 1), .slice A2 n2 c2]) (by simp [results, Try.results37, go_sem, g0, g1, g2, g3, g4, g5, g6, g7, g8, g9]) rfl ⟨_, rfl, HRZ.out, HBZ.out⟩
    · rw [if_neg h2]
      have e2 : decide (m.wt - 1 > 0) = false := decide_eq_false h2
      have e2' : decide (0 < m.wt - 1) = false := decide_eq_false h2
      have e2b : decide (1 < m.wt) = false := decide_eq_false (by omega)
      by_cases h3 : m.st = 2
      · rw [if_pos h3]
        have e3 : (m.st == 2) = true := beq_iff_eq.2 h3
        clear h1 h3
        generalize hX : ((w.alloc (.cells #[.int .i64 m.c.id, .int .i64 m.c.pr, .int .i64 m.c.ev, .bool m.c.pre, .string m.c.fr, .slice A n c, .int .i64 m.st, .int .i64 m.pace, .int .i64 (m.wt - 1), .slice A2 n2 c2] 34)).alloc (.cells #[.int .i64 0, .int .i64 0, .int .i64 0, .bool false, .string ⟨#[]⟩, .slice none 0 0, .int .i64 0, .int .i64 0, .int .i64 0, .slice none 0 0] 34)) = X
        have hXs : X.heap.size = w.heap.size + 1 + 1 := by rw [← hX]; simp
        have hbX : Below w.heap.size w X := by rw [← hX]; exact below_alloc (below_alloc (Below.refl _ _) _) _
        have hc0 : Cb X (w.heap.size) 34 [.int .i64 m.c.id, .int .i64 m.c.pr, .int .i64 m.c.ev, .bool m.c.pre, .string m.c.fr, .slice A n c, .int .i64 m.st, .int .i64 m.pace, .int .i64 (m.wt - 1), .slice A2 n2 c2] := by
          have h1 := Cb.new w [.int .i64 m.c.id, .int .i64 m.c.pr, .int .i64 m.c.ev, .bool m.c.pre, .string m.c.fr, .slice A n c, .int .i64 m.st, .int .i64 m.pace, .int .i64 (m.wt - 1), .slice A2 n2 c2] 34
          rw [show w.heap.size = w.heap.size by simp] at h1
          rw [← hX]; exact (h1.alloc _)
        have hc1 : Cb X (w.heap.size + 1) 34 [.int .i64 0, .int .i64 0, .int .i64 0, .bool false, .string ⟨#[]⟩, .slice none 0 0, .int .i64 0, .int .i64 0, .int .i64 0, .slice none 0 0] := by
          have h1 := Cb.new (w.alloc (.cells #[.int .i64 m.c.id, .int .i64 m.c.pr, .int .i64 m.c.ev, .bool m.c.pre, .string m.c.fr, .slice A n c, .int .i64 m.st, .int .i64 m.pace, .int .i64 (m.wt - 1), .slice A2 n2 c2] 34)) [.int .i64 0, .int .i64 0, .int .i64 0, .bool false, .string ⟨#[]⟩, .slice none 0 0, .int .i64 0, .int .i64 0, .int .i64 0, .slice none 0 0] 34
          rw [show (w.alloc (.cells #[.int .i64 m.c.id, .int .i64 m.c.pr, .int .i64 m.c.ev, .bool m.c.pre, .string m.c.fr, .slice A n c, .int .i64 m.st, .int .i64 m.pace, .int .i64 (m.wt - 1), .slice A2 n2 c2] 34)).heap.size = w.heap.size + 1 by simp] at h1
          rw [← hX]; exact h1
        have HROW := Lib.hid (hrow.below hbX)
        have HBX := Lib.hid hbX
        have HC0 := Lib.hid hc0
        have HC1 := Lib.hid hc1
        have HBB : Hid (b ≤ w.heap.size) := Lib.hid hb
        have HLE := Lib.hid hlen
        have HXS := Lib.hid hXs
        subst hX
        clear hbX hrow hb hlen hXs hc0 hc1
        have HY := Lib.hid (rlead_any (m := ({ m with wt := m.wt - 1 } : Mc)) HROW.out (Nat.le_trans HBB.out HBX.out.size) HLE.out)
        clear HROW
        clear hok
        go_enter Try.func37, Try.ntmps37
        go_wp2_with fail
        refine HY.out.mono ?_
        rintro e w5 ⟨vo5, rfl, hr5, hb5⟩
        obtain ⟨a5, k5, c5, rfl⟩ := hr5.letters
        have HT5 := Lib.hid (HC1.out.below hb5)
        have HB5 := Lib.hid (below_then HBX.out HBX.out.size hb5)
        have HR5 := Lib.hid hr5
        clear hr5 hb5 HBX HY
        obtain ⟨wz, hstz, hcbz, hoz⟩ := store34 HT5.out rfl (leadM ({ m with wt := m.wt - 1 } : Mc)).c.id (leadM ({ m with wt := m.wt - 1 } : Mc)).c.pr (leadM ({ m with wt := m.wt - 1 } : Mc)).c.ev (leadM ({ m with wt := m.wt - 1 } : Mc)).c.pre (leadM ({ m with wt := m.wt - 1 } : Mc)).c.fr (.slice A n c) (leadM ({ m with wt := m.wt - 1 } : Mc)).st (leadM ({ m with wt := m.wt - 1 } : Mc)).pace (leadM ({ m with wt := m.wt - 1 } : Mc)).wt (.slice a5 k5 c5) rfl rfl
        have HRZ := Lib.hid (HR5.out.put hoz HT5.out)
        have HBZ := Lib.hid (only_below HB5.out hoz (by omega))
        obtain ⟨g0, g1, g2, g3, g4, g5, g6, g7, g8, g9⟩ := hcbz.ten
        clear hcbz hoz 
        go_wp2
        refine bodyPost_ret (v := .agg #[.int .i64 (leadM ({ m with wt := m.wt - 1 } : Mc)).c.id, .int .i64 (leadM ({ m with wt := m.wt - 1 } : Mc)).c.pr, .int .i64 (leadM ({ m with wt := m.wt - 1 } : Mc)).c.ev, .bool (leadM ({ m with wt := m.wt - 1 } : Mc)).c.pre, .string (leadM ({ m with wt := m.wt - 1 } : Mc)).c.fr, .slice A n c, .int .i64 (leadM ({ m with wt := m.wt - 1 } : Mc)).st, .int .i64 (leadM ({ m with wt := m.wt - 1 } : Mc)).pace, .int .i64 (leadM ({ m with wt := m.wt - 1 } : Mc)).wt, (.slice a5 k5 c5)]) (by simp [results, Try.results37, go_sem, g0, g1, g2, g3, g4, g5, g6, g7, g8, g9]) rfl ⟨_, rfl, HRZ.out, HBZ.out⟩
      · rw [if_neg h3]
        have e3 : (m.st == 2) = false := beq_eq_false_iff_ne.2 h3
        clear h1 h3
        generalize hX : ((w.alloc (.cells #[.int .i64 m.c.id, .int .i64 m.c.pr, .int .i64 m.c.ev, .bool m.c.pre, .string m.c.fr, .slice A n c, .int .i64 m.st, .int .i64 m.pace, .int .i64 (m.wt - 1), .slice A2 n2 c2] 34)).alloc (.cells #[.int .i64 0, .int .i64 0, .int .i64 0, .bool false, .string ⟨#[]⟩, .slice none 0 0, .int .i64 0, .int .i64 0, .int .i64 0, .slice none 0 0] 34)) = X
        have hXs : X.heap.size = w.heap.size + 1 + 1 := by rw [← hX]; simp
        have hbX : Below w.heap.size w X := by rw [← hX]; exact below_alloc (below_alloc (Below.refl _ _) _) _
        have hc0 : Cb X (w.heap.size) 34 [.int .i64 m.c.id, .int .i64 m.c.pr, .int .i64 m.c.ev, .bool m.c.pre, .string m.c.fr, .slice A n c, .int .i64 m.st, .int .i64 m.pace, .int .i64 (m.wt - 1), .slice A2 n2 c2] := by
          have h1 := Cb.new w [.int .i64 m.c.id, .int .i64 m.c.pr, .int .i64 m.c.ev, .bool m.c.pre, .string m.c.fr, .slice A n c, .int .i64 m.st, .int .i64 m.pace, .int .i64 (m.wt - 1), .slice A2 n2 c2] 34
          rw [show w.heap.size = w.heap.size by simp] at h1
          rw [← hX]; exact (h1.alloc _)
        have hc1 : Cb X (w.heap.size + 1) 34 [.int .i64 0, .int .i64 0, .int .i64 0, .bool false, .string ⟨#[]⟩, .slice none 0 0, .int .i64 0, .int .i64 0, .int .i64 0, .slice none 0 0] := by
          have h1 := Cb.new (w.alloc (.cells #[.int .i64 m.c.id, .int .i64 m.c.pr, .int .i64 m.c.ev, .bool m.c.pre, .string m.c.fr, .slice A n c, .int .i64 m.st, .int .i64 m.pace, .int .i64 (m.wt - 1), .slice A2 n2 c2] 34)) [.int .i64 0, .int .i64 0, .int .i64 0, .bool false, .string ⟨#[]⟩, .slice none 0 0, .int .i64 0, .int .i64 0, .int .i64 0, .slice none 0 0] 34
          rw [show (w.alloc (.cells #[.int .i64 m.c.id, .int .i64 m.c.pr, .int .i64 m.c.ev, .bool m.c.pre, .string m.c.fr, .slice A n c, .int .i64 m.st, .int .i64 m.pace, .int .i64 (m.wt - 1), .slice A2 n2 c2] 34)).heap.size = w.heap.size + 1 by simp] at h1
          rw [← hX]; exact h1
        have HROW := Lib.hid (hrow.below hbX)
        have HBX := Lib.hid hbX
        have HC0 := Lib.hid hc0
        have HC1 := Lib.hid hc1
        have HBB : Hid (b ≤ w.heap.size) := Lib.hid hb
        have HLE := Lib.hid hlen
        have HXS := Lib.hid hXs
        subst hX
        clear hbX hrow hb hlen hXs hc0 hc1
        have HY := Lib.hid (rsay_any (m := ({ m with wt := m.wt - 1 } : Mc)) HROW.out (Nat.le_trans HBB.out HBX.out.size) (by have := HLE.out; show m.out.length ≤ _; omega) m.c.pr)
        clear HROW
        clear hok
        go_enter Try.func37, Try.ntmps37
        go_wp2_with fail
        refine HY.out.mono ?_
        rintro e w5 ⟨vo5, rfl, hr5, hb5⟩
        obtain ⟨a5, k5, c5, rfl⟩ := hr5.letters
        have HT5 := Lib.hid (HC1.out.below hb5)
        have HB5 := Lib.hid (below_then HBX.out HBX.out.size hb5)
        have HR5 := Lib.hid hr5
        clear hr5 hb5 HBX HY
        obtain ⟨wz, hstz, hcbz, hoz⟩ := store34 HT5.out rfl (sayM ({ m with wt := m.wt - 1 } : Mc) m.c.pr).c.id (sayM ({ m with wt := m.wt - 1 } : Mc) m.c.pr).c.pr (sayM ({ m with wt := m.wt - 1 } : Mc) m.c.pr).c.ev (sayM ({ m with wt := m.wt - 1 } : Mc) m.c.pr).c.pre (sayM ({ m with wt := m.wt - 1 } : Mc) m.c.pr).c.fr (.slice A n c) (sayM ({ m with wt := m.wt - 1 } : Mc) m.c.pr).st (sayM ({ m with wt := m.wt - 1 } : Mc) m.c.pr).pace (sayM ({ m with wt := m.wt - 1 } : Mc) m.c.pr).wt (.slice a5 k5 c5) rfl rfl
        have HRZ := Lib.hid (HR5.out.put hoz HT5.out)
        have HBZ := Lib.hid (only_below HB5.out hoz (by omega))
        obtain ⟨g0, g1, g2, g3, g4, g5, g6, g7, g8, g9⟩ := hcbz.ten
        clear hcbz hoz 
        go_wp2
        refine bodyPost_ret (v := .agg #[.int .i64 (sayM ({ m with wt := m.wt - 1 } : Mc) m.c.pr).c.id, .int .i64 (sayM ({ m with wt := m.wt - 1 } : Mc) m.c.pr).c.pr, .int .i64 (sayM ({ m with wt := m.wt - 1 } : Mc) m.c.pr).c.ev, .bool (sayM ({ m with wt := m.wt - 1 } : Mc) m.c.pr).c.pre, .string (sayM ({ m with wt := m.wt - 1 } : Mc) m.c.pr).c.fr, .slice A n c, .int .i64 (sayM ({ m with wt := m.wt - 1 } : Mc) m.c.pr).st, .int .i64 (sayM ({ m with wt := m.wt - 1 } : Mc) m.c.pr).pace, .int .i64 (sayM ({ m with wt := m.wt - 1 } : Mc) m.c.pr).wt, (.slice a5 k5 c5)]) (by simp [results, Try.results37, go_sem, g0, g1, g2, g3, g4, g5, g6, g7, g8, g9]) rfl ⟨_, rfl, HRZ.out, HBZ.out⟩
end Go.Proofs.Ytpcdaidgijkkbaa
