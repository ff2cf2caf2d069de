/-
  The reference: Do.
-/
import Derived.Test.YtpcdaidgijkkbaaRtake
namespace Go.Proofs.Ytpcdaidgijkkbaa
open Go.RowKit Go.Maps
set_option linter.unusedVariables false
set_option linter.unusedSimpArgs false
set_option maxRecDepth 40000
attribute [local go_sem ↓] bigS34

theorem do_0 {m : Mc} {o : Oq} (h : o.kind = 0) : doM m o = startM m := by unfold doM; rw [if_pos h]
theorem do_1 {m : Mc} {o : Oq} (h : o.kind = 1) : doM m o = stopM m := by unfold doM; rw [if_neg (by omega), if_pos h]
theorem do_2 {m : Mc} {o : Oq} (h : o.kind = 2) : doM m o = ticksM (howMany o.n) m := by unfold doM; rw [if_neg (by omega), if_neg (by omega), if_pos h]
theorem do_3 {m : Mc} {o : Oq} (h : o.kind = 3) : doM m o = takeM m o.fr o.a := by unfold doM; rw [if_neg (by omega), if_neg (by omega), if_neg (by omega), if_pos h]
theorem do_4 {m : Mc} {o : Oq} (h : o.kind = 4) : doM m o = setM m o.n := by unfold doM; rw [if_neg (by omega), if_neg (by omega), if_neg (by omega), if_neg (by omega), if_pos h]
theorem do_9 {m : Mc} {o : Oq} (h0 : ¬ o.kind = 0) (h1 : ¬ o.kind = 1) (h2 : ¬ o.kind = 2) (h3 : ¬ o.kind = 3) (h4 : ¬ o.kind = 4) : doM m o = m := by unfold doM; rw [if_neg h0, if_neg h1, if_neg h2, if_neg h3, if_neg h4]

def RdRel (w : World) (b : Nat) (A : Option Addr) (n c : Nat) (m : Mc) (ol : List Value) (K gg : Nat) (x : Value) (wr : World) : Prop :=
  ∃ (i : Nat) (mi : Mc) (a5 : Option Addr) (k5 c5 : Nat), i + gg = K ∧ x = .int .i64 (i : Int) ∧ mi = ticksM i m ∧ Rw b wr (.slice a5 k5 c5) A n c mi.out ∧ Cb wr w.heap.size 34 [.int .i64 mi.c.id, .int .i64 mi.c.pr, .int .i64 mi.c.ev, .bool mi.c.pre, .string mi.c.fr, .slice A n c, .int .i64 mi.st, .int .i64 mi.pace, .int .i64 mi.wt, .slice a5 k5 c5] ∧ Cb wr (w.heap.size + 1) 41 ol ∧ Cb wr (w.heap.size + 1 + 1) 34 [.int .i64 0, .int .i64 0, .int .i64 0, .bool false, .string ⟨#[]⟩, .slice none 0 0, .int .i64 0, .int .i64 0, .int .i64 0, .slice none 0 0] ∧ Below w.heap.size w wr

set_option maxHeartbeats 8000000 in
/-- The reference's Do. -/
theorem rdo_any {b : Nat} {A : Option Addr} {n c : Nat} {w : World} {m : Mc} {vo : Value} (hrow : Rw b w vo A n c m.out) (hb : b ≤ w.heap.size) (hlen : m.out.length ≤ 137438953472) (hok : OkM m) (kd on : Int) (fr1 : ByteArray) (ai ap ae : Int) (ax : List ByteArray) (A3 : Option Addr) (n3 c3 : Nat) :
    Calls Try.prog 14 #[.agg #[.int .i64 m.c.id, .int .i64 m.c.pr, .int .i64 m.c.ev, .bool m.c.pre, .string m.c.fr, .slice A n c, .int .i64 m.st, .int .i64 m.pace, .int .i64 m.wt, vo], .agg #[.int .i64 kd, .int .i64 on, .string fr1, .int .i64 ai, .int .i64 ap, .int .i64 ae, .slice A3 n3 c3]] w fun e w' => ∃ vo', e = .returned (.agg #[.int .i64 (doM m ⟨kd, on, fr1, ⟨ai, ap, ae, ax⟩⟩).c.id, .int .i64 (doM m ⟨kd, on, fr1, ⟨ai, ap, ae, ax⟩⟩).c.pr, .int .i64 (doM m ⟨kd, on, fr1, ⟨ai, ap, ae, ax⟩⟩).c.ev, .bool (doM m ⟨kd, on, fr1, ⟨ai, ap, ae, ax⟩⟩).c.pre, .string (doM m ⟨kd, on, fr1, ⟨ai, ap, ae, ax⟩⟩).c.fr, .slice A n c, .int .i64 (doM m ⟨kd, on, fr1, ⟨ai, ap, ae, ax⟩⟩).st, .int .i64 (doM m ⟨kd, on, fr1, ⟨ai, ap, ae, ax⟩⟩).pace, .int .i64 (doM m ⟨kd, on, fr1, ⟨ai, ap, ae, ax⟩⟩).wt, vo']) ∧ Rw b w' vo' A n c (doM m ⟨kd, on, fr1, ⟨ai, ap, ae, ax⟩⟩).out ∧ Below w.heap.size w w' := by
  obtain ⟨A2, n2, c2, rfl⟩ := hrow.letters
  by_cases h0 : kd = 0
  · have u0 : (kd == 0) = true := beq_iff_eq.2 h0
    rw [do_0 (o := ⟨kd, on, fr1, ⟨ai, ap, ae, ax⟩⟩) h0]
    clear h0
    generalize hX : (((w.alloc (.cells #[.int .i64 m.c.id, .int .i64 m.c.pr, .int .i64 m.c.ev, .bool m.c.pre, .string m.c.fr, .slice A n c, .int .i64 m.st, .int .i64 m.pace, .int .i64 m.wt, .slice A2 n2 c2] 34)).alloc (.cells #[.int .i64 kd, .int .i64 on, .string fr1, .int .i64 ai, .int .i64 ap, .int .i64 ae, .slice A3 n3 c3] 41)).alloc (.cells #[.int .i64 0, .int .i64 0, .int .i64 0, .bool false, .string ⟨#[]⟩, .slice none 0 0, .int .i64 0, .int .i64 0, .int .i64 0, .slice none 0 0] 34)) = X
    have hXs : X.heap.size = w.heap.size + 1 + 1 + 1 := by rw [← hX]; simp
    have hbX : Below w.heap.size w X := by rw [← hX]; exact below_alloc (below_alloc (below_alloc (Below.refl _ _) _) _) _
    have hc0 : Cb X (w.heap.size) 34 [.int .i64 m.c.id, .int .i64 m.c.pr, .int .i64 m.c.ev, .bool m.c.pre, .string m.c.fr, .slice A n c, .int .i64 m.st, .int .i64 m.pace, .int .i64 m.wt, .slice A2 n2 c2] := by
      have h1 := Cb.new w [.int .i64 m.c.id, .int .i64 m.c.pr, .int .i64 m.c.ev, .bool m.c.pre, .string m.c.fr, .slice A n c, .int .i64 m.st, .int .i64 m.pace, .int .i64 m.wt, .slice A2 n2 c2] 34
      rw [show w.heap.size = w.heap.size by simp] at h1
      rw [← hX]; exact ((h1.alloc _).alloc _)
    have hc1 : Cb X (w.heap.size + 1) 41 [.int .i64 kd, .int .i64 on, .string fr1, .int .i64 ai, .int .i64 ap, .int .i64 ae, .slice A3 n3 c3] := by
      have h1 := Cb.new (w.alloc (.cells #[.int .i64 m.c.id, .int .i64 m.c.pr, .int .i64 m.c.ev, .bool m.c.pre, .string m.c.fr, .slice A n c, .int .i64 m.st, .int .i64 m.pace, .int .i64 m.wt, .slice A2 n2 c2] 34)) [.int .i64 kd, .int .i64 on, .string fr1, .int .i64 ai, .int .i64 ap, .int .i64 ae, .slice A3 n3 c3] 41
      rw [show (w.alloc (.cells #[.int .i64 m.c.id, .int .i64 m.c.pr, .int .i64 m.c.ev, .bool m.c.pre, .string m.c.fr, .slice A n c, .int .i64 m.st, .int .i64 m.pace, .int .i64 m.wt, .slice A2 n2 c2] 34)).heap.size = w.heap.size + 1 by simp] at h1
      rw [← hX]; exact (h1.alloc _)
    have hc2 : Cb X (w.heap.size + 1 + 1) 34 [.int .i64 0, .int .i64 0, .int .i64 0, .bool false, .string ⟨#[]⟩, .slice none 0 0, .int .i64 0, .int .i64 0, .int .i64 0, .slice none 0 0] := by
      have h1 := Cb.new ((w.alloc (.cells #[.int .i64 m.c.id, .int .i64 m.c.pr, .int .i64 m.c.ev, .bool m.c.pre, .string m.c.fr, .slice A n c, .int .i64 m.st, .int .i64 m.pace, .int .i64 m.wt, .slice A2 n2 c2] 34)).alloc (.cells #[.int .i64 kd, .int .i64 on, .string fr1, .int .i64 ai, .int .i64 ap, .int .i64 ae, .slice A3 n3 c3] 41)) [.int .i64 0, .int .i64 0, .int .i64 0, .bool false, .string ⟨#[]⟩, .slice none 0 0, .int .i64 0, .int .i64 0, .int .i64 0, .slice none 0 0] 34
      rw [show ((w.alloc (.cells #[.int .i64 m.c.id, .int .i64 m.c.pr, .int .i64 m.c.ev, .bool m.c.pre, .string m.c.fr, .slice A n c, .int .i64 m.st, .int .i64 m.pace, .int .i64 m.wt, .slice A2 n2 c2] 34)).alloc (.cells #[.int .i64 kd, .int .i64 on, .string fr1, .int .i64 ai, .int .i64 ap, .int .i64 ae, .slice A3 n3 c3] 41)).heap.size = w.heap.size + 1 + 1 by simp] at h1
      rw [← hX]; exact h1
    have HROW := Lib.hid (hrow.below hbX)
    have HBX := Lib.hid hbX
    have HC0 := Lib.hid hc0
    have HC1 := Lib.hid hc1
    have HC2 := Lib.hid hc2
    have HBB : Hid (b ≤ w.heap.size) := Lib.hid hb
    have HLE := Lib.hid hlen
    have HXS := Lib.hid hXs
    subst hX
    clear hbX hrow hb hlen hXs hc0 hc1 hc2
    have HY := Lib.hid (rstart_any HROW.out (Nat.le_trans HBB.out HBX.out.size) (by have := HLE.out; omega))
    clear HROW hok
    go_enter Try.func14, Try.ntmps14
    go_wp2_with fail
    refine HY.out.mono ?_
    rintro e w5 ⟨vo5, rfl, hr5, hb5⟩
    obtain ⟨a5, k5, c5, rfl⟩ := hr5.letters
    have hc5 := HC0.out.below hb5
    have ht5 := HC2.out.below hb5
    have hB5 := below_then HBX.out HBX.out.size hb5
    obtain ⟨w6, hst6, hcb6, ho6⟩ := store34 hc5 rfl (startM m).c.id (startM m).c.pr (startM m).c.ev (startM m).c.pre (startM m).c.fr (.slice A n c) (startM m).st (startM m).pace (startM m).wt (.slice a5 k5 c5) rfl rfl
    have HT6 := Lib.hid (ht5.only ho6 (by omega))
    have HB6 := Lib.hid (only_below hB5 ho6 (Nat.le_refl _))
    have HR6 := Lib.hid (hr5.put ho6 hc5)
    obtain ⟨y0, y1, y2, y3, y4, y5, y6, y7, y8, y9⟩ := hcb6.ten
    clear hr5 hb5 HBX HY hc5 ht5 hB5 ho6 hcb6 HC0 HC1 HC2
    obtain ⟨wz, hstz, hcbz, hoz⟩ := store34 HT6.out rfl (startM m).c.id (startM m).c.pr (startM m).c.ev (startM m).c.pre (startM m).c.fr (.slice A n c) (startM m).st (startM m).pace (startM m).wt (.slice a5 k5 c5) rfl rfl
    have HRZ := Lib.hid (HR6.out.put hoz HT6.out)
    have HBZ := Lib.hid (only_below HB6.out hoz (by omega))
    obtain ⟨g0, g1, g2, g3, g4, g5, g6, g7, g8, g9⟩ := hcbz.ten
    clear hcbz hoz 
    go_wp2
    refine bodyPost_ret (v := .agg #[.int .i64 (startM m).c.id, .int .i64 (startM m).c.pr, .int .i64 (startM m).c.ev, .bool (startM m).c.pre, .string (startM m).c.fr, .slice A n c, .int .i64 (startM m).st, .int .i64 (startM m).pace, .int .i64 (startM m).wt, (.slice a5 k5 c5)]) (by simp [results, Try.results14, go_sem, g0, g1, g2, g3, g4, g5, g6, g7, g8, g9]) rfl ⟨_, rfl, HRZ.out, HBZ.out⟩
  have u0 : (kd == 0) = false := beq_eq_false_iff_ne.2 h0
  by_cases h1 : kd = 1
  · have u1 : (kd == 1) = true := beq_iff_eq.2 h1
    rw [do_1 (o := ⟨kd, on, fr1, ⟨ai, ap, ae, ax⟩⟩) h1]
    clear h0 h1
    generalize hX : (((w.alloc (.cells #[.int .i64 m.c.id, .int .i64 m.c.pr, .int .i64 m.c.ev, .bool m.c.pre, .string m.c.fr, .slice A n c, .int .i64 m.st, .int .i64 m.pace, .int .i64 m.wt, .slice A2 n2 c2] 34)).alloc (.cells #[.int .i64 kd, .int .i64 on, .string fr1, .int .i64 ai, .int .i64 ap, .int .i64 ae, .slice A3 n3 c3] 41)).alloc (.cells #[.int .i64 0, .int .i64 0, .int .i64 0, .bool false, .string ⟨#[]⟩, .slice none 0 0, .int .i64 0, .int .i64 0, .int .i64 0, .slice none 0 0] 34)) = X
    have hXs : X.heap.size = w.heap.size + 1 + 1 + 1 := by rw [← hX]; simp
    have hbX : Below w.heap.size w X := by rw [← hX]; exact below_alloc (below_alloc (below_alloc (Below.refl _ _) _) _) _
    have hc0 : Cb X (w.heap.size) 34 [.int .i64 m.c.id, .int .i64 m.c.pr, .int .i64 m.c.ev, .bool m.c.pre, .string m.c.fr, .slice A n c, .int .i64 m.st, .int .i64 m.pace, .int .i64 m.wt, .slice A2 n2 c2] := by
      have h1 := Cb.new w [.int .i64 m.c.id, .int .i64 m.c.pr, .int .i64 m.c.ev, .bool m.c.pre, .string m.c.fr, .slice A n c, .int .i64 m.st, .int .i64 m.pace, .int .i64 m.wt, .slice A2 n2 c2] 34
      rw [show w.heap.size = w.heap.size by simp] at h1
      rw [← hX]; exact ((h1.alloc _).alloc _)
    have hc1 : Cb X (w.heap.size + 1) 41 [.int .i64 kd, .int .i64 on, .string fr1, .int .i64 ai, .int .i64 ap, .int .i64 ae, .slice A3 n3 c3] := by
      have h1 := Cb.new (w.alloc (.cells #[.int .i64 m.c.id, .int .i64 m.c.pr, .int .i64 m.c.ev, .bool m.c.pre, .string m.c.fr, .slice A n c, .int .i64 m.st, .int .i64 m.pace, .int .i64 m.wt, .slice A2 n2 c2] 34)) [.int .i64 kd, .int .i64 on, .string fr1, .int .i64 ai, .int .i64 ap, .int .i64 ae, .slice A3 n3 c3] 41
      rw [show (w.alloc (.cells #[.int .i64 m.c.id, .int .i64 m.c.pr, .int .i64 m.c.ev, .bool m.c.pre, .string m.c.fr, .slice A n c, .int .i64 m.st, .int .i64 m.pace, .int .i64 m.wt, .slice A2 n2 c2] 34)).heap.size = w.heap.size + 1 by simp] at h1
      rw [← hX]; exact (h1.alloc _)
    have hc2 : Cb X (w.heap.size + 1 + 1) 34 [.int .i64 0, .int .i64 0, .int .i64 0, .bool false, .string ⟨#[]⟩, .slice none 0 0, .int .i64 0, .int .i64 0, .int .i64 0, .slice none 0 0] := by
      have h1 := Cb.new ((w.alloc (.cells #[.int .i64 m.c.id, .int .i64 m.c.pr, .int .i64 m.c.ev, .bool m.c.pre, .string m.c.fr, .slice A n c, .int .i64 m.st, .int .i64 m.pace, .int .i64 m.wt, .slice A2 n2 c2] 34)).alloc (.cells #[.int .i64 kd, .int .i64 on, .string fr1, .int .i64 ai, .int .i64 ap, .int .i64 ae, .slice A3 n3 c3] 41)) [.int .i64 0, .int .i64 0, .int .i64 0, .bool false, .string ⟨#[]⟩, .slice none 0 0, .int .i64 0, .int .i64 0, .int .i64 0, .slice none 0 0] 34
      rw [show ((w.alloc (.cells #[.int .i64 m.c.id, .int .i64 m.c.pr, .int .i64 m.c.ev, .bool m.c.pre, .string m.c.fr, .slice A n c, .int .i64 m.st, .int .i64 m.pace, .int .i64 m.wt, .slice A2 n2 c2] 34)).alloc (.cells #[.int .i64 kd, .int .i64 on, .string fr1, .int .i64 ai, .int .i64 ap, .int .i64 ae, .slice A3 n3 c3] 41)).heap.size = w.heap.size + 1 + 1 by simp] at h1
      rw [← hX]; exact h1
    have HROW := Lib.hid (hrow.below hbX)
    have HBX := Lib.hid hbX
    have HC0 := Lib.hid hc0
    have HC1 := Lib.hid hc1
    have HC2 := Lib.hid hc2
    have HBB : Hid (b ≤ w.heap.size) := Lib.hid hb
    have HLE := Lib.hid hlen
    have HXS := Lib.hid hXs
    subst hX
    clear hbX hrow hb hlen hXs hc0 hc1 hc2
    have HY := Lib.hid (rstop_any HROW.out (Nat.le_trans HBB.out HBX.out.size) (by have := HLE.out; omega))
    clear HROW hok
    go_enter Try.func14, Try.ntmps14
    go_wp2_with fail
    refine HY.out.mono ?_
    rintro e w5 ⟨vo5, rfl, hr5, hb5⟩
    obtain ⟨a5, k5, c5, rfl⟩ := hr5.letters
    have hc5 := HC0.out.below hb5
    have ht5 := HC2.out.below hb5
    have hB5 := below_then HBX.out HBX.out.size hb5
    obtain ⟨w6, hst6, hcb6, ho6⟩ := store34 hc5 rfl (stopM m).c.id (stopM m).c.pr (stopM m).c.ev (stopM m).c.pre (stopM m).c.fr (.slice A n c) (stopM m).st (stopM m).pace (stopM m).wt (.slice a5 k5 c5) rfl rfl
    have HT6 := Lib.hid (ht5.only ho6 (by omega))
    have HB6 := Lib.hid (only_below hB5 ho6 (Nat.le_refl _))
    have HR6 := Lib.hid (hr5.put ho6 hc5)
    obtain ⟨y0, y1, y2, y3, y4, y5, y6, y7, y8, y9⟩ := hcb6.ten
    clear hr5 hb5 HBX HY hc5 ht5 hB5 ho6 hcb6 HC0 HC1 HC2
    obtain ⟨wz, hstz, hcbz, hoz⟩ := store34 HT6.out rfl (stopM m).c.id (stopM m).c.pr (stopM m).c.ev (stopM m).c.pre (stopM m).c.fr (.slice A n c) (stopM m).st (stopM m).pace (stopM m).wt (.slice a5 k5 c5) rfl rfl
    have HRZ := Lib.hid (HR6.out.put hoz HT6.out)
    have HBZ := Lib.hid (only_below HB6.out hoz (by omega))
    obtain ⟨g0, g1, g2, g3, g4, g5, g6, g7, g8, g9⟩ := hcbz.ten
    clear hcbz hoz 
    go_wp2
    refine bodyPost_ret (v := .agg #[.int .i64 (stopM m).c.id, .int .i64 (stopM m).c.pr, .int .i64 (stopM m).c.ev, .bool (stopM m).c.pre, .string (stopM m).c.fr, .slice A n c, .int .i64 (stopM m).st, .int .i64 (stopM m).pace, .int .i64 (stopM m).wt, (.slice a5 k5 c5)]) (by simp [results, Try.results14, go_sem, g0, g1, g2, g3, g4, g5, g6, g7, g8, g9]) rfl ⟨_, rfl, HRZ.out, HBZ.out⟩
  have u1 : (kd == 1) = false := beq_eq_false_iff_ne.2 h1
  by_cases h2 : kd = 2
  · have u2 : (kd == 2) = true := beq_iff_eq.2 h2
    rw [do_2 (o := ⟨kd, on, fr1, ⟨ai, ap, ae, ax⟩⟩) h2]
    clear h0 h1 h2
    show Calls Try.prog 14 _ w fun e w' => ∃ vo', e = .returned (.agg #[.int .i64 (ticksM (howMany on) m).c.id, .int .i64 (ticksM (howMany on) m).c.pr, .int .i64 (ticksM (howMany on) m).c.ev, .bool (ticksM (howMany on) m).c.pre, .string (ticksM (howMany on) m).c.fr, .slice A n c, .int .i64 (ticksM (howMany on) m).st, .int .i64 (ticksM (howMany on) m).pace, .int .i64 (ticksM (howMany on) m).wt, vo']) ∧ Rw b w' vo' A n c (ticksM (howMany on) m).out ∧ Below w.heap.size w w'
    generalize hX : (((w.alloc (.cells #[.int .i64 m.c.id, .int .i64 m.c.pr, .int .i64 m.c.ev, .bool m.c.pre, .string m.c.fr, .slice A n c, .int .i64 m.st, .int .i64 m.pace, .int .i64 m.wt, .slice A2 n2 c2] 34)).alloc (.cells #[.int .i64 kd, .int .i64 on, .string fr1, .int .i64 ai, .int .i64 ap, .int .i64 ae, .slice A3 n3 c3] 41)).alloc (.cells #[.int .i64 0, .int .i64 0, .int .i64 0, .bool false, .string ⟨#[]⟩, .slice none 0 0, .int .i64 0, .int .i64 0, .int .i64 0, .slice none 0 0] 34)) = X
    have hXs : X.heap.size = w.heap.size + 1 + 1 + 1 := by rw [← hX]; simp
    have hbX : Below w.heap.size w X := by rw [← hX]; exact below_alloc (below_alloc (below_alloc (Below.refl _ _) _) _) _
    have hc0 : Cb X (w.heap.size) 34 [.int .i64 m.c.id, .int .i64 m.c.pr, .int .i64 m.c.ev, .bool m.c.pre, .string m.c.fr, .slice A n c, .int .i64 m.st, .int .i64 m.pace, .int .i64 m.wt, .slice A2 n2 c2] := by
      have h1 := Cb.new w [.int .i64 m.c.id, .int .i64 m.c.pr, .int .i64 m.c.ev, .bool m.c.pre, .string m.c.fr, .slice A n c, .int .i64 m.st, .int .i64 m.pace, .int .i64 m.wt, .slice A2 n2 c2] 34
      rw [show w.heap.size = w.heap.size by simp] at h1
      rw [← hX]; exact ((h1.alloc _).alloc _)
    have hc1 : Cb X (w.heap.size + 1) 41 [.int .i64 kd, .int .i64 on, .string fr1, .int .i64 ai, .int .i64 ap, .int .i64 ae, .slice A3 n3 c3] := by
      have h1 := Cb.new (w.alloc (.cells #[.int .i64 m.c.id, .int .i64 m.c.pr, .int .i64 m.c.ev, .bool m.c.pre, .string m.c.fr, .slice A n c, .int .i64 m.st, .int .i64 m.pace, .int .i64 m.wt, .slice A2 n2 c2] 34)) [.int .i64 kd, .int .i64 on, .string fr1, .int .i64 ai, .int .i64 ap, .int .i64 ae, .slice A3 n3 c3] 41
      rw [show (w.alloc (.cells #[.int .i64 m.c.id, .int .i64 m.c.pr, .int .i64 m.c.ev, .bool m.c.pre, .string m.c.fr, .slice A n c, .int .i64 m.st, .int .i64 m.pace, .int .i64 m.wt, .slice A2 n2 c2] 34)).heap.size = w.heap.size + 1 by simp] at h1
      rw [← hX]; exact (h1.alloc _)
    have hc2 : Cb X (w.heap.size + 1 + 1) 34 [.int .i64 0, .int .i64 0, .int .i64 0, .bool false, .string ⟨#[]⟩, .slice none 0 0, .int .i64 0, .int .i64 0, .int .i64 0, .slice none 0 0] := by
      have h1 := Cb.new ((w.alloc (.cells #[.int .i64 m.c.id, .int .i64 m.c.pr, .int .i64 m.c.ev, .bool m.c.pre, .string m.c.fr, .slice A n c, .int .i64 m.st, .int .i64 m.pace, .int .i64 m.wt, .slice A2 n2 c2] 34)).alloc (.cells #[.int .i64 kd, .int .i64 on, .string fr1, .int .i64 ai, .int .i64 ap, .int .i64 ae, .slice A3 n3 c3] 41)) [.int .i64 0, .int .i64 0, .int .i64 0, .bool false, .string ⟨#[]⟩, .slice none 0 0, .int .i64 0, .int .i64 0, .int .i64 0, .slice none 0 0] 34
      rw [show ((w.alloc (.cells #[.int .i64 m.c.id, .int .i64 m.c.pr, .int .i64 m.c.ev, .bool m.c.pre, .string m.c.fr, .slice A n c, .int .i64 m.st, .int .i64 m.pace, .int .i64 m.wt, .slice A2 n2 c2] 34)).alloc (.cells #[.int .i64 kd, .int .i64 on, .string fr1, .int .i64 ai, .int .i64 ap, .int .i64 ae, .slice A3 n3 c3] 41)).heap.size = w.heap.size + 1 + 1 by simp] at h1
      rw [← hX]; exact h1
    have HROW := Lib.hid (hrow.below hbX)
    have HBX := Lib.hid hbX
    have HC0 := Lib.hid hc0
    have HC1 := Lib.hid hc1
    have HC2 := Lib.hid hc2
    have HBB : Hid (b ≤ w.heap.size) := Lib.hid hb
    have HLE := Lib.hid hlen
    have HXS := Lib.hid hXs
    subst hX
    clear hbX hrow hb hlen hXs hc0 hc1 hc2
    have HKN : Hid (howMany on = (min on 2000).toNat) := Lib.hid rfl
    have HOK := Lib.hid hok
    generalize hK : howMany on = K at *
    have HKB : Hid (K ≤ 2000) := Lib.hid (by rw [← hK]; exact howMany_le on)
    obtain ⟨o0, o1, o2, o3, o4, o5, o6⟩ := HC1.out.seven
    clear hok hK
    go_enter Try.func14, Try.ntmps14
    go_wp2_with fail
    clear o0 o1 o2 o3 o4 o5 o6
    go_loopg [5] K (fun gg x wr => RdRel w b A n c m [.int .i64 kd, .int .i64 on, .string fr1, .int .i64 ai, .int .i64 ap, .int .i64 ae, .slice A3 n3 c3] K gg x wr)
    case atStart => exact ⟨0, m, _, _, _, by omega, rfl, rfl, HROW.out, HC0.out, HC1.out, HC2.out, HBX.out⟩
    case round =>
      obtain ⟨i, mi, a5, k5, c5, hi, rfl, hmi, hr, hc0, hc1, hc2, hbl⟩ := hrel
      have HMI := Lib.hid hmi
      obtain ⟨o0, o1, o2, o3, o4, o5, o6⟩ := hc1.seven
      obtain ⟨y0, y1, y2, y3, y4, y5, y6, y7, y8, y9⟩ := hc0.ten
      have HC1' := Lib.hid hc1
      have HC2' := Lib.hid hc2
      have HC0' := Lib.hid hc0
      have HBl := Lib.hid hbl
      have HRr := Lib.hid hr
      clear hmi hr hc0 hc1 hc2 hbl HC0 HC1 HC2 HBX HROW
      by_cases hlt : i < K
      · have v1 : decide ((i : Int) < on) = true := decide_eq_true (by have := HKN.out; omega)
        have v2 : decide ((i : Int) < 2000) = true := decide_eq_true (by have := HKB.out; omega)
        have v1' : (i : Int) < on := by have := HKN.out; omega
        have v2' : (i : Int) < 2000 := by have := HKB.out; omega
        have hokm : OkM mi := by rw [HMI.out]; exact OkM.ticks i HOK.out
        have HY := Lib.hid (rtick_any HRr.out (Nat.le_trans HBB.out HBl.out.size) (by rw [HMI.out]; have := out_ticks i m; have := HLE.out; have := HKB.out; omega) hokm)
        have HW : Hid (Value.int .i64 (wrap64 ((i : Int) + 1)) = .int .i64 ((i + 1 : Nat) : Int)) := Lib.hid (by congr 1; have := HKB.out; unfold wrap64; omega)
        clear hokm
        go_wp2_with fail
        refine HY.out.mono ?_
        rintro e w5 ⟨vo5, rfl, hr5, hb5⟩
        obtain ⟨a6, k6, c6, rfl⟩ := hr5.letters
        have hc5 := HC0'.out.below hb5
        obtain ⟨w6, hst6, hcb6, ho6⟩ := store34 hc5 rfl (tickM mi).c.id (tickM mi).c.pr (tickM mi).c.ev (tickM mi).c.pre (tickM mi).c.fr (.slice A n c) (tickM mi).st (tickM mi).pace (tickM mi).wt (.slice a6 k6 c6) rfl rfl
        have HEND : Hid (RdRel w b A n c m [.int .i64 kd, .int .i64 on, .string fr1, .int .i64 ai, .int .i64 ap, .int .i64 ae, .slice A3 n3 c3] K (K - (i + 1)) (.int .i64 ((i + 1 : Nat) : Int)) w6) := Lib.hid ⟨i + 1, tickM mi, _, _, _, by omega, rfl, by rw [ticks_next, HMI.out], hr5.put ho6 hc5, hcb6, (HC1'.out.below hb5).only ho6 (by omega), (HC2'.out.below hb5).only ho6 (by omega), only_below (below_then HBl.out HBl.out.size hb5) ho6 (Nat.le_refl _)⟩
        clear hr5 hb5 hc5 hcb6 ho6 HY
        go_wp2
        go_roundg (K - (i + 1))
        case measure => omega
        case rel => have e9 : ((i + 1 : Nat) : Int) = (i : Int) + 1 := by omega
                    rw [← e9]; exact HEND.out
      · obtain rfl : i = K := by omega
        obtain ⟨wz, hstz, hcbz, hoz⟩ := store34 HC2'.out rfl mi.c.id mi.c.pr mi.c.ev mi.c.pre mi.c.fr (.slice A n c) mi.st mi.pace mi.wt (.slice a5 k5 c5) rfl rfl
        have HRZ := Lib.hid (HRr.out.put hoz HC2'.out)
        have HBZ := Lib.hid (only_below HBl.out hoz (by omega))
        obtain ⟨g0, g1, g2, g3, g4, g5, g6, g7, g8, g9⟩ := hcbz.ten
        clear hcbz hoz
        by_cases v0 : (i : Int) < on
        · have v1 : decide ((i : Int) < on) = true := decide_eq_true v0
          have v2' : ¬ (i : Int) < 2000 := by have := HKN.out; omega
          have v2 : decide ((i : Int) < 2000) = false := decide_eq_false v2'
          go_wp2
          refine bodyPost_ret (v := .agg #[.int .i64 mi.c.id, .int .i64 mi.c.pr, .int .i64 mi.c.ev, .bool mi.c.pre, .string mi.c.fr, .slice A n c, .int .i64 mi.st, .int .i64 mi.pace, .int .i64 mi.wt, .slice a5 k5 c5]) (by simp [results, Try.results14, go_sem, g0, g1, g2, g3, g4, g5, g6, g7, g8, g9]) rfl ?_
          rw [← HMI.out]
          exact ⟨_, rfl, HRZ.out, HBZ.out⟩
        · have v1 : decide ((i : Int) < on) = false := decide_eq_false v0
          go_wp2
          refine bodyPost_ret (v := .agg #[.int .i64 mi.c.id, .int .i64 mi.c.pr, .int .i64 mi.c.ev, .bool mi.c.pre, .string mi.c.fr, .slice A n c, .int .i64 mi.st, .int .i64 mi.pace, .int .i64 mi.wt, .slice a5 k5 c5]) (by simp [results, Try.results14, go_sem, g0, g1, g2, g3, g4, g5, g6, g7, g8, g9]) rfl ?_
          rw [← HMI.out]
          exact ⟨_, rfl, HRZ.out, HBZ.out⟩
  have u2 : (kd == 2) = false := beq_eq_false_iff_ne.2 h2
  by_cases h3 : kd = 3
  · have u3 : (kd == 3) = true := beq_iff_eq.2 h3
    rw [do_3 (o := ⟨kd, on, fr1, ⟨ai, ap, ae, ax⟩⟩) h3]
    clear h0 h1 h2 h3
    show Calls Try.prog 14 _ w fun e w' => ∃ vo', e = .returned (.agg #[.int .i64 (takeM m fr1 ⟨ai, ap, ae, ax⟩).c.id, .int .i64 (takeM m fr1 ⟨ai, ap, ae, ax⟩).c.pr, .int .i64 (takeM m fr1 ⟨ai, ap, ae, ax⟩).c.ev, .bool (takeM m fr1 ⟨ai, ap, ae, ax⟩).c.pre, .string (takeM m fr1 ⟨ai, ap, ae, ax⟩).c.fr, .slice A n c, .int .i64 (takeM m fr1 ⟨ai, ap, ae, ax⟩).st, .int .i64 (takeM m fr1 ⟨ai, ap, ae, ax⟩).pace, .int .i64 (takeM m fr1 ⟨ai, ap, ae, ax⟩).wt, vo']) ∧ Rw b w' vo' A n c (takeM m fr1 ⟨ai, ap, ae, ax⟩).out ∧ Below w.heap.size w w'
    generalize hX : (((w.alloc (.cells #[.int .i64 m.c.id, .int .i64 m.c.pr, .int .i64 m.c.ev, .bool m.c.pre, .string m.c.fr, .slice A n c, .int .i64 m.st, .int .i64 m.pace, .int .i64 m.wt, .slice A2 n2 c2] 34)).alloc (.cells #[.int .i64 kd, .int .i64 on, .string fr1, .int .i64 ai, .int .i64 ap, .int .i64 ae, .slice A3 n3 c3] 41)).alloc (.cells #[.int .i64 0, .int .i64 0, .int .i64 0, .bool false, .string ⟨#[]⟩, .slice none 0 0, .int .i64 0, .int .i64 0, .int .i64 0, .slice none 0 0] 34)) = X
    have hXs : X.heap.size = w.heap.size + 1 + 1 + 1 := by rw [← hX]; simp
    have hbX : Below w.heap.size w X := by rw [← hX]; exact below_alloc (below_alloc (below_alloc (Below.refl _ _) _) _) _
    have hc0 : Cb X (w.heap.size) 34 [.int .i64 m.c.id, .int .i64 m.c.pr, .int .i64 m.c.ev, .bool m.c.pre, .string m.c.fr, .slice A n c, .int .i64 m.st, .int .i64 m.pace, .int .i64 m.wt, .slice A2 n2 c2] := by
      have h1 := Cb.new w [.int .i64 m.c.id, .int .i64 m.c.pr, .int .i64 m.c.ev, .bool m.c.pre, .string m.c.fr, .slice A n c, .int .i64 m.st, .int .i64 m.pace, .int .i64 m.wt, .slice A2 n2 c2] 34
      rw [show w.heap.size = w.heap.size by simp] at h1
      rw [← hX]; exact ((h1.alloc _).alloc _)
    have hc1 : Cb X (w.heap.size + 1) 41 [.int .i64 kd, .int .i64 on, .string fr1, .int .i64 ai, .int .i64 ap, .int .i64 ae, .slice A3 n3 c3] := by
      have h1 := Cb.new (w.alloc (.cells #[.int .i64 m.c.id, .int .i64 m.c.pr, .int .i64 m.c.ev, .bool m.c.pre, .string m.c.fr, .slice A n c, .int .i64 m.st, .int .i64 m.pace, .int .i64 m.wt, .slice A2 n2 c2] 34)) [.int .i64 kd, .int .i64 on, .string fr1, .int .i64 ai, .int .i64 ap, .int .i64 ae, .slice A3 n3 c3] 41
      rw [show (w.alloc (.cells #[.int .i64 m.c.id, .int .i64 m.c.pr, .int .i64 m.c.ev, .bool m.c.pre, .string m.c.fr, .slice A n c, .int .i64 m.st, .int .i64 m.pace, .int .i64 m.wt, .slice A2 n2 c2] 34)).heap.size = w.heap.size + 1 by simp] at h1
      rw [← hX]; exact (h1.alloc _)
    have hc2 : Cb X (w.heap.size + 1 + 1) 34 [.int .i64 0, .int .i64 0, .int .i64 0, .bool false, .string ⟨#[]⟩, .slice none 0 0, .int .i64 0, .int .i64 0, .int .i64 0, .slice none 0 0] := by
      have h1 := Cb.new ((w.alloc (.cells #[.int .i64 m.c.id, .int .i64 m.c.pr, .int .i64 m.c.ev, .bool m.c.pre, .string m.c.fr, .slice A n c, .int .i64 m.st, .int .i64 m.pace, .int .i64 m.wt, .slice A2 n2 c2] 34)).alloc (.cells #[.int .i64 kd, .int .i64 on, .string fr1, .int .i64 ai, .int .i64 ap, .int .i64 ae, .slice A3 n3 c3] 41)) [.int .i64 0, .int .i64 0, .int .i64 0, .bool false, .string ⟨#[]⟩, .slice none 0 0, .int .i64 0, .int .i64 0, .int .i64 0, .slice none 0 0] 34
      rw [show ((w.alloc (.cells #[.int .i64 m.c.id, .int .i64 m.c.pr, .int .i64 m.c.ev, .bool m.c.pre, .string m.c.fr, .slice A n c, .int .i64 m.st, .int .i64 m.pace, .int .i64 m.wt, .slice A2 n2 c2] 34)).alloc (.cells #[.int .i64 kd, .int .i64 on, .string fr1, .int .i64 ai, .int .i64 ap, .int .i64 ae, .slice A3 n3 c3] 41)).heap.size = w.heap.size + 1 + 1 by simp] at h1
      rw [← hX]; exact h1
    have HROW := Lib.hid (hrow.below hbX)
    have HBX := Lib.hid hbX
    have HC0 := Lib.hid hc0
    have HC1 := Lib.hid hc1
    have HC2 := Lib.hid hc2
    have HBB : Hid (b ≤ w.heap.size) := Lib.hid hb
    have HLE := Lib.hid hlen
    have HXS := Lib.hid hXs
    subst hX
    clear hbX hrow hb hlen hXs hc0 hc1 hc2
    have HY := Lib.hid (rtake_any HROW.out (Nat.le_trans HBB.out HBX.out.size) (by have := HLE.out; omega) hok fr1 ⟨ai, ap, ae, ax⟩ A3 n3 c3)
    clear HROW hok
    go_enter Try.func14, Try.ntmps14
    go_wp2_with fail
    refine HY.out.mono ?_
    rintro e w5 ⟨vo5, rfl, hr5, hb5⟩
    obtain ⟨a5, k5, c5, rfl⟩ := hr5.letters
    have hc5 := HC0.out.below hb5
    have ht5 := HC2.out.below hb5
    have hB5 := below_then HBX.out HBX.out.size hb5
    obtain ⟨w6, hst6, hcb6, ho6⟩ := store34 hc5 rfl (takeM m fr1 ⟨ai, ap, ae, ax⟩).c.id (takeM m fr1 ⟨ai, ap, ae, ax⟩).c.pr (takeM m fr1 ⟨ai, ap, ae, ax⟩).c.ev (takeM m fr1 ⟨ai, ap, ae, ax⟩).c.pre (takeM m fr1 ⟨ai, ap, ae, ax⟩).c.fr (.slice A n c) (takeM m fr1 ⟨ai, ap, ae, ax⟩).st (takeM m fr1 ⟨ai, ap, ae, ax⟩).pace (takeM m fr1 ⟨ai, ap, ae, ax⟩).wt (.slice a5 k5 c5) rfl rfl
    have HT6 := Lib.hid (ht5.only ho6 (by omega))
    have HB6 := Lib.hid (only_below hB5 ho6 (Nat.le_refl _))
    have HR6 := Lib.hid (hr5.put ho6 hc5)
    obtain ⟨y0, y1, y2, y3, y4, y5, y6, y7, y8, y9⟩ := hcb6.ten
    clear hr5 hb5 HBX HY hc5 ht5 hB5 ho6 hcb6 HC0 HC1 HC2
    obtain ⟨wz, hstz, hcbz, hoz⟩ := store34 HT6.out rfl (takeM m fr1 ⟨ai, ap, ae, ax⟩).c.id (takeM m fr1 ⟨ai, ap, ae, ax⟩).c.pr (takeM m fr1 ⟨ai, ap, ae, ax⟩).c.ev (takeM m fr1 ⟨ai, ap, ae, ax⟩).c.pre (takeM m fr1 ⟨ai, ap, ae, ax⟩).c.fr (.slice A n c) (takeM m fr1 ⟨ai, ap, ae, ax⟩).st (takeM m fr1 ⟨ai, ap, ae, ax⟩).pace (takeM m fr1 ⟨ai, ap, ae, ax⟩).wt (.slice a5 k5 c5) rfl rfl
    have HRZ := Lib.hid (HR6.out.put hoz HT6.out)
    have HBZ := Lib.hid (only_below HB6.out hoz (by omega))
    obtain ⟨g0, g1, g2, g3, g4, g5, g6, g7, g8, g9⟩ := hcbz.ten
    clear hcbz hoz 
    go_wp2
    refine bodyPost_ret (v := .agg #[.int .i64 (takeM m fr1 ⟨ai, ap, ae, ax⟩).c.id, .int .i64 (takeM m fr1 ⟨ai, ap, ae, ax⟩).c.pr, .int .i64 (takeM m fr1 ⟨ai, ap, ae, ax⟩).c.ev, .bool (takeM m fr1 ⟨ai, ap, ae, ax⟩).c.pre, .string (takeM m fr1 ⟨ai, ap, ae, ax⟩).c.fr, .slice A n c, .int .i64 (takeM m fr1 ⟨ai, ap, ae, ax⟩).st, .int .i64 (takeM m fr1 ⟨ai, ap, ae, ax⟩).pace, .int .i64 (takeM m fr1 ⟨ai, ap, ae, ax⟩).wt, (.slice a5 k5 c5)]) (by simp [results, Try.results14, go_sem, g0, g1, g2, g3, g4, g5, g6, g7, g8, g9]) rfl ⟨_, rfl, HRZ.out, HBZ.out⟩
  have u3 : (kd == 3) = false := beq_eq_false_iff_ne.2 h3
  by_cases h4 : kd = 4
  · have u4 : (kd == 4) = true := beq_iff_eq.2 h4
    rw [do_4 (o := ⟨kd, on, fr1, ⟨ai, ap, ae, ax⟩⟩) h4]
    clear h0 h1 h2 h3 h4 hok
    by_cases hn1 : 1 ≤ on
    · have u5 : decide (on ≥ 1) = true := decide_eq_true hn1
      have u5' : decide (1 ≤ on) = true := decide_eq_true hn1
      by_cases hn2 : on ≤ 255
      · have u6 : decide (on ≤ 255) = true := decide_eq_true hn2
        rw [show setM m (⟨kd, on, fr1, ⟨ai, ap, ae, ax⟩⟩ : Oq).n = { m with c := { m.c with pr := on } } by unfold setM; rw [if_pos ⟨hn1, hn2⟩]]
        clear hn1 hn2
        generalize hX : (((w.alloc (.cells #[.int .i64 m.c.id, .int .i64 on, .int .i64 m.c.ev, .bool m.c.pre, .string m.c.fr, .slice A n c, .int .i64 m.st, .int .i64 m.pace, .int .i64 m.wt, .slice A2 n2 c2] 34)).alloc (.cells #[.int .i64 kd, .int .i64 on, .string fr1, .int .i64 ai, .int .i64 ap, .int .i64 ae, .slice A3 n3 c3] 41)).alloc (.cells #[.int .i64 0, .int .i64 0, .int .i64 0, .bool false, .string ⟨#[]⟩, .slice none 0 0, .int .i64 0, .int .i64 0, .int .i64 0, .slice none 0 0] 34)) = X
        have hXs : X.heap.size = w.heap.size + 1 + 1 + 1 := by rw [← hX]; simp
        have hbX : Below w.heap.size w X := by rw [← hX]; exact below_alloc (below_alloc (below_alloc (Below.refl _ _) _) _) _
        have hc0 : Cb X (w.heap.size) 34 [.int .i64 m.c.id, .int .i64 on, .int .i64 m.c.ev, .bool m.c.pre, .string m.c.fr, .slice A n c, .int .i64 m.st, .int .i64 m.pace, .int .i64 m.wt, .slice A2 n2 c2] := by
          have h1 := Cb.new w [.int .i64 m.c.id, .int .i64 on, .int .i64 m.c.ev, .bool m.c.pre, .string m.c.fr, .slice A n c, .int .i64 m.st, .int .i64 m.pace, .int .i64 m.wt, .slice A2 n2 c2] 34
          rw [show w.heap.size = w.heap.size by simp] at h1
          rw [← hX]; exact ((h1.alloc _).alloc _)
        have hc1 : Cb X (w.heap.size + 1) 41 [.int .i64 kd, .int .i64 on, .string fr1, .int .i64 ai, .int .i64 ap, .int .i64 ae, .slice A3 n3 c3] := by
          have h1 := Cb.new (w.alloc (.cells #[.int .i64 m.c.id, .int .i64 on, .int .i64 m.c.ev, .bool m.c.pre, .string m.c.fr, .slice A n c, .int .i64 m.st, .int .i64 m.pace, .int .i64 m.wt, .slice A2 n2 c2] 34)) [.int .i64 kd, .int .i64 on, .string fr1, .int .i64 ai, .int .i64 ap, .int .i64 ae, .slice A3 n3 c3] 41
          rw [show (w.alloc (.cells #[.int .i64 m.c.id, .int .i64 on, .int .i64 m.c.ev, .bool m.c.pre, .string m.c.fr, .slice A n c, .int .i64 m.st, .int .i64 m.pace, .int .i64 m.wt, .slice A2 n2 c2] 34)).heap.size = w.heap.size + 1 by simp] at h1
          rw [← hX]; exact (h1.alloc _)
        have hc2 : Cb X (w.heap.size + 1 + 1) 34 [.int .i64 0, .int .i64 0, .int .i64 0, .bool false, .string ⟨#[]⟩, .slice none 0 0, .int .i64 0, .int .i64 0, .int .i64 0, .slice none 0 0] := by
          have h1 := Cb.new ((w.alloc (.cells #[.int .i64 m.c.id, .int .i64 on, .int .i64 m.c.ev, .bool m.c.pre, .string m.c.fr, .slice A n c, .int .i64 m.st, .int .i64 m.pace, .int .i64 m.wt, .slice A2 n2 c2] 34)).alloc (.cells #[.int .i64 kd, .int .i64 on, .string fr1, .int .i64 ai, .int .i64 ap, .int .i64 ae, .slice A3 n3 c3] 41)) [.int .i64 0, .int .i64 0, .int .i64 0, .bool false, .string ⟨#[]⟩, .slice none 0 0, .int .i64 0, .int .i64 0, .int .i64 0, .slice none 0 0] 34
          rw [show ((w.alloc (.cells #[.int .i64 m.c.id, .int .i64 on, .int .i64 m.c.ev, .bool m.c.pre, .string m.c.fr, .slice A n c, .int .i64 m.st, .int .i64 m.pace, .int .i64 m.wt, .slice A2 n2 c2] 34)).alloc (.cells #[.int .i64 kd, .int .i64 on, .string fr1, .int .i64 ai, .int .i64 ap, .int .i64 ae, .slice A3 n3 c3] 41)).heap.size = w.heap.size + 1 + 1 by simp] at h1
          rw [← hX]; exact h1
        have HROW := Lib.hid (hrow.below hbX)
        have HBX := Lib.hid hbX
        have HC0 := Lib.hid hc0
        have HC1 := Lib.hid hc1
        have HC2 := Lib.hid hc2
        have HBB : Hid (b ≤ w.heap.size) := Lib.hid hb
        have HLE := Lib.hid hlen
        have HXS := Lib.hid hXs
        subst hX
        clear hbX hrow hb hlen hXs hc0 hc1 hc2
        obtain ⟨wz, hstz, hcbz, hoz⟩ := store34 HC2.out rfl m.c.id on m.c.ev m.c.pre m.c.fr (.slice A n c) m.st m.pace m.wt (.slice A2 n2 c2) rfl rfl
        have HRZ := Lib.hid (HROW.out.put hoz HC2.out)
        have HBZ := Lib.hid (only_below HBX.out hoz (by omega))
        obtain ⟨g0, g1, g2, g3, g4, g5, g6, g7, g8, g9⟩ := hcbz.ten
        clear hcbz hoz HC0 HC1 HC2 HBX HROW
        go_enter Try.func14, Try.ntmps14
        go_wp2
        refine bodyPost_ret (v := .agg #[.int .i64 m.c.id, .int .i64 on, .int .i64 m.c.ev, .bool m.c.pre, .string m.c.fr, .slice A n c, .int .i64 m.st, .int .i64 m.pace, .int .i64 m.wt, .slice A2 n2 c2]) (by simp [results, Try.results14, go_sem, g0, g1, g2, g3, g4, g5, g6, g7, g8, g9]) rfl ⟨_, rfl, HRZ.out, HBZ.out⟩
      · have u6 : decide (on ≤ 255) = false := decide_eq_false hn2
        rw [show setM m (⟨kd, on, fr1, ⟨ai, ap, ae, ax⟩⟩ : Oq).n = m by unfold setM; rw [if_neg (fun h => hn2 h.2)]]
        clear hn1 hn2
        generalize hX : (((w.alloc (.cells #[.int .i64 m.c.id, .int .i64 m.c.pr, .int .i64 m.c.ev, .bool m.c.pre, .string m.c.fr, .slice A n c, .int .i64 m.st, .int .i64 m.pace, .int .i64 m.wt, .slice A2 n2 c2] 34)).alloc (.cells #[.int .i64 kd, .int .i64 on, .string fr1, .int .i64 ai, .int .i64 ap, .int .i64 ae, .slice A3 n3 c3] 41)).alloc (.cells #[.int .i64 0, .int .i64 0, .int .i64 0, .bool false, .string ⟨#[]⟩, .slice none 0 0, .int .i64 0, .int .i64 0, .int .i64 0, .slice none 0 0] 34)) = X
        have hXs : X.heap.size = w.heap.size + 1 + 1 + 1 := by rw [← hX]; simp
        have hbX : Below w.heap.size w X := by rw [← hX]; exact below_alloc (below_alloc (below_alloc (Below.refl _ _) _) _) _
        have hc0 : Cb X (w.heap.size) 34 [.int .i64 m.c.id, .int .i64 m.c.pr, .int .i64 m.c.ev, .bool m.c.pre, .string m.c.fr, .slice A n c, .int .i64 m.st, .int .i64 m.pace, .int .i64 m.wt, .slice A2 n2 c2] := by
          have h1 := Cb.new w [.int .i64 m.c.id, .int .i64 m.c.pr, .int .i64 m.c.ev, .bool m.c.pre, .string m.c.fr, .slice A n c, .int .i64 m.st, .int .i64 m.pace, .int .i64 m.wt, .slice A2 n2 c2] 34
          rw [show w.heap.size = w.heap.size by simp] at h1
          rw [← hX]; exact ((h1.alloc _).alloc _)
        have hc1 : Cb X (w.heap.size + 1) 41 [.int .i64 kd, .int .i64 on, .string fr1, .int .i64 ai, .int .i64 ap, .int .i64 ae, .slice A3 n3 c3] := by
          have h1 := Cb.new (w.alloc (.cells #[.int .i64 m.c.id, .int .i64 m.c.pr, .int .i64 m.c.ev, .bool m.c.pre, .string m.c.fr, .slice A n c, .int .i64 m.st, .int .i64 m.pace, .int .i64 m.wt, .slice A2 n2 c2] 34)) [.int .i64 kd, .int .i64 on, .string fr1, .int .i64 ai, .int .i64 ap, .int .i64 ae, .slice A3 n3 c3] 41
          rw [show (w.alloc (.cells #[.int .i64 m.c.id, .int .i64 m.c.pr, .int .i64 m.c.ev, .bool m.c.pre, .string m.c.fr, .slice A n c, .int .i64 m.st, .int .i64 m.pace, .int .i64 m.wt, .slice A2 n2 c2] 34)).heap.size = w.heap.size + 1 by simp] at h1
          rw [← hX]; exact (h1.alloc _)
        have hc2 : Cb X (w.heap.size + 1 + 1) 34 [.int .i64 0, .int .i64 0, .int .i64 0, .bool false, .string ⟨#[]⟩, .slice none 0 0, .int .i64 0, .int .i64 0, .int .i64 0, .slice none 0 0] := by
          have h1 := Cb.new ((w.alloc (.cells #[.int .i64 m.c.id, .int .i64 m.c.pr, .int .i64 m.c.ev, .bool m.c.pre, .string m.c.fr, .slice A n c, .int .i64 m.st, .int .i64 m.pace, .int .i64 m.wt, .slice A2 n2 c2] 34)).alloc (.cells #[.int .i64 kd, .int .i64 on, .string fr1, .int .i64 ai, .int .i64 ap, .int .i64 ae, .slice A3 n3 c3] 41)) [.int .i64 0, .int .i64 0, .int .i64 0, .bool false, .string ⟨#[]⟩, .slice none 0 0, .int .i64 0, .int .i64 0, .int .i64 0, .slice none 0 0] 34
          rw [show ((w.alloc (.cells #[.int .i64 m.c.id, .int .i64 m.c.pr, .int .i64 m.c.ev, .bool m.c.pre, .string m.c.fr, .slice A n c, .int .i64 m.st, .int .i64 m.pace, .int .i64 m.wt, .slice A2 n2 c2] 34)).alloc (.cells #[.int .i64 kd, .int .i64 on, .string fr1, .int .i64 ai, .int .i64 ap, .int .i64 ae, .slice A3 n3 c3] 41)).heap.size = w.heap.size + 1 + 1 by simp] at h1
          rw [← hX]; exact h1
        have HROW := Lib.hid (hrow.below hbX)
        have HBX := Lib.hid hbX
        have HC0 := Lib.hid hc0
        have HC1 := Lib.hid hc1
        have HC2 := Lib.hid hc2
        have HBB : Hid (b ≤ w.heap.size) := Lib.hid hb
        have HLE := Lib.hid hlen
        have HXS := Lib.hid hXs
        subst hX
        clear hbX hrow hb hlen hXs hc0 hc1 hc2
        obtain ⟨wz, hstz, hcbz, hoz⟩ := store34 HC2.out rfl m.c.id m.c.pr m.c.ev m.c.pre m.c.fr (.slice A n c) m.st m.pace m.wt (.slice A2 n2 c2) rfl rfl
        have HRZ := Lib.hid (HROW.out.put hoz HC2.out)
        have HBZ := Lib.hid (only_below HBX.out hoz (by omega))
        obtain ⟨g0, g1, g2, g3, g4, g5, g6, g7, g8, g9⟩ := hcbz.ten
        clear hcbz hoz HC0 HC1 HC2 HBX HROW
        go_enter Try.func14, Try.ntmps14
        go_wp2
        refine bodyPost_ret (v := .agg #[.int .i64 m.c.id, .int .i64 m.c.pr, .int .i64 m.c.ev, .bool m.c.pre, .string m.c.fr, .slice A n c, .int .i64 m.st, .int .i64 m.pace, .int .i64 m.wt, .slice A2 n2 c2]) (by simp [results, Try.results14, go_sem, g0, g1, g2, g3, g4, g5, g6, g7, g8, g9]) rfl ⟨_, rfl, HRZ.out, HBZ.out⟩
    · have u5 : decide (on ≥ 1) = false := decide_eq_false hn1
      have u5' : decide (1 ≤ on) = false := decide_eq_false hn1
      rw [show setM m (⟨kd, on, fr1, ⟨ai, ap, ae, ax⟩⟩ : Oq).n = m by unfold setM; rw [if_neg (fun h => hn1 h.1)]]
      clear hn1
      generalize hX : (((w.alloc (.cells #[.int .i64 m.c.id, .int .i64 m.c.pr, .int .i64 m.c.ev, .bool m.c.pre, .string m.c.fr, .slice A n c, .int .i64 m.st, .int .i64 m.pace, .int .i64 m.wt, .slice A2 n2 c2] 34)).alloc (.cells #[.int .i64 kd, .int .i64 on, .string fr1, .int .i64 ai, .int .i64 ap, .int .i64 ae, .slice A3 n3 c3] 41)).alloc (.cells #[.int .i64 0, .int .i64 0, .int .i64 0, .bool false, .string ⟨#[]⟩, .slice none 0 0, .int .i64 0, .int .i64 0, .int .i64 0, .slice none 0 0] 34)) = X
      have hXs : X.heap.size = w.heap.size + 1 + 1 + 1 := by rw [← hX]; simp
      have hbX : Below w.heap.size w X := by rw [← hX]; exact below_alloc (below_alloc (below_alloc (Below.refl _ _) _) _) _
      have hc0 : Cb X (w.heap.size) 34 [.int .i64 m.c.id, .int .i64 m.c.pr, .int .i64 m.c.ev, .bool m.c.pre, .string m.c.fr, .slice A n c, .int .i64 m.st, .int .i64 m.pace, .int .i64 m.wt, .slice A2 n2 c2] := by
        have h1 := Cb.new w [.int .i64 m.c.id, .int .i64 m.c.pr, .int .i64 m.c.ev, .bool m.c.pre, .string m.c.fr, .slice A n c, .int .i64 m.st, .int .i64 m.pace, .int .i64 m.wt, .slice A2 n2 c2] 34
        rw [show w.heap.size = w.heap.size by simp] at h1
        rw [← hX]; exact ((h1.alloc _).alloc _)
      have hc1 : Cb X (w.heap.size + 1) 41 [.int .i64 kd, .int .i64 on, .string fr1, .int .i64 ai, .int .i64 ap, .int .i64 ae, .slice A3 n3 c3] := by
        have h1 := Cb.new (w.alloc (.cells #[.int .i64 m.c.id, .int .i64 m.c.pr, .int .i64 m.c.ev, .bool m.c.pre, .string m.c.fr, .slice A n c, .int .i64 m.st, .int .i64 m.pace, .int .i64 m.wt, .slice A2 n2 c2] 34)) [.int .i64 kd, .int .i64 on, .string fr1, .int .i64 ai, .int .i64 ap, .int .i64 ae, .slice A3 n3 c3] 41
        rw [show (w.alloc (.cells #[.int .i64 m.c.id, .int .i64 m.c.pr, .int .i64 m.c.ev, .bool m.c.pre, .string m.c.fr, .slice A n c, .int .i64 m.st, .int .i64 m.pace, .int .i64 m.wt, .slice A2 n2 c2] 34)).heap.size = w.heap.size + 1 by simp] at h1
        rw [← hX]; exact (h1.alloc _)
      have hc2 : Cb X (w.heap.size + 1 + 1) 34 [.int .i64 0, .int .i64 0, .int .i64 0, .bool false, .string ⟨#[]⟩, .slice none 0 0, .int .i64 0, .int .i64 0, .int .i64 0, .slice none 0 0] := by
        have h1 := Cb.new ((w.alloc (.cells #[.int .i64 m.c.id, .int .i64 m.c.pr, .int .i64 m.c.ev, .bool m.c.pre, .string m.c.fr, .slice A n c, .int .i64 m.st, .int .i64 m.pace, .int .i64 m.wt, .slice A2 n2 c2] 34)).alloc (.cells #[.int .i64 kd, .int .i64 on, .string fr1, .int .i64 ai, .int .i64 ap, .int .i64 ae, .slice A3 n3 c3] 41)) [.int .i64 0, .int .i64 0, .int .i64 0, .bool false, .string ⟨#[]⟩, .slice none 0 0, .int .i64 0, .int .i64 0, .int .i64 0, .slice none 0 0] 34
        rw [show ((w.alloc (.cells #[.int .i64 m.c.id, .int .i64 m.c.pr, .int .i64 m.c.ev, .bool m.c.pre, .string m.c.fr, .slice A n c, .int .i64 m.st, .int .i64 m.pace, .int .i64 m.wt, .slice A2 n2 c2] 34)).alloc (.cells #[.int .i64 kd, .int .i64 on, .string fr1, .int .i64 ai, .int .i64 ap, .int .i64 ae, .slice A3 n3 c3] 41)).heap.size = w.heap.size + 1 + 1 by simp] at h1
        rw [← hX]; exact h1
      have HROW := Lib.hid (hrow.below hbX)
      have HBX := Lib.hid hbX
      have HC0 := Lib.hid hc0
      have HC1 := Lib.hid hc1
      have HC2 := Lib.hid hc2
      have HBB : Hid (b ≤ w.heap.size) := Lib.hid hb
      have HLE := Lib.hid hlen
      have HXS := Lib.hid hXs
      subst hX
      clear hbX hrow hb hlen hXs hc0 hc1 hc2
      obtain ⟨wz, hstz, hcbz, hoz⟩ := store34 HC2.out rfl m.c.id m.c.pr m.c.ev m.c.pre m.c.fr (.slice A n c) m.st m.pace m.wt (.slice A2 n2 c2) rfl rfl
      have HRZ := Lib.hid (HROW.out.put hoz HC2.out)
      have HBZ := Lib.hid (only_below HBX.out hoz (by omega))
      obtain ⟨g0, g1, g2, g3, g4, g5, g6, g7, g8, g9⟩ := hcbz.ten
      clear hcbz hoz HC0 HC1 HC2 HBX HROW
      go_enter Try.func14, Try.ntmps14
      go_wp2
      refine bodyPost_ret (v := .agg #[.int .i64 m.c.id, .int .i64 m.c.pr, .int .i64 m.c.ev, .bool m.c.pre, .string m.c.fr, .slice A n c, .int .i64 m.st, .int .i64 m.pace, .int .i64 m.wt, .slice A2 n2 c2]) (by simp [results, Try.results14, go_sem, g0, g1, g2, g3, g4, g5, g6, g7, g8, g9]) rfl ⟨_, rfl, HRZ.out, HBZ.out⟩
  have u4 : (kd == 4) = false := beq_eq_false_iff_ne.2 h4
  rw [do_9 (o := ⟨kd, on, fr1, ⟨ai, ap, ae, ax⟩⟩) h0 h1 h2 h3 h4]
  clear h0 h1 h2 h3 h4 hok
  generalize hX : (((w.alloc (.cells #[.int .i64 m.c.id, .int .i64 m.c.pr, .int .i64 m.c.ev, .bool m.c.pre, .string m.c.fr, .slice A n c, .int .i64 m.st, .int .i64 m.pace, .int .i64 m.wt, .slice A2 n2 c2] 34)).alloc (.cells #[.int .i64 kd, .int .i64 on, .string fr1, .int .i64 ai, .int .i64 ap, .int .i64 ae, .slice A3 n3 c3] 41)).alloc (.cells #[.int .i64 0, .int .i64 0, .int .i64 0, .bool false, .string ⟨#[]⟩, .slice none 0 0, .int .i64 0, .int .i64 0, .int .i64 0, .slice none 0 0] 34)) = X
  have hXs : X.heap.size = w.heap.size + 1 + 1 + 1 := by rw [← hX]; simp
  have hbX : Below w.heap.size w X := by rw [← hX]; exact below_alloc (below_alloc (below_alloc (Below.refl _ _) _) _) _
  have hc0 : Cb X (w.heap.size) 34 [.int .i64 m.c.id, .int .i64 m.c.pr, .int .i64 m.c.ev, .bool m.c.pre, .string m.c.fr, .slice A n c, .int .i64 m.st, .int .i64 m.pace, .int .i64 m.wt, .slice A2 n2 c2] := by
    have h1 := Cb.new w [.int .i64 m.c.id, .int .i64 m.c.pr, .int .i64 m.c.ev, .bool m.c.pre, .string m.c.fr, .slice A n c, .int .i64 m.st, .int .i64 m.pace, .int .i64 m.wt, .slice A2 n2 c2] 34
    rw [show w.heap.size = w.heap.size by simp] at h1
    rw [← hX]; exact ((h1.alloc _).alloc _)
  have hc1 : Cb X (w.heap.size + 1) 41 [.int .i64 kd, .int .i64 on, .string fr1, .int .i64 ai, .int .i64 ap, .int .i64 ae, .slice A3 n3 c3] := by
    have h1 := Cb.new (w.alloc (.cells #[.int .i64 m.c.id, .int .i64 m.c.pr, .int .i64 m.c.ev, .bool m.c.pre, .string m.c.fr, .slice A n c, .int .i64 m.st, .int .i64 m.pace, .int .i64 m.wt, .slice A2 n2 c2] 34)) [.int .i64 kd, .int .i64 on, .string fr1, .int .i64 ai, .int .i64 ap, .int .i64 ae, .slice A3 n3 c3] 41
    rw [show (w.alloc (.cells #[.int .i64 m.c.id, .int .i64 m.c.pr, .int .i64 m.c.ev, .bool m.c.pre, .string m.c.fr, .slice A n c, .int .i64 m.st, .int .i64 m.pace, .int .i64 m.wt, .slice A2 n2 c2] 34)).heap.size = w.heap.size + 1 by simp] at h1
    rw [← hX]; exact (h1.alloc _)
  have hc2 : Cb X (w.heap.size + 1 + 1) 34 [.int .i64 0, .int .i64 0, .int .i64 0, .bool false, .string ⟨#[]⟩, .slice none 0 0, .int .i64 0, .int .i64 0, .int .i64 0, .slice none 0 0] := by
    have h1 := Cb.new ((w.alloc (.cells #[.int .i64 m.c.id, .int .i64 m.c.pr, .int .i64 m.c.ev, .bool m.c.pre, .string m.c.fr, .slice A n c, .int .i64 m.st, .int .i64 m.pace, .int .i64 m.wt, .slice A2 n2 c2] 34)).alloc (.cells #[.int .i64 kd, .int .i64 on, .string fr1, .int .i64 ai, .int .i64 ap, .int .i64 ae, .slice A3 n3 c3] 41)) [.int .i64 0, .int .i64 0, .int .i64 0, .bool false, .string ⟨#[]⟩, .slice none 0 0, .int .i64 0, .int .i64 0, .int .i64 0, .slice none 0 0] 34
    rw [show ((w.alloc (.cells #[.int .i64 m.c.id, .int .i64 m.c.pr, .int .i64 m.c.ev, .bool m.c.pre, .string m.c.fr, .slice A n c, .int .i64 m.st, .int .i64 m.pace, .int .i64 m.wt, .slice A2 n2 c2] 34)).alloc (.cells #[.int .i64 kd, .int .i64 on, .string fr1, .int .i64 ai, .int .i64 ap, .int .i64 ae, .slice A3 n3 c3] 41)).heap.size = w.heap.size + 1 + 1 by simp] at h1
    rw [← hX]; exact h1
  have HROW := Lib.hid (hrow.below hbX)
  have HBX := Lib.hid hbX
  have HC0 := Lib.hid hc0
  have HC1 := Lib.hid hc1
  have HC2 := Lib.hid hc2
  have HBB : Hid (b ≤ w.heap.size) := Lib.hid hb
  have HLE := Lib.hid hlen
  have HXS := Lib.hid hXs
  subst hX
  clear hbX hrow hb hlen hXs hc0 hc1 hc2
  obtain ⟨wz, hstz, hcbz, hoz⟩ := store34 HC2.out rfl m.c.id m.c.pr m.c.ev m.c.pre m.c.fr (.slice A n c) m.st m.pace m.wt (.slice A2 n2 c2) rfl rfl
  have HRZ := Lib.hid (HROW.out.put hoz HC2.out)
  have HBZ := Lib.hid (only_below HBX.out hoz (by omega))
  obtain ⟨g0, g1, g2, g3, g4, g5, g6, g7, g8, g9⟩ := hcbz.ten
  clear hcbz hoz HC0 HC1 HC2 HBX HROW
  go_enter Try.func14, Try.ntmps14
  go_wp2
  refine bodyPost_ret (v := .agg #[.int .i64 m.c.id, .int .i64 m.c.pr, .int .i64 m.c.ev, .bool m.c.pre, .string m.c.fr, .slice A n c, .int .i64 m.st, .int .i64 m.pace, .int .i64 m.wt, .slice A2 n2 c2]) (by simp [results, Try.results14, go_sem, g0, g1, g2, g3, g4, g5, g6, g7, g8, g9]) rfl ⟨_, rfl, HRZ.out, HBZ.out⟩
end Go.Proofs.Ytpcdaidgijkkbaa
