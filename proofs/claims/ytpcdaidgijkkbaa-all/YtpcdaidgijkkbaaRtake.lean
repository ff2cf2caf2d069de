/-
  The reference: Take.
-/
import Derived.Test.YtpcdaidgijkkbaaRop
namespace Go.Proofs.Ytpcdaidgijkkbaa
open Go.RowKit Go.Maps
set_option linter.unusedVariables false
set_option linter.unusedSimpArgs false
set_option maxRecDepth 40000
attribute [local go_sem ↓] bigS34
attribute [local go_sem ↓] bigS78

theorem take_one {m : Mc} {f : ByteArray} {a : Av} (h : m.st = 1) : takeM m f a = m := by unfold takeM; rw [if_neg (by omega : ¬ m.st = 2), if_neg (by omega : ¬ m.st = 3)]; split <;> rfl
theorem take_id {m : Mc} {f : ByteArray} {a : Av} (h : ¬ a.id = m.c.id) : takeM m f a = m := by unfold takeM; rw [if_neg h]
theorem take_two {m : Mc} {f : ByteArray} {a : Av} (h : a.id = m.c.id) (h2 : m.st = 2) : takeM m f a = hearM m a := by unfold takeM; rw [if_pos h, if_pos h2]
theorem take_three {m : Mc} {f : ByteArray} {a : Av} (h : a.id = m.c.id) (h3 : m.st = 3) : takeM m f a = meetM m f a := by unfold takeM; rw [if_pos h, if_neg (by omega), if_pos h3]

set_option maxHeartbeats 8000000 in
/-- The reference's Take. -/
theorem rtake_any {b : Nat} {A : Option Addr} {n c : Nat} {w : World} {m : Mc} {vo : Value} (hrow : Rw b w vo A n c m.out) (hb : b ≤ w.heap.size) (hlen : m.out.length ≤ 274877906944) (hok : OkM m) (f : ByteArray) (a : Av) (A3 : Option Addr) (n3 c3 : Nat) :
    Calls Try.prog 38 #[.agg #[.int .i64 m.c.id, .int .i64 m.c.pr, .int .i64 m.c.ev, .bool m.c.pre, .string m.c.fr, .slice A n c, .int .i64 m.st, .int .i64 m.pace, .int .i64 m.wt, vo], .string f, .agg #[.int .i64 a.id, .int .i64 a.pr, .int .i64 a.ev, .slice A3 n3 c3]] w fun e w' => ∃ vo', e = .returned (.agg #[.int .i64 (takeM m f a).c.id, .int .i64 (takeM m f a).c.pr, .int .i64 (takeM m f a).c.ev, .bool (takeM m f a).c.pre, .string (takeM m f a).c.fr, .slice A n c, .int .i64 (takeM m f a).st, .int .i64 (takeM m f a).pace, .int .i64 (takeM m f a).wt, vo']) ∧ Rw b w' vo' A n c (takeM m f a).out ∧ Below w.heap.size w w' := by
  obtain ⟨A2, n2, c2, rfl⟩ := hrow.letters
  by_cases h1 : m.st = 1
  · rw [take_one h1]
    have e1 : (m.st == 1) = true := beq_iff_eq.2 h1
    clear h1 hok
    generalize hX : (((w.alloc (.cells #[.int .i64 m.c.id, .int .i64 m.c.pr, .int .i64 m.c.ev, .bool m.c.pre, .string m.c.fr, .slice A n c, .int .i64 m.st, .int .i64 m.pace, .int .i64 m.wt, .slice A2 n2 c2] 34)).alloc (.cells #[.int .i64 a.id, .int .i64 a.pr, .int .i64 a.ev, .slice A3 n3 c3] 39)).alloc (.cells #[.int .i64 0, .int .i64 0, .int .i64 0, .bool false, .string ⟨#[]⟩, .slice none 0 0, .int .i64 0, .int .i64 0, .int .i64 0, .slice none 0 0] 34)) = X
    have hXs : X.heap.size = w.heap.size + 1 + 1 + 1 := by rw [← hX]; simp
    have hbX : Below w.heap.size w X := by rw [← hX]; exact below_alloc (below_alloc (below_alloc (Below.refl _ _) _) _) _
    have hc0 : Cb X (w.heap.size) 34 [.int .i64 m.c.id, .int .i64 m.c.pr, .int .i64 m.c.ev, .bool m.c.pre, .string m.c.fr, .slice A n c, .int .i64 m.st, .int .i64 m.pace, .int .i64 m.wt, .slice A2 n2 c2] := by
      have h1 := Cb.new w [.int .i64 m.c.id, .int .i64 m.c.pr, .int .i64 m.c.ev, .bool m.c.pre, .string m.c.fr, .slice A n c, .int .i64 m.st, .int .i64 m.pace, .int .i64 m.wt, .slice A2 n2 c2] 34
      rw [show w.heap.size = w.heap.size by simp] at h1
      rw [← hX]; exact ((h1.alloc _).alloc _)
    have hc1 : Cb X (w.heap.size + 1) 39 [.int .i64 a.id, .int .i64 a.pr, .int .i64 a.ev, .slice A3 n3 c3] := by
      have h1 := Cb.new (w.alloc (.cells #[.int .i64 m.c.id, .int .i64 m.c.pr, .int .i64 m.c.ev, .bool m.c.pre, .string m.c.fr, .slice A n c, .int .i64 m.st, .int .i64 m.pace, .int .i64 m.wt, .slice A2 n2 c2] 34)) [.int .i64 a.id, .int .i64 a.pr, .int .i64 a.ev, .slice A3 n3 c3] 39
      rw [show (w.alloc (.cells #[.int .i64 m.c.id, .int .i64 m.c.pr, .int .i64 m.c.ev, .bool m.c.pre, .string m.c.fr, .slice A n c, .int .i64 m.st, .int .i64 m.pace, .int .i64 m.wt, .slice A2 n2 c2] 34)).heap.size = w.heap.size + 1 by simp] at h1
      rw [← hX]; exact (h1.alloc _)
    have hc2 : Cb X (w.heap.size + 1 + 1) 34 [.int .i64 0, .int .i64 0, .int .i64 0, .bool false, .string ⟨#[]⟩, .slice none 0 0, .int .i64 0, .int .i64 0, .int .i64 0, .slice none 0 0] := by
      have h1 := Cb.new ((w.alloc (.cells #[.int .i64 m.c.id, .int .i64 m.c.pr, .int .i64 m.c.ev, .bool m.c.pre, .string m.c.fr, .slice A n c, .int .i64 m.st, .int .i64 m.pace, .int .i64 m.wt, .slice A2 n2 c2] 34)).alloc (.cells #[.int .i64 a.id, .int .i64 a.pr, .int .i64 a.ev, .slice A3 n3 c3] 39)) [.int .i64 0, .int .i64 0, .int .i64 0, .bool false, .string ⟨#[]⟩, .slice none 0 0, .int .i64 0, .int .i64 0, .int .i64 0, .slice none 0 0] 34
      rw [show ((w.alloc (.cells #[.int .i64 m.c.id, .int .i64 m.c.pr, .int .i64 m.c.ev, .bool m.c.pre, .string m.c.fr, .slice A n c, .int .i64 m.st, .int .i64 m.pace, .int .i64 m.wt, .slice A2 n2 c2] 34)).alloc (.cells #[.int .i64 a.id, .int .i64 a.pr, .int .i64 a.ev, .slice A3 n3 c3] 39)).heap.size = w.heap.size + 1 + 1 by simp] at h1
      rw [← hX]; exact h1
    have HROW := Lib.hid (hrow.below hbX)
    have HBX := Lib.hid hbX
    have HC0 := Lib.hid hc0
    have HC1 := Lib.hid hc1
    have HC2 := Lib.hid hc2
    have HBB : Hid (b ≤ w.heap.size) := Lib.hid hb
    have HLE := Lib.hid hlen
    have HXS := Lib.hid hXs
    subst hX
    clear hbX hrow hb hlen hXs hc0 hc1 hc2
    obtain ⟨wz, hstz, hcbz, hoz⟩ := store34 HC2.out rfl m.c.id m.c.pr m.c.ev m.c.pre m.c.fr (.slice A n c) m.st m.pace m.wt (.slice A2 n2 c2) rfl rfl
    have HRZ := Lib.hid (HROW.out.put hoz HC2.out)
    have HBZ := Lib.hid (only_below HBX.out hoz (by omega))
    obtain ⟨g0, g1, g2, g3, g4, g5, g6, g7, g8, g9⟩ := hcbz.ten
    clear hcbz hoz HC0 HC1 HC2 HBX HROW
    go_enter Try.func38, Try.ntmps38
    go_wp2
    refine bodyPost_ret (v := .agg #[.int .i64 m.c.id, .int .i64 m.c.pr, .int .i64 m.c.ev, .bool m.c.pre, .string m.c.fr, .slice A n c, .int .i64 m.st, .int .i64 m.pace, .int .i64 m.wt, .slice A2 n2 c2]) (by simp [results, Try.results38, go_sem, g0, g1, g2, g3, g4, g5, g6, g7, g8, g9]) rfl ⟨_, rfl, HRZ.out, HBZ.out⟩
  have e1 : (m.st == 1) = false := beq_eq_false_iff_ne.2 h1
  by_cases hi : a.id = m.c.id
  case neg =>
    rw [take_id hi]
    have e2 : (a.id != m.c.id) = true := by simpa using hi
    clear h1 hok hi
    generalize hX : (((w.alloc (.cells #[.int .i64 m.c.id, .int .i64 m.c.pr, .int .i64 m.c.ev, .bool m.c.pre, .string m.c.fr, .slice A n c, .int .i64 m.st, .int .i64 m.pace, .int .i64 m.wt, .slice A2 n2 c2] 34)).alloc (.cells #[.int .i64 a.id, .int .i64 a.pr, .int .i64 a.ev, .slice A3 n3 c3] 39)).alloc (.cells #[.int .i64 0, .int .i64 0, .int .i64 0, .bool false, .string ⟨#[]⟩, .slice none 0 0, .int .i64 0, .int .i64 0, .int .i64 0, .slice none 0 0] 34)) = X
    have hXs : X.heap.size = w.heap.size + 1 + 1 + 1 := by rw [← hX]; simp
    have hbX : Below w.heap.size w X := by rw [← hX]; exact below_alloc (below_alloc (below_alloc (Below.refl _ _) _) _) _
    have hc0 : Cb X (w.heap.size) 34 [.int .i64 m.c.id, .int .i64 m.c.pr, .int .i64 m.c.ev, .bool m.c.pre, .string m.c.fr, .slice A n c, .int .i64 m.st, .int .i64 m.pace, .int .i64 m.wt, .slice A2 n2 c2] := by
      have h1 := Cb.new w [.int .i64 m.c.id, .int .i64 m.c.pr, .int .i64 m.c.ev, .bool m.c.pre, .string m.c.fr, .slice A n c, .int .i64 m.st, .int .i64 m.pace, .int .i64 m.wt, .slice A2 n2 c2] 34
      rw [show w.heap.size = w.heap.size by simp] at h1
      rw [← hX]; exact ((h1.alloc _).alloc _)
    have hc1 : Cb X (w.heap.size + 1) 39 [.int .i64 a.id, .int .i64 a.pr, .int .i64 a.ev, .slice A3 n3 c3] := by
      have h1 := Cb.new (w.alloc (.cells #[.int .i64 m.c.id, .int .i64 m.c.pr, .int .i64 m.c.ev, .bool m.c.pre, .string m.c.fr, .slice A n c, .int .i64 m.st, .int .i64 m.pace, .int .i64 m.wt, .slice A2 n2 c2] 34)) [.int .i64 a.id, .int .i64 a.pr, .int .i64 a.ev, .slice A3 n3 c3] 39
      rw [show (w.alloc (.cells #[.int .i64 m.c.id, .int .i64 m.c.pr, .int .i64 m.c.ev, .bool m.c.pre, .string m.c.fr, .slice A n c, .int .i64 m.st, .int .i64 m.pace, .int .i64 m.wt, .slice A2 n2 c2] 34)).heap.size = w.heap.size + 1 by simp] at h1
      rw [← hX]; exact (h1.alloc _)
    have hc2 : Cb X (w.heap.size + 1 + 1) 34 [.int .i64 0, .int .i64 0, .int .i64 0, .bool false, .string ⟨#[]⟩, .slice none 0 0, .int .i64 0, .int .i64 0, .int .i64 0, .slice none 0 0] := by
      have h1 := Cb.new ((w.alloc (.cells #[.int .i64 m.c.id, .int .i64 m.c.pr, .int .i64 m.c.ev, .bool m.c.pre, .string m.c.fr, .slice A n c, .int .i64 m.st, .int .i64 m.pace, .int .i64 m.wt, .slice A2 n2 c2] 34)).alloc (.cells #[.int .i64 a.id, .int .i64 a.pr, .int .i64 a.ev, .slice A3 n3 c3] 39)) [.int .i64 0, .int .i64 0, .int .i64 0, .bool false, .string ⟨#[]⟩, .slice none 0 0, .int .i64 0, .int .i64 0, .int .i64 0, .slice none 0 0] 34
      rw [show ((w.alloc (.cells #[.int .i64 m.c.id, .int .i64 m.c.pr, .int .i64 m.c.ev, .bool m.c.pre, .string m.c.fr, .slice A n c, .int .i64 m.st, .int .i64 m.pace, .int .i64 m.wt, .slice A2 n2 c2] 34)).alloc (.cells #[.int .i64 a.id, .int .i64 a.pr, .int .i64 a.ev, .slice A3 n3 c3] 39)).heap.size = w.heap.size + 1 + 1 by simp] at h1
      rw [← hX]; exact h1
    have HROW := Lib.hid (hrow.below hbX)
    have HBX := Lib.hid hbX
    have HC0 := Lib.hid hc0
    have HC1 := Lib.hid hc1
    have HC2 := Lib.hid hc2
    have HBB : Hid (b ≤ w.heap.size) := Lib.hid hb
    have HLE := Lib.hid hlen
    have HXS := Lib.hid hXs
    subst hX
    clear hbX hrow hb hlen hXs hc0 hc1 hc2
    obtain ⟨wz, hstz, hcbz, hoz⟩ := store34 HC2.out rfl m.c.id m.c.pr m.c.ev m.c.pre m.c.fr (.slice A n c) m.st m.pace m.wt (.slice A2 n2 c2) rfl rfl
    have HRZ := Lib.hid (HROW.out.put hoz HC2.out)
    have HBZ := Lib.hid (only_below HBX.out hoz (by omega))
    obtain ⟨g0, g1, g2, g3, g4, g5, g6, g7, g8, g9⟩ := hcbz.ten
    clear hcbz hoz HC0 HC1 HC2 HBX HROW
    go_enter Try.func38, Try.ntmps38
    go_wp2
    refine bodyPost_ret (v := .agg #[.int .i64 m.c.id, .int .i64 m.c.pr, .int .i64 m.c.ev, .bool m.c.pre, .string m.c.fr, .slice A n c, .int .i64 m.st, .int .i64 m.pace, .int .i64 m.wt, .slice A2 n2 c2]) (by simp [results, Try.results38, go_sem, g0, g1, g2, g3, g4, g5, g6, g7, g8, g9]) rfl ⟨_, rfl, HRZ.out, HBZ.out⟩
  have e2 : (a.id != m.c.id) = false := by simpa using hi
  by_cases h3 : m.st = 3
  · have e4 : (m.st == 3) = true := beq_iff_eq.2 h3
    have e5 : (m.st == 2) = false := beq_eq_false_iff_ne.2 (by omega)
    rw [take_three hi h3]
    clear hok
    by_cases h0 : a.pr = 0
    · have e3 : (a.pr == 0) = true := beq_iff_eq.2 h0
      rw [show meetM m f a = sayM m m.c.pr by unfold meetM; rw [if_pos h0]]
      clear h0 h1 hi h3
      generalize hX : (((w.alloc (.cells #[.int .i64 m.c.id, .int .i64 m.c.pr, .int .i64 m.c.ev, .bool m.c.pre, .string m.c.fr, .slice A n c, .int .i64 m.st, .int .i64 m.pace, .int .i64 m.wt, .slice A2 n2 c2] 34)).alloc (.cells #[.int .i64 a.id, .int .i64 a.pr, .int .i64 a.ev, .slice A3 n3 c3] 39)).alloc (.cells #[.int .i64 0, .int .i64 0, .int .i64 0, .bool false, .string ⟨#[]⟩, .slice none 0 0, .int .i64 0, .int .i64 0, .int .i64 0, .slice none 0 0] 34)) = X
      have hXs : X.heap.size = w.heap.size + 1 + 1 + 1 := by rw [← hX]; simp
      have hbX : Below w.heap.size w X := by rw [← hX]; exact below_alloc (below_alloc (below_alloc (Below.refl _ _) _) _) _
      have hc0 : Cb X (w.heap.size) 34 [.int .i64 m.c.id, .int .i64 m.c.pr, .int .i64 m.c.ev, .bool m.c.pre, .string m.c.fr, .slice A n c, .int .i64 m.st, .int .i64 m.pace, .int .i64 m.wt, .slice A2 n2 c2] := by
        have h1 := Cb.new w [.int .i64 m.c.id, .int .i64 m.c.pr, .int .i64 m.c.ev, .bool m.c.pre, .string m.c.fr, .slice A n c, .int .i64 m.st, .int .i64 m.pace, .int .i64 m.wt, .slice A2 n2 c2] 34
        rw [show w.heap.size = w.heap.size by simp] at h1
        rw [← hX]; exact ((h1.alloc _).alloc _)
      have hc1 : Cb X (w.heap.size + 1) 39 [.int .i64 a.id, .int .i64 a.pr, .int .i64 a.ev, .slice A3 n3 c3] := by
        have h1 := Cb.new (w.alloc (.cells #[.int .i64 m.c.id, .int .i64 m.c.pr, .int .i64 m.c.ev, .bool m.c.pre, .string m.c.fr, .slice A n c, .int .i64 m.st, .int .i64 m.pace, .int .i64 m.wt, .slice A2 n2 c2] 34)) [.int .i64 a.id, .int .i64 a.pr, .int .i64 a.ev, .slice A3 n3 c3] 39
        rw [show (w.alloc (.cells #[.int .i64 m.c.id, .int .i64 m.c.pr, .int .i64 m.c.ev, .bool m.c.pre, .string m.c.fr, .slice A n c, .int .i64 m.st, .int .i64 m.pace, .int .i64 m.wt, .slice A2 n2 c2] 34)).heap.size = w.heap.size + 1 by simp] at h1
        rw [← hX]; exact (h1.alloc _)
      have hc2 : Cb X (w.heap.size + 1 + 1) 34 [.int .i64 0, .int .i64 0, .int .i64 0, .bool false, .string ⟨#[]⟩, .slice none 0 0, .int .i64 0, .int .i64 0, .int .i64 0, .slice none 0 0] := by
        have h1 := Cb.new ((w.alloc (.cells #[.int .i64 m.c.id, .int .i64 m.c.pr, .int .i64 m.c.ev, .bool m.c.pre, .string m.c.fr, .slice A n c, .int .i64 m.st, .int .i64 m.pace, .int .i64 m.wt, .slice A2 n2 c2] 34)).alloc (.cells #[.int .i64 a.id, .int .i64 a.pr, .int .i64 a.ev, .slice A3 n3 c3] 39)) [.int .i64 0, .int .i64 0, .int .i64 0, .bool false, .string ⟨#[]⟩, .slice none 0 0, .int .i64 0, .int .i64 0, .int .i64 0, .slice none 0 0] 34
        rw [show ((w.alloc (.cells #[.int .i64 m.c.id, .int .i64 m.c.pr, .int .i64 m.c.ev, .bool m.c.pre, .string m.c.fr, .slice A n c, .int .i64 m.st, .int .i64 m.pace, .int .i64 m.wt, .slice A2 n2 c2] 34)).alloc (.cells #[.int .i64 a.id, .int .i64 a.pr, .int .i64 a.ev, .slice A3 n3 c3] 39)).heap.size = w.heap.size + 1 + 1 by simp] at h1
        rw [← hX]; exact h1
      have HROW := Lib.hid (hrow.below hbX)
      have HBX := Lib.hid hbX
      have HC0 := Lib.hid hc0
      have HC1 := Lib.hid hc1
      have HC2 := Lib.hid hc2
      have HBB : Hid (b ≤ w.heap.size) := Lib.hid hb
      have HLE := Lib.hid hlen
      have HXS := Lib.hid hXs
      subst hX
      clear hbX hrow hb hlen hXs hc0 hc1 hc2
      have HY := Lib.hid (rsay_any HROW.out (Nat.le_trans HBB.out HBX.out.size) (by have := HLE.out; omega) m.c.pr)
      clear HROW
      go_enter Try.func38, Try.ntmps38
      go_wp2_with fail
      refine HY.out.mono ?_
      rintro e w5 ⟨vo5, rfl, hr5, hb5⟩
      obtain ⟨a5, k5, c5, rfl⟩ := hr5.letters
      have HT5 := Lib.hid (HC2.out.below hb5)
      have HB5 := Lib.hid (below_then HBX.out HBX.out.size hb5)
      have HR5 := Lib.hid hr5
      clear hr5 hb5 HBX HY
      obtain ⟨wz, hstz, hcbz, hoz⟩ := store34 HT5.out rfl (sayM m m.c.pr).c.id (sayM m m.c.pr).c.pr (sayM m m.c.pr).c.ev (sayM m m.c.pr).c.pre (sayM m m.c.pr).c.fr (.slice A n c) (sayM m m.c.pr).st (sayM m m.c.pr).pace (sayM m m.c.pr).wt (.slice a5 k5 c5) rfl rfl
      have HRZ := Lib.hid (HR5.out.put hoz HT5.out)
      have HBZ := Lib.hid (only_below HB5.out hoz (by omega))
      obtain ⟨g0, g1, g2, g3, g4, g5, g6, g7, g8, g9⟩ := hcbz.ten
      clear hcbz hoz 
      go_wp2
      refine bodyPost_ret (v := .agg #[.int .i64 (sayM m m.c.pr).c.id, .int .i64 (sayM m m.c.pr).c.pr, .int .i64 (sayM m m.c.pr).c.ev, .bool (sayM m m.c.pr).c.pre, .string (sayM m m.c.pr).c.fr, .slice A n c, .int .i64 (sayM m m.c.pr).st, .int .i64 (sayM m m.c.pr).pace, .int .i64 (sayM m m.c.pr).wt, (.slice a5 k5 c5)]) (by simp [results, Try.results38, go_sem, g0, g1, g2, g3, g4, g5, g6, g7, g8, g9]) rfl ⟨_, rfl, HRZ.out, HBZ.out⟩
    · have e3 : (a.pr == 0) = false := beq_eq_false_iff_ne.2 h0
      by_cases hg : m.c.pr < a.pr
      · have v1 : decide (a.pr > m.c.pr) = true := decide_eq_true hg
        have v1' : decide (m.c.pr < a.pr) = true := decide_eq_true hg
        have v4 : decide (a.pr ≥ m.c.pr) = true := decide_eq_true (by omega)
        have v4' : decide (m.c.pr ≤ a.pr) = true := decide_eq_true (by omega)
        rw [show meetM m f a = followM m a.ev by unfold meetM; rw [if_neg h0, if_pos (.inl hg)]]
        clear hg h0 h1 hi h3
        generalize hX : (((w.alloc (.cells #[.int .i64 m.c.id, .int .i64 m.c.pr, .int .i64 m.c.ev, .bool m.c.pre, .string m.c.fr, .slice A n c, .int .i64 m.st, .int .i64 m.pace, .int .i64 m.wt, .slice A2 n2 c2] 34)).alloc (.cells #[.int .i64 a.id, .int .i64 a.pr, .int .i64 a.ev, .slice A3 n3 c3] 39)).alloc (.cells #[.int .i64 0, .int .i64 0, .int .i64 0, .bool false, .string ⟨#[]⟩, .slice none 0 0, .int .i64 0, .int .i64 0, .int .i64 0, .slice none 0 0] 34)) = X
        have hXs : X.heap.size = w.heap.size + 1 + 1 + 1 := by rw [← hX]; simp
        have hbX : Below w.heap.size w X := by rw [← hX]; exact below_alloc (below_alloc (below_alloc (Below.refl _ _) _) _) _
        have hc0 : Cb X (w.heap.size) 34 [.int .i64 m.c.id, .int .i64 m.c.pr, .int .i64 m.c.ev, .bool m.c.pre, .string m.c.fr, .slice A n c, .int .i64 m.st, .int .i64 m.pace, .int .i64 m.wt, .slice A2 n2 c2] := by
          have h1 := Cb.new w [.int .i64 m.c.id, .int .i64 m.c.pr, .int .i64 m.c.ev, .bool m.c.pre, .string m.c.fr, .slice A n c, .int .i64 m.st, .int .i64 m.pace, .int .i64 m.wt, .slice A2 n2 c2] 34
          rw [show w.heap.size = w.heap.size by simp] at h1
          rw [← hX]; exact ((h1.alloc _).alloc _)
        have hc1 : Cb X (w.heap.size + 1) 39 [.int .i64 a.id, .int .i64 a.pr, .int .i64 a.ev, .slice A3 n3 c3] := by
          have h1 := Cb.new (w.alloc (.cells #[.int .i64 m.c.id, .int .i64 m.c.pr, .int .i64 m.c.ev, .bool m.c.pre, .string m.c.fr, .slice A n c, .int .i64 m.st, .int .i64 m.pace, .int .i64 m.wt, .slice A2 n2 c2] 34)) [.int .i64 a.id, .int .i64 a.pr, .int .i64 a.ev, .slice A3 n3 c3] 39
          rw [show (w.alloc (.cells #[.int .i64 m.c.id, .int .i64 m.c.pr, .int .i64 m.c.ev, .bool m.c.pre, .string m.c.fr, .slice A n c, .int .i64 m.st, .int .i64 m.pace, .int .i64 m.wt, .slice A2 n2 c2] 34)).heap.size = w.heap.size + 1 by simp] at h1
          rw [← hX]; exact (h1.alloc _)
        have hc2 : Cb X (w.heap.size + 1 + 1) 34 [.int .i64 0, .int .i64 0, .int .i64 0, .bool false, .string ⟨#[]⟩, .slice none 0 0, .int .i64 0, .int .i64 0, .int .i64 0, .slice none 0 0] := by
          have h1 := Cb.new ((w.alloc (.cells #[.int .i64 m.c.id, .int .i64 m.c.pr, .int .i64 m.c.ev, .bool m.c.pre, .string m.c.fr, .slice A n c, .int .i64 m.st, .int .i64 m.pace, .int .i64 m.wt, .slice A2 n2 c2] 34)).alloc (.cells #[.int .i64 a.id, .int .i64 a.pr, .int .i64 a.ev, .slice A3 n3 c3] 39)) [.int .i64 0, .int .i64 0, .int .i64 0, .bool false, .string ⟨#[]⟩, .slice none 0 0, .int .i64 0, .int .i64 0, .int .i64 0, .slice none 0 0] 34
          rw [show ((w.alloc (.cells #[.int .i64 m.c.id, .int .i64 m.c.pr, .int .i64 m.c.ev, .bool m.c.pre, .string m.c.fr, .slice A n c, .int .i64 m.st, .int .i64 m.pace, .int .i64 m.wt, .slice A2 n2 c2] 34)).alloc (.cells #[.int .i64 a.id, .int .i64 a.pr, .int .i64 a.ev, .slice A3 n3 c3] 39)).heap.size = w.heap.size + 1 + 1 by simp] at h1
          rw [← hX]; exact h1
        have HROW := Lib.hid (hrow.below hbX)
        have HBX := Lib.hid hbX
        have HC0 := Lib.hid hc0
        have HC1 := Lib.hid hc1
        have HC2 := Lib.hid hc2
        have HBB : Hid (b ≤ w.heap.size) := Lib.hid hb
        have HLE := Lib.hid hlen
        have HXS := Lib.hid hXs
        subst hX
        clear hbX hrow hb hlen hXs hc0 hc1 hc2
        have HY := Lib.hid (rfollow_any HROW.out (Nat.le_trans HBB.out HBX.out.size) HLE.out a.ev)
        clear HROW
        go_enter Try.func38, Try.ntmps38
        go_wp2_with fail
        refine HY.out.mono ?_
        rintro e w5 ⟨vo5, rfl, hr5, hb5⟩
        obtain ⟨a5, k5, c5, rfl⟩ := hr5.letters
        have HT5 := Lib.hid (HC2.out.below hb5)
        have HB5 := Lib.hid (below_then HBX.out HBX.out.size hb5)
        have HR5 := Lib.hid hr5
        clear hr5 hb5 HBX HY
        obtain ⟨wz, hstz, hcbz, hoz⟩ := store34 HT5.out rfl (followM m a.ev).c.id (followM m a.ev).c.pr (followM m a.ev).c.ev (followM m a.ev).c.pre (followM m a.ev).c.fr (.slice A n c) (followM m a.ev).st (followM m a.ev).pace (followM m a.ev).wt (.slice a5 k5 c5) rfl rfl
        have HRZ := Lib.hid (HR5.out.put hoz HT5.out)
        have HBZ := Lib.hid (only_below HB5.out hoz (by omega))
        obtain ⟨g0, g1, g2, g3, g4, g5, g6, g7, g8, g9⟩ := hcbz.ten
        clear hcbz hoz 
        go_wp2
        refine bodyPost_ret (v := .agg #[.int .i64 (followM m a.ev).c.id, .int .i64 (followM m a.ev).c.pr, .int .i64 (followM m a.ev).c.ev, .bool (followM m a.ev).c.pre, .string (followM m a.ev).c.fr, .slice A n c, .int .i64 (followM m a.ev).st, .int .i64 (followM m a.ev).pace, .int .i64 (followM m a.ev).wt, (.slice a5 k5 c5)]) (by simp [results, Try.results38, go_sem, g0, g1, g2, g3, g4, g5, g6, g7, g8, g9]) rfl ⟨_, rfl, HRZ.out, HBZ.out⟩
      · have v1 : decide (a.pr > m.c.pr) = false := decide_eq_false hg
        have v1' : decide (m.c.pr < a.pr) = false := decide_eq_false hg
        by_cases he : a.pr = m.c.pr
        · have v2 : (a.pr == m.c.pr) = true := beq_iff_eq.2 he
          have v4 : decide (a.pr ≥ m.c.pr) = true := decide_eq_true (by omega)
          have v4' : decide (m.c.pr ≤ a.pr) = true := decide_eq_true (by omega)
          rcases Bool.eq_false_or_eq_true (lt8 m.c.fr f) with hl | hl
          · have v3 := gtr_addr (x := f) (y := m.c.fr) true hl
            rw [show meetM m f a = followM m a.ev by unfold meetM; rw [if_neg h0, if_pos (.inr ⟨he, hl⟩)]]
            clear hg he hl h0 h1 hi h3
            generalize hX : (((w.alloc (.cells #[.int .i64 m.c.id, .int .i64 m.c.pr, .int .i64 m.c.ev, .bool m.c.pre, .string m.c.fr, .slice A n c, .int .i64 m.st, .int .i64 m.pace, .int .i64 m.wt, .slice A2 n2 c2] 34)).alloc (.cells #[.int .i64 a.id, .int .i64 a.pr, .int .i64 a.ev, .slice A3 n3 c3] 39)).alloc (.cells #[.int .i64 0, .int .i64 0, .int .i64 0, .bool false, .string ⟨#[]⟩, .slice none 0 0, .int .i64 0, .int .i64 0, .int .i64 0, .slice none 0 0] 34)) = X
            have hXs : X.heap.size = w.heap.size + 1 + 1 + 1 := by rw [← hX]; simp
            have hbX : Below w.heap.size w X := by rw [← hX]; exact below_alloc (below_alloc (below_alloc (Below.refl _ _) _) _) _
            have hc0 : Cb X (w.heap.size) 34 [.int .i64 m.c.id, .int .i64 m.c.pr, .int .i64 m.c.ev, .bool m.c.pre, .string m.c.fr, .slice A n c, .int .i64 m.st, .int .i64 m.pace, .int .i64 m.wt, .slice A2 n2 c2] := by
              have h1 := Cb.new w [.int .i64 m.c.id, .int .i64 m.c.pr, .int .i64 m.c.ev, .bool m.c.pre, .string m.c.fr, .slice A n c, .int .i64 m.st, .int .i64 m.pace, .int .i64 m.wt, .slice A2 n2 c2] 34
              rw [show w.heap.size = w.heap.size by simp] at h1
              rw [← hX]; exact ((h1.alloc _).alloc _)
            have hc1 : Cb X (w.heap.size + 1) 39 [.int .i64 a.id, .int .i64 a.pr, .int .i64 a.ev, .slice A3 n3 c3] := by
              have h1 := Cb.new (w.alloc (.cells #[.int .i64 m.c.id, .int .i64 m.c.pr, .int .i64 m.c.ev, .bool m.c.pre, .string m.c.fr, .slice A n c, .int .i64 m.st, .int .i64 m.pace, .int .i64 m.wt, .slice A2 n2 c2] 34)) [.int .i64 a.id, .int .i64 a.pr, .int .i64 a.ev, .slice A3 n3 c3] 39
              rw [show (w.alloc (.cells #[.int .i64 m.c.id, .int .i64 m.c.pr, .int .i64 m.c.ev, .bool m.c.pre, .string m.c.fr, .slice A n c, .int .i64 m.st, .int .i64 m.pace, .int .i64 m.wt, .slice A2 n2 c2] 34)).heap.size = w.heap.size + 1 by simp] at h1
              rw [← hX]; exact (h1.alloc _)
            have hc2 : Cb X (w.heap.size + 1 + 1) 34 [.int .i64 0, .int .i64 0, .int .i64 0, .bool false, .string ⟨#[]⟩, .slice none 0 0, .int .i64 0, .int .i64 0, .int .i64 0, .slice none 0 0] := by
              have h1 := Cb.new ((w.alloc (.cells #[.int .i64 m.c.id, .int .i64 m.c.pr, .int .i64 m.c.ev, .bool m.c.pre, .string m.c.fr, .slice A n c, .int .i64 m.st, .int .i64 m.pace, .int .i64 m.wt, .slice A2 n2 c2] 34)).alloc (.cells #[.int .i64 a.id, .int .i64 a.pr, .int .i64 a.ev, .slice A3 n3 c3] 39)) [.int .i64 0, .int .i64 0, .int .i64 0, .bool false, .string ⟨#[]⟩, .slice none 0 0, .int .i64 0, .int .i64 0, .int .i64 0, .slice none 0 0] 34
              rw [show ((w.alloc (.cells #[.int .i64 m.c.id, .int .i64 m.c.pr, .int .i64 m.c.ev, .bool m.c.pre, .string m.c.fr, .slice A n c, .int .i64 m.st, .int .i64 m.pace, .int .i64 m.wt, .slice A2 n2 c2] 34)).alloc (.cells #[.int .i64 a.id, .int .i64 a.pr, .int .i64 a.ev, .slice A3 n3 c3] 39)).heap.size = w.heap.size + 1 + 1 by simp] at h1
              rw [← hX]; exact h1
            have HROW := Lib.hid (hrow.below hbX)
            have HBX := Lib.hid hbX
            have HC0 := Lib.hid hc0
            have HC1 := Lib.hid hc1
            have HC2 := Lib.hid hc2
            have HBB : Hid (b ≤ w.heap.size) := Lib.hid hb
            have HLE := Lib.hid hlen
            have HXS := Lib.hid hXs
            subst hX
            clear hbX hrow hb hlen hXs hc0 hc1 hc2
            have HY := Lib.hid (rfollow_any HROW.out (Nat.le_trans HBB.out HBX.out.size) HLE.out a.ev)
            clear HROW
            go_enter Try.func38, Try.ntmps38
            go_wp2_with fail
            refine HY.out.mono ?_
            rintro e w5 ⟨vo5, rfl, hr5, hb5⟩
            obtain ⟨a5, k5, c5, rfl⟩ := hr5.letters
            have HT5 := Lib.hid (HC2.out.below hb5)
            have HB5 := Lib.hid (below_then HBX.out HBX.out.size hb5)
            have HR5 := Lib.hid hr5
            clear hr5 hb5 HBX HY
            obtain ⟨wz, hstz, hcbz, hoz⟩ := store34 HT5.out rfl (followM m a.ev).c.id (followM m a.ev).c.pr (followM m a.ev).c.ev (followM m a.ev).c.pre (followM m a.ev).c.fr (.slice A n c) (followM m a.ev).st (followM m a.ev).pace (followM m a.ev).wt (.slice a5 k5 c5) rfl rfl
            have HRZ := Lib.hid (HR5.out.put hoz HT5.out)
            have HBZ := Lib.hid (only_below HB5.out hoz (by omega))
            obtain ⟨g0, g1, g2, g3, g4, g5, g6, g7, g8, g9⟩ := hcbz.ten
            clear hcbz hoz 
            go_wp2
            refine bodyPost_ret (v := .agg #[.int .i64 (followM m a.ev).c.id, .int .i64 (followM m a.ev).c.pr, .int .i64 (followM m a.ev).c.ev, .bool (followM m a.ev).c.pre, .string (followM m a.ev).c.fr, .slice A n c, .int .i64 (followM m a.ev).st, .int .i64 (followM m a.ev).pace, .int .i64 (followM m a.ev).wt, (.slice a5 k5 c5)]) (by simp [results, Try.results38, go_sem, g0, g1, g2, g3, g4, g5, g6, g7, g8, g9]) rfl ⟨_, rfl, HRZ.out, HBZ.out⟩
          · have v3 := gtr_addr (x := f) (y := m.c.fr) false hl
            rw [show meetM m f a = m by unfold meetM; rw [if_neg h0, if_neg (by rw [hl]; simp; omega)]]
            clear hg he hl h0 h1 hi h3
            generalize hX : (((w.alloc (.cells #[.int .i64 m.c.id, .int .i64 m.c.pr, .int .i64 m.c.ev, .bool m.c.pre, .string m.c.fr, .slice A n c, .int .i64 m.st, .int .i64 m.pace, .int .i64 m.wt, .slice A2 n2 c2] 34)).alloc (.cells #[.int .i64 a.id, .int .i64 a.pr, .int .i64 a.ev, .slice A3 n3 c3] 39)).alloc (.cells #[.int .i64 0, .int .i64 0, .int .i64 0, .bool false, .string ⟨#[]⟩, .slice none 0 0, .int .i64 0, .int .i64 0, .int .i64 0, .slice none 0 0] 34)) = X
            have hXs : X.heap.size = w.heap.size + 1 + 1 + 1 := by rw [← hX]; simp
            have hbX : Below w.heap.size w X := by rw [← hX]; exact below_alloc (below_alloc (below_alloc (Below.refl _ _) _) _) _
            have hc0 : Cb X (w.heap.size) 34 [.int .i64 m.c.id, .int .i64 m.c.pr, .int .i64 m.c.ev, .bool m.c.pre, .string m.c.fr, .slice A n c, .int .i64 m.st, .int .i64 m.pace, .int .i64 m.wt, .slice A2 n2 c2] := by
              have h1 := Cb.new w [.int .i64 m.c.id, .int .i64 m.c.pr, .int .i64 m.c.ev, .bool m.c.pre, .string m.c.fr, .slice A n c, .int .i64 m.st, .int .i64 m.pace, .int .i64 m.wt, .slice A2 n2 c2] 34
              rw [show w.heap.size = w.heap.size by simp] at h1
              rw [← hX]; exact ((h1.alloc _).alloc _)
            have hc1 : Cb X (w.heap.size + 1) 39 [.int .i64 a.id, .int .i64 a.pr, .int .i64 a.ev, .slice A3 n3 c3] := by
              have h1 := Cb.new (w.alloc (.cells #[.int .i64 m.c.id, .int .i64 m.c.pr, .int .i64 m.c.ev, .bool m.c.pre, .string m.c.fr, .slice A n c, .int .i64 m.st, .int .i64 m.pace, .int .i64 m.wt, .slice A2 n2 c2] 34)) [.int .i64 a.id, .int .i64 a.pr, .int .i64 a.ev, .slice A3 n3 c3] 39
              rw [show (w.alloc (.cells #[.int .i64 m.c.id, .int .i64 m.c.pr, .int .i64 m.c.ev, .bool m.c.pre, .string m.c.fr, .slice A n c, .int .i64 m.st, .int .i64 m.pace, .int .i64 m.wt, .slice A2 n2 c2] 34)).heap.size = w.heap.size + 1 by simp] at h1
              rw [← hX]; exact (h1.alloc _)
            have hc2 : Cb X (w.heap.size + 1 + 1) 34 [.int .i64 0, .int .i64 0, .int .i64 0, .bool false, .string ⟨#[]⟩, .slice none 0 0, .int .i64 0, .int .i64 0, .int .i64 0, .slice none 0 0] := by
              have h1 := Cb.new ((w.alloc (.cells #[.int .i64 m.c.id, .int .i64 m.c.pr, .int .i64 m.c.ev, .bool m.c.pre, .string m.c.fr, .slice A n c, .int .i64 m.st, .int .i64 m.pace, .int .i64 m.wt, .slice A2 n2 c2] 34)).alloc (.cells #[.int .i64 a.id, .int .i64 a.pr, .int .i64 a.ev, .slice A3 n3 c3] 39)) [.int .i64 0, .int .i64 0, .int .i64 0, .bool false, .string ⟨#[]⟩, .slice none 0 0, .int .i64 0, .int .i64 0, .int .i64 0, .slice none 0 0] 34
              rw [show ((w.alloc (.cells #[.int .i64 m.c.id, .int .i64 m.c.pr, .int .i64 m.c.ev, .bool m.c.pre, .string m.c.fr, .slice A n c, .int .i64 m.st, .int .i64 m.pace, .int .i64 m.wt, .slice A2 n2 c2] 34)).alloc (.cells #[.int .i64 a.id, .int .i64 a.pr, .int .i64 a.ev, .slice A3 n3 c3] 39)).heap.size = w.heap.size + 1 + 1 by simp] at h1
              rw [← hX]; exact h1
            have HROW := Lib.hid (hrow.below hbX)
            have HBX := Lib.hid hbX
            have HC0 := Lib.hid hc0
            have HC1 := Lib.hid hc1
            have HC2 := Lib.hid hc2
            have HBB : Hid (b ≤ w.heap.size) := Lib.hid hb
            have HLE := Lib.hid hlen
            have HXS := Lib.hid hXs
            subst hX
            clear hbX hrow hb hlen hXs hc0 hc1 hc2
            obtain ⟨wz, hstz, hcbz, hoz⟩ := store34 HC2.out rfl m.c.id m.c.pr m.c.ev m.c.pre m.c.fr (.slice A n c) m.st m.pace m.wt (.slice A2 n2 c2) rfl rfl
            have HRZ := Lib.hid (HROW.out.put hoz HC2.out)
            have HBZ := Lib.hid (only_below HBX.out hoz (by omega))
            obtain ⟨g0, g1, g2, g3, g4, g5, g6, g7, g8, g9⟩ := hcbz.ten
            clear hcbz hoz HC0 HC1 HC2 HBX HROW
            go_enter Try.func38, Try.ntmps38
            go_wp2
            refine bodyPost_ret (v := .agg #[.int .i64 m.c.id, .int .i64 m.c.pr, .int .i64 m.c.ev, .bool m.c.pre, .string m.c.fr, .slice A n c, .int .i64 m.st, .int .i64 m.pace, .int .i64 m.wt, .slice A2 n2 c2]) (by simp [results, Try.results38, go_sem, g0, g1, g2, g3, g4, g5, g6, g7, g8, g9]) rfl ⟨_, rfl, HRZ.out, HBZ.out⟩
        · have v2 : (a.pr == m.c.pr) = false := beq_eq_false_iff_ne.2 he
          have v4 : decide (a.pr ≥ m.c.pr) = false := decide_eq_false (by omega)
          have v4' : decide (m.c.pr ≤ a.pr) = false := decide_eq_false (by omega)
          rw [show meetM m f a = m by unfold meetM; rw [if_neg h0, if_neg (by omega)]]
          clear hg he h0 h1 hi h3
          generalize hX : (((w.alloc (.cells #[.int .i64 m.c.id, .int .i64 m.c.pr, .int .i64 m.c.ev, .bool m.c.pre, .string m.c.fr, .slice A n c, .int .i64 m.st, .int .i64 m.pace, .int .i64 m.wt, .slice A2 n2 c2] 34)).alloc (.cells #[.int .i64 a.id, .int .i64 a.pr, .int .i64 a.ev, .slice A3 n3 c3] 39)).alloc (.cells #[.int .i64 0, .int .i64 0, .int .i64 0, .bool false, .string ⟨#[]⟩, .slice none 0 0, .int .i64 0, .int .i64 0, .int .i64 0, .slice none 0 0] 34)) = X
          have hXs : X.heap.size = w.heap.size + 1 + 1 + 1 := by rw [← hX]; simp
          have hbX : Below w.heap.size w X := by rw [← hX]; exact below_alloc (below_alloc (below_alloc (Below.refl _ _) _) _) _
          have hc0 : Cb X (w.heap.size) 34 [.int .i64 m.c.id, .int .i64 m.c.pr, .int .i64 m.c.ev, .bool m.c.pre, .string m.c.fr, .slice A n c, .int .i64 m.st, .int .i64 m.pace, .int .i64 m.wt, .slice A2 n2 c2] := by
            have h1 := Cb.new w [.int .i64 m.c.id, .int .i64 m.c.pr, .int .i64 m.c.ev, .bool m.c.pre, .string m.c.fr, .slice A n c, .int .i64 m.st, .int .i64 m.pace, .int .i64 m.wt, .slice A2 n2 c2] 34
            rw [show w.heap.size = w.heap.size by simp] at h1
            rw [← hX]; exact ((h1.alloc _).alloc _)
          have hc1 : Cb X (w.heap.size + 1) 39 [.int .i64 a.id, .int .i64 a.pr, .int .i64 a.ev, .slice A3 n3 c3] := by
            have h1 := Cb.new (w.alloc (.cells #[.int .i64 m.c.id, .int .i64 m.c.pr, .int .i64 m.c.ev, .bool m.c.pre, .string m.c.fr, .slice A n c, .int .i64 m.st, .int .i64 m.pace, .int .i64 m.wt, .slice A2 n2 c2] 34)) [.int .i64 a.id, .int .i64 a.pr, .int .i64 a.ev, .slice A3 n3 c3] 39
            rw [show (w.alloc (.cells #[.int .i64 m.c.id, .int .i64 m.c.pr, .int .i64 m.c.ev, .bool m.c.pre, .string m.c.fr, .slice A n c, .int .i64 m.st, .int .i64 m.pace, .int .i64 m.wt, .slice A2 n2 c2] 34)).heap.size = w.heap.size + 1 by simp] at h1
            rw [← hX]; exact (h1.alloc _)
          have hc2 : Cb X (w.heap.size + 1 + 1) 34 [.int .i64 0, .int .i64 0, .int .i64 0, .bool false, .string ⟨#[]⟩, .slice none 0 0, .int .i64 0, .int .i64 0, .int .i64 0, .slice none 0 0] := by
            have h1 := Cb.new ((w.alloc (.cells #[.int .i64 m.c.id, .int .i64 m.c.pr, .int .i64 m.c.ev, .bool m.c.pre, .string m.c.fr, .slice A n c, .int .i64 m.st, .int .i64 m.pace, .int .i64 m.wt, .slice A2 n2 c2] 34)).alloc (.cells #[.int .i64 a.id, .int .i64 a.pr, .int .i64 a.ev, .slice A3 n3 c3] 39)) [.int .i64 0, .int .i64 0, .int .i64 0, .bool false, .string ⟨#[]⟩, .slice none 0 0, .int .i64 0, .int .i64 0, .int .i64 0, .slice none 0 0] 34
            rw [show ((w.alloc (.cells #[.int .i64 m.c.id, .int .i64 m.c.pr, .int .i64 m.c.ev, .bool m.c.pre, .string m.c.fr, .slice A n c, .int .i64 m.st, .int .i64 m.pace, .int .i64 m.wt, .slice A2 n2 c2] 34)).alloc (.cells #[.int .i64 a.id, .int .i64 a.pr, .int .i64 a.ev, .slice A3 n3 c3] 39)).heap.size = w.heap.size + 1 + 1 by simp] at h1
            rw [← hX]; exact h1
          have HROW := Lib.hid (hrow.below hbX)
          have HBX := Lib.hid hbX
          have HC0 := Lib.hid hc0
          have HC1 := Lib.hid hc1
          have HC2 := Lib.hid hc2
          have HBB : Hid (b ≤ w.heap.size) := Lib.hid hb
          have HLE := Lib.hid hlen
          have HXS := Lib.hid hXs
          subst hX
          clear hbX hrow hb hlen hXs hc0 hc1 hc2
          obtain ⟨wz, hstz, hcbz, hoz⟩ := store34 HC2.out rfl m.c.id m.c.pr m.c.ev m.c.pre m.c.fr (.slice A n c) m.st m.pace m.wt (.slice A2 n2 c2) rfl rfl
          have HRZ := Lib.hid (HROW.out.put hoz HC2.out)
          have HBZ := Lib.hid (only_below HBX.out hoz (by omega))
          obtain ⟨g0, g1, g2, g3, g4, g5, g6, g7, g8, g9⟩ := hcbz.ten
          clear hcbz hoz HC0 HC1 HC2 HBX HROW
          go_enter Try.func38, Try.ntmps38
          go_wp2
          refine bodyPost_ret (v := .agg #[.int .i64 m.c.id, .int .i64 m.c.pr, .int .i64 m.c.ev, .bool m.c.pre, .string m.c.fr, .slice A n c, .int .i64 m.st, .int .i64 m.pace, .int .i64 m.wt, .slice A2 n2 c2]) (by simp [results, Try.results38, go_sem, g0, g1, g2, g3, g4, g5, g6, g7, g8, g9]) rfl ⟨_, rfl, HRZ.out, HBZ.out⟩
  have h2 : m.st = 2 := by have := hok.st; omega
  have e4 : (m.st == 3) = false := beq_eq_false_iff_ne.2 h3
  have e5 : (m.st == 2) = true := beq_iff_eq.2 h2
  rw [take_two hi h2]
  clear hok h3
  by_cases h0 : a.pr = 0
  · have e3 : (a.pr == 0) = true := beq_iff_eq.2 h0
    by_cases hs : skewI m.c.pr m.pace < 1
    · have e6 : decide (skewI m.c.pr m.pace < 1) = true := decide_eq_true hs
      have hE : hearM m a = { m with wt := 1 } := by unfold hearM; rw [if_pos h0, if_pos hs]
      rw [hE]
      have HSK : Hid (∀ W, Calls Try.prog 25 #[.int .i64 m.c.pr, .int .i64 m.pace] W fun x w' => x = .returned (.int .i64 (skewI m.c.pr m.pace)) ∧ W = w') := Lib.hid (fun W => rskew_any m.c.pr m.pace W)
      clear hE h0 h1 hi h2 hs
      generalize hX : (((w.alloc (.cells #[.int .i64 m.c.id, .int .i64 m.c.pr, .int .i64 m.c.ev, .bool m.c.pre, .string m.c.fr, .slice A n c, .int .i64 m.st, .int .i64 m.pace, .int .i64 1, .slice A2 n2 c2] 34)).alloc (.cells #[.int .i64 a.id, .int .i64 a.pr, .int .i64 a.ev, .slice A3 n3 c3] 39)).alloc (.cells #[.int .i64 0, .int .i64 0, .int .i64 0, .bool false, .string ⟨#[]⟩, .slice none 0 0, .int .i64 0, .int .i64 0, .int .i64 0, .slice none 0 0] 34)) = X
      have hXs : X.heap.size = w.heap.size + 1 + 1 + 1 := by rw [← hX]; simp
      have hbX : Below w.heap.size w X := by rw [← hX]; exact below_alloc (below_alloc (below_alloc (Below.refl _ _) _) _) _
      have hc0 : Cb X (w.heap.size) 34 [.int .i64 m.c.id, .int .i64 m.c.pr, .int .i64 m.c.ev, .bool m.c.pre, .string m.c.fr, .slice A n c, .int .i64 m.st, .int .i64 m.pace, .int .i64 1, .slice A2 n2 c2] := by
        have h1 := Cb.new w [.int .i64 m.c.id, .int .i64 m.c.pr, .int .i64 m.c.ev, .bool m.c.pre, .string m.c.fr, .slice A n c, .int .i64 m.st, .int .i64 m.pace, .int .i64 1, .slice A2 n2 c2] 34
        rw [show w.heap.size = w.heap.size by simp] at h1
        rw [← hX]; exact ((h1.alloc _).alloc _)
      have hc1 : Cb X (w.heap.size + 1) 39 [.int .i64 a.id, .int .i64 a.pr, .int .i64 a.ev, .slice A3 n3 c3] := by
        have h1 := Cb.new (w.alloc (.cells #[.int .i64 m.c.id, .int .i64 m.c.pr, .int .i64 m.c.ev, .bool m.c.pre, .string m.c.fr, .slice A n c, .int .i64 m.st, .int .i64 m.pace, .int .i64 1, .slice A2 n2 c2] 34)) [.int .i64 a.id, .int .i64 a.pr, .int .i64 a.ev, .slice A3 n3 c3] 39
        rw [show (w.alloc (.cells #[.int .i64 m.c.id, .int .i64 m.c.pr, .int .i64 m.c.ev, .bool m.c.pre, .string m.c.fr, .slice A n c, .int .i64 m.st, .int .i64 m.pace, .int .i64 1, .slice A2 n2 c2] 34)).heap.size = w.heap.size + 1 by simp] at h1
        rw [← hX]; exact (h1.alloc _)
      have hc2 : Cb X (w.heap.size + 1 + 1) 34 [.int .i64 0, .int .i64 0, .int .i64 0, .bool false, .string ⟨#[]⟩, .slice none 0 0, .int .i64 0, .int .i64 0, .int .i64 0, .slice none 0 0] := by
        have h1 := Cb.new ((w.alloc (.cells #[.int .i64 m.c.id, .int .i64 m.c.pr, .int .i64 m.c.ev, .bool m.c.pre, .string m.c.fr, .slice A n c, .int .i64 m.st, .int .i64 m.pace, .int .i64 1, .slice A2 n2 c2] 34)).alloc (.cells #[.int .i64 a.id, .int .i64 a.pr, .int .i64 a.ev, .slice A3 n3 c3] 39)) [.int .i64 0, .int .i64 0, .int .i64 0, .bool false, .string ⟨#[]⟩, .slice none 0 0, .int .i64 0, .int .i64 0, .int .i64 0, .slice none 0 0] 34
        rw [show ((w.alloc (.cells #[.int .i64 m.c.id, .int .i64 m.c.pr, .int .i64 m.c.ev, .bool m.c.pre, .string m.c.fr, .slice A n c, .int .i64 m.st, .int .i64 m.pace, .int .i64 1, .slice A2 n2 c2] 34)).alloc (.cells #[.int .i64 a.id, .int .i64 a.pr, .int .i64 a.ev, .slice A3 n3 c3] 39)).heap.size = w.heap.size + 1 + 1 by simp] at h1
        rw [← hX]; exact h1
      have HROW := Lib.hid (hrow.below hbX)
      have HBX := Lib.hid hbX
      have HC0 := Lib.hid hc0
      have HC1 := Lib.hid hc1
      have HC2 := Lib.hid hc2
      have HBB : Hid (b ≤ w.heap.size) := Lib.hid hb
      have HLE := Lib.hid hlen
      have HXS := Lib.hid hXs
      subst hX
      clear hbX hrow hb hlen hXs hc0 hc1 hc2
      obtain ⟨wz, hstz, hcbz, hoz⟩ := store34 HC2.out rfl m.c.id m.c.pr m.c.ev m.c.pre m.c.fr (.slice A n c) m.st m.pace (1) (.slice A2 n2 c2) rfl rfl
      have HRZ := Lib.hid (HROW.out.put hoz HC2.out)
      have HBZ := Lib.hid (only_below HBX.out hoz (by omega))
      obtain ⟨g0, g1, g2, g3, g4, g5, g6, g7, g8, g9⟩ := hcbz.ten
      clear hcbz hoz HC0 HC1 HC2 HBX HROW
      go_enter Try.func38, Try.ntmps38
      go_wp2_with fail
      refine (HSK.out _).mono ?_
      rintro e w' ⟨rfl, rfl⟩
      go_wp2
      refine bodyPost_ret (v := .agg #[.int .i64 m.c.id, .int .i64 m.c.pr, .int .i64 m.c.ev, .bool m.c.pre, .string m.c.fr, .slice A n c, .int .i64 m.st, .int .i64 m.pace, .int .i64 1, .slice A2 n2 c2]) (by simp [results, Try.results38, go_sem, g0, g1, g2, g3, g4, g5, g6, g7, g8, g9]) rfl ⟨_, rfl, HRZ.out, HBZ.out⟩
    · have e6 : decide (skewI m.c.pr m.pace < 1) = false := decide_eq_false hs
      have hE : hearM m a = { m with wt := (skewI m.c.pr m.pace) } := by unfold hearM; rw [if_pos h0, if_neg hs]
      rw [hE]
      have HSK : Hid (∀ W, Calls Try.prog 25 #[.int .i64 m.c.pr, .int .i64 m.pace] W fun x w' => x = .returned (.int .i64 (skewI m.c.pr m.pace)) ∧ W = w') := Lib.hid (fun W => rskew_any m.c.pr m.pace W)
      clear hE h0 h1 hi h2 hs
      generalize hX : (((w.alloc (.cells #[.int .i64 m.c.id, .int .i64 m.c.pr, .int .i64 m.c.ev, .bool m.c.pre, .string m.c.fr, .slice A n c, .int .i64 m.st, .int .i64 m.pace, .int .i64 (skewI m.c.pr m.pace), .slice A2 n2 c2] 34)).alloc (.cells #[.int .i64 a.id, .int .i64 a.pr, .int .i64 a.ev, .slice A3 n3 c3] 39)).alloc (.cells #[.int .i64 0, .int .i64 0, .int .i64 0, .bool false, .string ⟨#[]⟩, .slice none 0 0, .int .i64 0, .int .i64 0, .int .i64 0, .slice none 0 0] 34)) = X
      have hXs : X.heap.size = w.heap.size + 1 + 1 + 1 := by rw [← hX]; simp
      have hbX : Below w.heap.size w X := by rw [← hX]; exact below_alloc (below_alloc (below_alloc (Below.refl _ _) _) _) _
      have hc0 : Cb X (w.heap.size) 34 [.int .i64 m.c.id, .int .i64 m.c.pr, .int .i64 m.c.ev, .bool m.c.pre, .string m.c.fr, .slice A n c, .int .i64 m.st, .int .i64 m.pace, .int .i64 (skewI m.c.pr m.pace), .slice A2 n2 c2] := by
        have h1 := Cb.new w [.int .i64 m.c.id, .int .i64 m.c.pr, .int .i64 m.c.ev, .bool m.c.pre, .string m.c.fr, .slice A n c, .int .i64 m.st, .int .i64 m.pace, .int .i64 (skewI m.c.pr m.pace), .slice A2 n2 c2] 34
        rw [show w.heap.size = w.heap.size by simp] at h1
        rw [← hX]; exact ((h1.alloc _).alloc _)
      have hc1 : Cb X (w.heap.size + 1) 39 [.int .i64 a.id, .int .i64 a.pr, .int .i64 a.ev, .slice A3 n3 c3] := by
        have h1 := Cb.new (w.alloc (.cells #[.int .i64 m.c.id, .int .i64 m.c.pr, .int .i64 m.c.ev, .bool m.c.pre, .string m.c.fr, .slice A n c, .int .i64 m.st, .int .i64 m.pace, .int .i64 (skewI m.c.pr m.pace), .slice A2 n2 c2] 34)) [.int .i64 a.id, .int .i64 a.pr, .int .i64 a.ev, .slice A3 n3 c3] 39
        rw [show (w.alloc (.cells #[.int .i64 m.c.id, .int .i64 m.c.pr, .int .i64 m.c.ev, .bool m.c.pre, .string m.c.fr, .slice A n c, .int .i64 m.st, .int .i64 m.pace, .int .i64 (skewI m.c.pr m.pace), .slice A2 n2 c2] 34)).heap.size = w.heap.size + 1 by simp] at h1
        rw [← hX]; exact (h1.alloc _)
      have hc2 : Cb X (w.heap.size + 1 + 1) 34 [.int .i64 0, .int .i64 0, .int .i64 0, .bool false, .string ⟨#[]⟩, .slice none 0 0, .int .i64 0, .int .i64 0, .int .i64 0, .slice none 0 0] := by
        have h1 := Cb.new ((w.alloc (.cells #[.int .i64 m.c.id, .int .i64 m.c.pr, .int .i64 m.c.ev, .bool m.c.pre, .string m.c.fr, .slice A n c, .int .i64 m.st, .int .i64 m.pace, .int .i64 (skewI m.c.pr m.pace), .slice A2 n2 c2] 34)).alloc (.cells #[.int .i64 a.id, .int .i64 a.pr, .int .i64 a.ev, .slice A3 n3 c3] 39)) [.int .i64 0, .int .i64 0, .int .i64 0, .bool false, .string ⟨#[]⟩, .slice none 0 0, .int .i64 0, .int .i64 0, .int .i64 0, .slice none 0 0] 34
        rw [show ((w.alloc (.cells #[.int .i64 m.c.id, .int .i64 m.c.pr, .int .i64 m.c.ev, .bool m.c.pre, .string m.c.fr, .slice A n c, .int .i64 m.st, .int .i64 m.pace, .int .i64 (skewI m.c.pr m.pace), .slice A2 n2 c2] 34)).alloc (.cells #[.int .i64 a.id, .int .i64 a.pr, .int .i64 a.ev, .slice A3 n3 c3] 39)).heap.size = w.heap.size + 1 + 1 by simp] at h1
        rw [← hX]; exact h1
      have HROW := Lib.hid (hrow.below hbX)
      have HBX := Lib.hid hbX
      have HC0 := Lib.hid hc0
      have HC1 := Lib.hid hc1
      have HC2 := Lib.hid hc2
      have HBB : Hid (b ≤ w.heap.size) := Lib.hid hb
      have HLE := Lib.hid hlen
      have HXS := Lib.hid hXs
      subst hX
      clear hbX hrow hb hlen hXs hc0 hc1 hc2
      obtain ⟨wz, hstz, hcbz, hoz⟩ := store34 HC2.out rfl m.c.id m.c.pr m.c.ev m.c.pre m.c.fr (.slice A n c) m.st m.pace ((skewI m.c.pr m.pace)) (.slice A2 n2 c2) rfl rfl
      have HRZ := Lib.hid (HROW.out.put hoz HC2.out)
      have HBZ := Lib.hid (only_below HBX.out hoz (by omega))
      obtain ⟨g0, g1, g2, g3, g4, g5, g6, g7, g8, g9⟩ := hcbz.ten
      clear hcbz hoz HC0 HC1 HC2 HBX HROW
      go_enter Try.func38, Try.ntmps38
      go_wp2_with fail
      refine (HSK.out _).mono ?_
      rintro e w' ⟨rfl, rfl⟩
      go_wp2
      refine bodyPost_ret (v := .agg #[.int .i64 m.c.id, .int .i64 m.c.pr, .int .i64 m.c.ev, .bool m.c.pre, .string m.c.fr, .slice A n c, .int .i64 m.st, .int .i64 m.pace, .int .i64 (skewI m.c.pr m.pace), .slice A2 n2 c2]) (by simp [results, Try.results38, go_sem, g0, g1, g2, g3, g4, g5, g6, g7, g8, g9]) rfl ⟨_, rfl, HRZ.out, HBZ.out⟩
  have e3 : (a.pr == 0) = false := beq_eq_false_iff_ne.2 h0
  rcases Bool.eq_false_or_eq_true m.c.pre with hp | hp
  · have e7 : (!m.c.pre) = false := by rw [hp]; rfl
    by_cases hg : m.c.pr < a.pr
    · have v1 : decide (a.pr > m.c.pr) = true := decide_eq_true hg
      have v1' : decide (m.c.pr < a.pr) = true := decide_eq_true hg
      have v4 : decide (a.pr ≥ m.c.pr) = true := decide_eq_true (by omega)
      have v4' : decide (m.c.pr ≤ a.pr) = true := decide_eq_true (by omega)
      rw [show hearM m a = followM m a.ev by unfold hearM; rw [if_neg h0, if_pos (.inr (by omega))]]
      clear hg h0 h1 hi h2 hp
      generalize hX : (((w.alloc (.cells #[.int .i64 m.c.id, .int .i64 m.c.pr, .int .i64 m.c.ev, .bool m.c.pre, .string m.c.fr, .slice A n c, .int .i64 m.st, .int .i64 m.pace, .int .i64 m.wt, .slice A2 n2 c2] 34)).alloc (.cells #[.int .i64 a.id, .int .i64 a.pr, .int .i64 a.ev, .slice A3 n3 c3] 39)).alloc (.cells #[.int .i64 0, .int .i64 0, .int .i64 0, .bool false, .string ⟨#[]⟩, .slice none 0 0, .int .i64 0, .int .i64 0, .int .i64 0, .slice none 0 0] 34)) = X
      have hXs : X.heap.size = w.heap.size + 1 + 1 + 1 := by rw [← hX]; simp
      have hbX : Below w.heap.size w X := by rw [← hX]; exact below_alloc (below_alloc (below_alloc (Below.refl _ _) _) _) _
      have hc0 : Cb X (w.heap.size) 34 [.int .i64 m.c.id, .int .i64 m.c.pr, .int .i64 m.c.ev, .bool m.c.pre, .string m.c.fr, .slice A n c, .int .i64 m.st, .int .i64 m.pace, .int .i64 m.wt, .slice A2 n2 c2] := by
        have h1 := Cb.new w [.int .i64 m.c.id, .int .i64 m.c.pr, .int .i64 m.c.ev, .bool m.c.pre, .string m.c.fr, .slice A n c, .int .i64 m.st, .int .i64 m.pace, .int .i64 m.wt, .slice A2 n2 c2] 34
        rw [show w.heap.size = w.heap.size by simp] at h1
        rw [← hX]; exact ((h1.alloc _).alloc _)
      have hc1 : Cb X (w.heap.size + 1) 39 [.int .i64 a.id, .int .i64 a.pr, .int .i64 a.ev, .slice A3 n3 c3] := by
        have h1 := Cb.new (w.alloc (.cells #[.int .i64 m.c.id, .int .i64 m.c.pr, .int .i64 m.c.ev, .bool m.c.pre, .string m.c.fr, .slice A n c, .int .i64 m.st, .int .i64 m.pace, .int .i64 m.wt, .slice A2 n2 c2] 34)) [.int .i64 a.id, .int .i64 a.pr, .int .i64 a.ev, .slice A3 n3 c3] 39
        rw [show (w.alloc (.cells #[.int .i64 m.c.id, .int .i64 m.c.pr, .int .i64 m.c.ev, .bool m.c.pre, .string m.c.fr, .slice A n c, .int .i64 m.st, .int .i64 m.pace, .int .i64 m.wt, .slice A2 n2 c2] 34)).heap.size = w.heap.size + 1 by simp] at h1
        rw [← hX]; exact (h1.alloc _)
      have hc2 : Cb X (w.heap.size + 1 + 1) 34 [.int .i64 0, .int .i64 0, .int .i64 0, .bool false, .string ⟨#[]⟩, .slice none 0 0, .int .i64 0, .int .i64 0, .int .i64 0, .slice none 0 0] := by
        have h1 := Cb.new ((w.alloc (.cells #[.int .i64 m.c.id, .int .i64 m.c.pr, .int .i64 m.c.ev, .bool m.c.pre, .string m.c.fr, .slice A n c, .int .i64 m.st, .int .i64 m.pace, .int .i64 m.wt, .slice A2 n2 c2] 34)).alloc (.cells #[.int .i64 a.id, .int .i64 a.pr, .int .i64 a.ev, .slice A3 n3 c3] 39)) [.int .i64 0, .int .i64 0, .int .i64 0, .bool false, .string ⟨#[]⟩, .slice none 0 0, .int .i64 0, .int .i64 0, .int .i64 0, .slice none 0 0] 34
        rw [show ((w.alloc (.cells #[.int .i64 m.c.id, .int .i64 m.c.pr, .int .i64 m.c.ev, .bool m.c.pre, .string m.c.fr, .slice A n c, .int .i64 m.st, .int .i64 m.pace, .int .i64 m.wt, .slice A2 n2 c2] 34)).alloc (.cells #[.int .i64 a.id, .int .i64 a.pr, .int .i64 a.ev, .slice A3 n3 c3] 39)).heap.size = w.heap.size + 1 + 1 by simp] at h1
        rw [← hX]; exact h1
      have HROW := Lib.hid (hrow.below hbX)
      have HBX := Lib.hid hbX
      have HC0 := Lib.hid hc0
      have HC1 := Lib.hid hc1
      have HC2 := Lib.hid hc2
      have HBB : Hid (b ≤ w.heap.size) := Lib.hid hb
      have HLE := Lib.hid hlen
      have HXS := Lib.hid hXs
      subst hX
      clear hbX hrow hb hlen hXs hc0 hc1 hc2
      have HY := Lib.hid (rfollow_any HROW.out (Nat.le_trans HBB.out HBX.out.size) HLE.out a.ev)
      clear HROW
      go_enter Try.func38, Try.ntmps38
      go_wp2_with fail
      refine HY.out.mono ?_
      rintro e w5 ⟨vo5, rfl, hr5, hb5⟩
      obtain ⟨a5, k5, c5, rfl⟩ := hr5.letters
      have HT5 := Lib.hid (HC2.out.below hb5)
      have HB5 := Lib.hid (below_then HBX.out HBX.out.size hb5)
      have HR5 := Lib.hid hr5
      clear hr5 hb5 HBX HY
      obtain ⟨wz, hstz, hcbz, hoz⟩ := store34 HT5.out rfl (followM m a.ev).c.id (followM m a.ev).c.pr (followM m a.ev).c.ev (followM m a.ev).c.pre (followM m a.ev).c.fr (.slice A n c) (followM m a.ev).st (followM m a.ev).pace (followM m a.ev).wt (.slice a5 k5 c5) rfl rfl
      have HRZ := Lib.hid (HR5.out.put hoz HT5.out)
      have HBZ := Lib.hid (only_below HB5.out hoz (by omega))
      obtain ⟨g0, g1, g2, g3, g4, g5, g6, g7, g8, g9⟩ := hcbz.ten
      clear hcbz hoz 
      go_wp2
      refine bodyPost_ret (v := .agg #[.int .i64 (followM m a.ev).c.id, .int .i64 (followM m a.ev).c.pr, .int .i64 (followM m a.ev).c.ev, .bool (followM m a.ev).c.pre, .string (followM m a.ev).c.fr, .slice A n c, .int .i64 (followM m a.ev).st, .int .i64 (followM m a.ev).pace, .int .i64 (followM m a.ev).wt, (.slice a5 k5 c5)]) (by simp [results, Try.results38, go_sem, g0, g1, g2, g3, g4, g5, g6, g7, g8, g9]) rfl ⟨_, rfl, HRZ.out, HBZ.out⟩
    · have v1 : decide (a.pr > m.c.pr) = false := decide_eq_false hg
      have v1' : decide (m.c.pr < a.pr) = false := decide_eq_false hg
      by_cases he : a.pr = m.c.pr
      · have v2 : (a.pr == m.c.pr) = true := beq_iff_eq.2 he
        have v4 : decide (a.pr ≥ m.c.pr) = true := decide_eq_true (by omega)
        have v4' : decide (m.c.pr ≤ a.pr) = true := decide_eq_true (by omega)
        rcases Bool.eq_false_or_eq_true (lt8 m.c.fr f) with hl | hl
        · have v3 := gtr_addr (x := f) (y := m.c.fr) true hl
          rw [show hearM m a = followM m a.ev by unfold hearM; rw [if_neg h0, if_pos (.inr (by omega))]]
          clear hg he hl h0 h1 hi h2 hp
          generalize hX : (((w.alloc (.cells #[.int .i64 m.c.id, .int .i64 m.c.pr, .int .i64 m.c.ev, .bool m.c.pre, .string m.c.fr, .slice A n c, .int .i64 m.st, .int .i64 m.pace, .int .i64 m.wt, .slice A2 n2 c2] 34)).alloc (.cells #[.int .i64 a.id, .int .i64 a.pr, .int .i64 a.ev, .slice A3 n3 c3] 39)).alloc (.cells #[.int .i64 0, .int .i64 0, .int .i64 0, .bool false, .string ⟨#[]⟩, .slice none 0 0, .int .i64 0, .int .i64 0, .int .i64 0, .slice none 0 0] 34)) = X
          have hXs : X.heap.size = w.heap.size + 1 + 1 + 1 := by rw [← hX]; simp
          have hbX : Below w.heap.size w X := by rw [← hX]; exact below_alloc (below_alloc (below_alloc (Below.refl _ _) _) _) _
          have hc0 : Cb X (w.heap.size) 34 [.int .i64 m.c.id, .int .i64 m.c.pr, .int .i64 m.c.ev, .bool m.c.pre, .string m.c.fr, .slice A n c, .int .i64 m.st, .int .i64 m.pace, .int .i64 m.wt, .slice A2 n2 c2] := by
            have h1 := Cb.new w [.int .i64 m.c.id, .int .i64 m.c.pr, .int .i64 m.c.ev, .bool m.c.pre, .string m.c.fr, .slice A n c, .int .i64 m.st, .int .i64 m.pace, .int .i64 m.wt, .slice A2 n2 c2] 34
            rw [show w.heap.size = w.heap.size by simp] at h1
            rw [← hX]; exact ((h1.alloc _).alloc _)
          have hc1 : Cb X (w.heap.size + 1) 39 [.int .i64 a.id, .int .i64 a.pr, .int .i64 a.ev, .slice A3 n3 c3] := by
            have h1 := Cb.new (w.alloc (.cells #[.int .i64 m.c.id, .int .i64 m.c.pr, .int .i64 m.c.ev, .bool m.c.pre, .string m.c.fr, .slice A n c, .int .i64 m.st, .int .i64 m.pace, .int .i64 m.wt, .slice A2 n2 c2] 34)) [.int .i64 a.id, .int .i64 a.pr, .int .i64 a.ev, .slice A3 n3 c3] 39
            rw [show (w.alloc (.cells #[.int .i64 m.c.id, .int .i64 m.c.pr, .int .i64 m.c.ev, .bool m.c.pre, .string m.c.fr, .slice A n c, .int .i64 m.st, .int .i64 m.pace, .int .i64 m.wt, .slice A2 n2 c2] 34)).heap.size = w.heap.size + 1 by simp] at h1
            rw [← hX]; exact (h1.alloc _)
          have hc2 : Cb X (w.heap.size + 1 + 1) 34 [.int .i64 0, .int .i64 0, .int .i64 0, .bool false, .string ⟨#[]⟩, .slice none 0 0, .int .i64 0, .int .i64 0, .int .i64 0, .slice none 0 0] := by
            have h1 := Cb.new ((w.alloc (.cells #[.int .i64 m.c.id, .int .i64 m.c.pr, .int .i64 m.c.ev, .bool m.c.pre, .string m.c.fr, .slice A n c, .int .i64 m.st, .int .i64 m.pace, .int .i64 m.wt, .slice A2 n2 c2] 34)).alloc (.cells #[.int .i64 a.id, .int .i64 a.pr, .int .i64 a.ev, .slice A3 n3 c3] 39)) [.int .i64 0, .int .i64 0, .int .i64 0, .bool false, .string ⟨#[]⟩, .slice none 0 0, .int .i64 0, .int .i64 0, .int .i64 0, .slice none 0 0] 34
            rw [show ((w.alloc (.cells #[.int .i64 m.c.id, .int .i64 m.c.pr, .int .i64 m.c.ev, .bool m.c.pre, .string m.c.fr, .slice A n c, .int .i64 m.st, .int .i64 m.pace, .int .i64 m.wt, .slice A2 n2 c2] 34)).alloc (.cells #[.int .i64 a.id, .int .i64 a.pr, .int .i64 a.ev, .slice A3 n3 c3] 39)).heap.size = w.heap.size + 1 + 1 by simp] at h1
            rw [← hX]; exact h1
          have HROW := Lib.hid (hrow.below hbX)
          have HBX := Lib.hid hbX
          have HC0 := Lib.hid hc0
          have HC1 := Lib.hid hc1
          have HC2 := Lib.hid hc2
          have HBB : Hid (b ≤ w.heap.size) := Lib.hid hb
          have HLE := Lib.hid hlen
          have HXS := Lib.hid hXs
          subst hX
          clear hbX hrow hb hlen hXs hc0 hc1 hc2
          have HY := Lib.hid (rfollow_any HROW.out (Nat.le_trans HBB.out HBX.out.size) HLE.out a.ev)
          clear HROW
          go_enter Try.func38, Try.ntmps38
          go_wp2_with fail
          refine HY.out.mono ?_
          rintro e w5 ⟨vo5, rfl, hr5, hb5⟩
          obtain ⟨a5, k5, c5, rfl⟩ := hr5.letters
          have HT5 := Lib.hid (HC2.out.below hb5)
          have HB5 := Lib.hid (below_then HBX.out HBX.out.size hb5)
          have HR5 := Lib.hid hr5
          clear hr5 hb5 HBX HY
          obtain ⟨wz, hstz, hcbz, hoz⟩ := store34 HT5.out rfl (followM m a.ev).c.id (followM m a.ev).c.pr (followM m a.ev).c.ev (followM m a.ev).c.pre (followM m a.ev).c.fr (.slice A n c) (followM m a.ev).st (followM m a.ev).pace (followM m a.ev).wt (.slice a5 k5 c5) rfl rfl
          have HRZ := Lib.hid (HR5.out.put hoz HT5.out)
          have HBZ := Lib.hid (only_below HB5.out hoz (by omega))
          obtain ⟨g0, g1, g2, g3, g4, g5, g6, g7, g8, g9⟩ := hcbz.ten
          clear hcbz hoz 
          go_wp2
          refine bodyPost_ret (v := .agg #[.int .i64 (followM m a.ev).c.id, .int .i64 (followM m a.ev).c.pr, .int .i64 (followM m a.ev).c.ev, .bool (followM m a.ev).c.pre, .string (followM m a.ev).c.fr, .slice A n c, .int .i64 (followM m a.ev).st, .int .i64 (followM m a.ev).pace, .int .i64 (followM m a.ev).wt, (.slice a5 k5 c5)]) (by simp [results, Try.results38, go_sem, g0, g1, g2, g3, g4, g5, g6, g7, g8, g9]) rfl ⟨_, rfl, HRZ.out, HBZ.out⟩
        · have v3 := gtr_addr (x := f) (y := m.c.fr) false hl
          rw [show hearM m a = followM m a.ev by unfold hearM; rw [if_neg h0, if_pos (.inr (by omega))]]
          clear hg he hl h0 h1 hi h2 hp
          generalize hX : (((w.alloc (.cells #[.int .i64 m.c.id, .int .i64 m.c.pr, .int .i64 m.c.ev, .bool m.c.pre, .string m.c.fr, .slice A n c, .int .i64 m.st, .int .i64 m.pace, .int .i64 m.wt, .slice A2 n2 c2] 34)).alloc (.cells #[.int .i64 a.id, .int .i64 a.pr, .int .i64 a.ev, .slice A3 n3 c3] 39)).alloc (.cells #[.int .i64 0, .int .i64 0, .int .i64 0, .bool false, .string ⟨#[]⟩, .slice none 0 0, .int .i64 0, .int .i64 0, .int .i64 0, .slice none 0 0] 34)) = X
          have hXs : X.heap.size = w.heap.size + 1 + 1 + 1 := by rw [← hX]; simp
          have hbX : Below w.heap.size w X := by rw [← hX]; exact below_alloc (below_alloc (below_alloc (Below.refl _ _) _) _) _
          have hc0 : Cb X (w.heap.size) 34 [.int .i64 m.c.id, .int .i64 m.c.pr, .int .i64 m.c.ev, .bool m.c.pre, .string m.c.fr, .slice A n c, .int .i64 m.st, .int .i64 m.pace, .int .i64 m.wt, .slice A2 n2 c2] := by
            have h1 := Cb.new w [.int .i64 m.c.id, .int .i64 m.c.pr, .int .i64 m.c.ev, .bool m.c.pre, .string m.c.fr, .slice A n c, .int .i64 m.st, .int .i64 m.pace, .int .i64 m.wt, .slice A2 n2 c2] 34
            rw [show w.heap.size = w.heap.size by simp] at h1
            rw [← hX]; exact ((h1.alloc _).alloc _)
          have hc1 : Cb X (w.heap.size + 1) 39 [.int .i64 a.id, .int .i64 a.pr, .int .i64 a.ev, .slice A3 n3 c3] := by
            have h1 := Cb.new (w.alloc (.cells #[.int .i64 m.c.id, .int .i64 m.c.pr, .int .i64 m.c.ev, .bool m.c.pre, .string m.c.fr, .slice A n c, .int .i64 m.st, .int .i64 m.pace, .int .i64 m.wt, .slice A2 n2 c2] 34)) [.int .i64 a.id, .int .i64 a.pr, .int .i64 a.ev, .slice A3 n3 c3] 39
            rw [show (w.alloc (.cells #[.int .i64 m.c.id, .int .i64 m.c.pr, .int .i64 m.c.ev, .bool m.c.pre, .string m.c.fr, .slice A n c, .int .i64 m.st, .int .i64 m.pace, .int .i64 m.wt, .slice A2 n2 c2] 34)).heap.size = w.heap.size + 1 by simp] at h1
            rw [← hX]; exact (h1.alloc _)
          have hc2 : Cb X (w.heap.size + 1 + 1) 34 [.int .i64 0, .int .i64 0, .int .i64 0, .bool false, .string ⟨#[]⟩, .slice none 0 0, .int .i64 0, .int .i64 0, .int .i64 0, .slice none 0 0] := by
            have h1 := Cb.new ((w.alloc (.cells #[.int .i64 m.c.id, .int .i64 m.c.pr, .int .i64 m.c.ev, .bool m.c.pre, .string m.c.fr, .slice A n c, .int .i64 m.st, .int .i64 m.pace, .int .i64 m.wt, .slice A2 n2 c2] 34)).alloc (.cells #[.int .i64 a.id, .int .i64 a.pr, .int .i64 a.ev, .slice A3 n3 c3] 39)) [.int .i64 0, .int .i64 0, .int .i64 0, .bool false, .string ⟨#[]⟩, .slice none 0 0, .int .i64 0, .int .i64 0, .int .i64 0, .slice none 0 0] 34
            rw [show ((w.alloc (.cells #[.int .i64 m.c.id, .int .i64 m.c.pr, .int .i64 m.c.ev, .bool m.c.pre, .string m.c.fr, .slice A n c, .int .i64 m.st, .int .i64 m.pace, .int .i64 m.wt, .slice A2 n2 c2] 34)).alloc (.cells #[.int .i64 a.id, .int .i64 a.pr, .int .i64 a.ev, .slice A3 n3 c3] 39)).heap.size = w.heap.size + 1 + 1 by simp] at h1
            rw [← hX]; exact h1
          have HROW := Lib.hid (hrow.below hbX)
          have HBX := Lib.hid hbX
          have HC0 := Lib.hid hc0
          have HC1 := Lib.hid hc1
          have HC2 := Lib.hid hc2
          have HBB : Hid (b ≤ w.heap.size) := Lib.hid hb
          have HLE := Lib.hid hlen
          have HXS := Lib.hid hXs
          subst hX
          clear hbX hrow hb hlen hXs hc0 hc1 hc2
          have HY := Lib.hid (rfollow_any HROW.out (Nat.le_trans HBB.out HBX.out.size) HLE.out a.ev)
          clear HROW
          go_enter Try.func38, Try.ntmps38
          go_wp2_with fail
          refine HY.out.mono ?_
          rintro e w5 ⟨vo5, rfl, hr5, hb5⟩
          obtain ⟨a5, k5, c5, rfl⟩ := hr5.letters
          have HT5 := Lib.hid (HC2.out.below hb5)
          have HB5 := Lib.hid (below_then HBX.out HBX.out.size hb5)
          have HR5 := Lib.hid hr5
          clear hr5 hb5 HBX HY
          obtain ⟨wz, hstz, hcbz, hoz⟩ := store34 HT5.out rfl (followM m a.ev).c.id (followM m a.ev).c.pr (followM m a.ev).c.ev (followM m a.ev).c.pre (followM m a.ev).c.fr (.slice A n c) (followM m a.ev).st (followM m a.ev).pace (followM m a.ev).wt (.slice a5 k5 c5) rfl rfl
          have HRZ := Lib.hid (HR5.out.put hoz HT5.out)
          have HBZ := Lib.hid (only_below HB5.out hoz (by omega))
          obtain ⟨g0, g1, g2, g3, g4, g5, g6, g7, g8, g9⟩ := hcbz.ten
          clear hcbz hoz 
          go_wp2
          refine bodyPost_ret (v := .agg #[.int .i64 (followM m a.ev).c.id, .int .i64 (followM m a.ev).c.pr, .int .i64 (followM m a.ev).c.ev, .bool (followM m a.ev).c.pre, .string (followM m a.ev).c.fr, .slice A n c, .int .i64 (followM m a.ev).st, .int .i64 (followM m a.ev).pace, .int .i64 (followM m a.ev).wt, (.slice a5 k5 c5)]) (by simp [results, Try.results38, go_sem, g0, g1, g2, g3, g4, g5, g6, g7, g8, g9]) rfl ⟨_, rfl, HRZ.out, HBZ.out⟩
      · have v2 : (a.pr == m.c.pr) = false := beq_eq_false_iff_ne.2 he
        have v4 : decide (a.pr ≥ m.c.pr) = false := decide_eq_false (by omega)
        have v4' : decide (m.c.pr ≤ a.pr) = false := decide_eq_false (by omega)
        rw [show hearM m a = m by unfold hearM; rw [if_neg h0, if_neg (by rw [hp]; simp; omega)]]
        clear hg he h0 h1 hi h2 hp
        generalize hX : (((w.alloc (.cells #[.int .i64 m.c.id, .int .i64 m.c.pr, .int .i64 m.c.ev, .bool m.c.pre, .string m.c.fr, .slice A n c, .int .i64 m.st, .int .i64 m.pace, .int .i64 m.wt, .slice A2 n2 c2] 34)).alloc (.cells #[.int .i64 a.id, .int .i64 a.pr, .int .i64 a.ev, .slice A3 n3 c3] 39)).alloc (.cells #[.int .i64 0, .int .i64 0, .int .i64 0, .bool false, .string ⟨#[]⟩, .slice none 0 0, .int .i64 0, .int .i64 0, .int .i64 0, .slice none 0 0] 34)) = X
        have hXs : X.heap.size = w.heap.size + 1 + 1 + 1 := by rw [← hX]; simp
        have hbX : Below w.heap.size w X := by rw [← hX]; exact below_alloc (below_alloc (below_alloc (Below.refl _ _) _) _) _
        have hc0 : Cb X (w.heap.size) 34 [.int .i64 m.c.id, .int .i64 m.c.pr, .int .i64 m.c.ev, .bool m.c.pre, .string m.c.fr, .slice A n c, .int .i64 m.st, .int .i64 m.pace, .int .i64 m.wt, .slice A2 n2 c2] := by
          have h1 := Cb.new w [.int .i64 m.c.id, .int .i64 m.c.pr, .int .i64 m.c.ev, .bool m.c.pre, .string m.c.fr, .slice A n c, .int .i64 m.st, .int .i64 m.pace, .int .i64 m.wt, .slice A2 n2 c2] 34
          rw [show w.heap.size = w.heap.size by simp] at h1
          rw [← hX]; exact ((h1.alloc _).alloc _)
        have hc1 : Cb X (w.heap.size + 1) 39 [.int .i64 a.id, .int .i64 a.pr, .int .i64 a.ev, .slice A3 n3 c3] := by
          have h1 := Cb.new (w.alloc (.cells #[.int .i64 m.c.id, .int .i64 m.c.pr, .int .i64 m.c.ev, .bool m.c.pre, .string m.c.fr, .slice A n c, .int .i64 m.st, .int .i64 m.pace, .int .i64 m.wt, .slice A2 n2 c2] 34)) [.int .i64 a.id, .int .i64 a.pr, .int .i64 a.ev, .slice A3 n3 c3] 39
          rw [show (w.alloc (.cells #[.int .i64 m.c.id, .int .i64 m.c.pr, .int .i64 m.c.ev, .bool m.c.pre, .string m.c.fr, .slice A n c, .int .i64 m.st, .int .i64 m.pace, .int .i64 m.wt, .slice A2 n2 c2] 34)).heap.size = w.heap.size + 1 by simp] at h1
          rw [← hX]; exact (h1.alloc _)
        have hc2 : Cb X (w.heap.size + 1 + 1) 34 [.int .i64 0, .int .i64 0, .int .i64 0, .bool false, .string ⟨#[]⟩, .slice none 0 0, .int .i64 0, .int .i64 0, .int .i64 0, .slice none 0 0] := by
          have h1 := Cb.new ((w.alloc (.cells #[.int .i64 m.c.id, .int .i64 m.c.pr, .int .i64 m.c.ev, .bool m.c.pre, .string m.c.fr, .slice A n c, .int .i64 m.st, .int .i64 m.pace, .int .i64 m.wt, .slice A2 n2 c2] 34)).alloc (.cells #[.int .i64 a.id, .int .i64 a.pr, .int .i64 a.ev, .slice A3 n3 c3] 39)) [.int .i64 0, .int .i64 0, .int .i64 0, .bool false, .string ⟨#[]⟩, .slice none 0 0, .int .i64 0, .int .i64 0, .int .i64 0, .slice none 0 0] 34
          rw [show ((w.alloc (.cells #[.int .i64 m.c.id, .int .i64 m.c.pr, .int .i64 m.c.ev, .bool m.c.pre, .string m.c.fr, .slice A n c, .int .i64 m.st, .int .i64 m.pace, .int .i64 m.wt, .slice A2 n2 c2] 34)).alloc (.cells #[.int .i64 a.id, .int .i64 a.pr, .int .i64 a.ev, .slice A3 n3 c3] 39)).heap.size = w.heap.size + 1 + 1 by simp] at h1
          rw [← hX]; exact h1
        have HROW := Lib.hid (hrow.below hbX)
        have HBX := Lib.hid hbX
        have HC0 := Lib.hid hc0
        have HC1 := Lib.hid hc1
        have HC2 := Lib.hid hc2
        have HBB : Hid (b ≤ w.heap.size) := Lib.hid hb
        have HLE := Lib.hid hlen
        have HXS := Lib.hid hXs
        subst hX
        clear hbX hrow hb hlen hXs hc0 hc1 hc2
        obtain ⟨wz, hstz, hcbz, hoz⟩ := store34 HC2.out rfl m.c.id m.c.pr m.c.ev m.c.pre m.c.fr (.slice A n c) m.st m.pace m.wt (.slice A2 n2 c2) rfl rfl
        have HRZ := Lib.hid (HROW.out.put hoz HC2.out)
        have HBZ := Lib.hid (only_below HBX.out hoz (by omega))
        obtain ⟨g0, g1, g2, g3, g4, g5, g6, g7, g8, g9⟩ := hcbz.ten
        clear hcbz hoz HC0 HC1 HC2 HBX HROW
        go_enter Try.func38, Try.ntmps38
        go_wp2
        refine bodyPost_ret (v := .agg #[.int .i64 m.c.id, .int .i64 m.c.pr, .int .i64 m.c.ev, .bool m.c.pre, .string m.c.fr, .slice A n c, .int .i64 m.st, .int .i64 m.pace, .int .i64 m.wt, .slice A2 n2 c2]) (by simp [results, Try.results38, go_sem, g0, g1, g2, g3, g4, g5, g6, g7, g8, g9]) rfl ⟨_, rfl, HRZ.out, HBZ.out⟩
  · have e7 : (!m.c.pre) = true := by rw [hp]; rfl
    by_cases hg : m.c.pr < a.pr
    · have v1 : decide (a.pr > m.c.pr) = true := decide_eq_true hg
      have v1' : decide (m.c.pr < a.pr) = true := decide_eq_true hg
      have v4 : decide (a.pr ≥ m.c.pr) = true := decide_eq_true (by omega)
      have v4' : decide (m.c.pr ≤ a.pr) = true := decide_eq_true (by omega)
      rw [show hearM m a = followM m a.ev by unfold hearM; rw [if_neg h0, if_pos (.inl hp)]]
      clear hg h0 h1 hi h2 hp
      generalize hX : (((w.alloc (.cells #[.int .i64 m.c.id, .int .i64 m.c.pr, .int .i64 m.c.ev, .bool m.c.pre, .string m.c.fr, .slice A n c, .int .i64 m.st, .int .i64 m.pace, .int .i64 m.wt, .slice A2 n2 c2] 34)).alloc (.cells #[.int .i64 a.id, .int .i64 a.pr, .int .i64 a.ev, .slice A3 n3 c3] 39)).alloc (.cells #[.int .i64 0, .int .i64 0, .int .i64 0, .bool false, .string ⟨#[]⟩, .slice none 0 0, .int .i64 0, .int .i64 0, .int .i64 0, .slice none 0 0] 34)) = X
      have hXs : X.heap.size = w.heap.size + 1 + 1 + 1 := by rw [← hX]; simp
      have hbX : Below w.heap.size w X := by rw [← hX]; exact below_alloc (below_alloc (below_alloc (Below.refl _ _) _) _) _
      have hc0 : Cb X (w.heap.size) 34 [.int .i64 m.c.id, .int .i64 m.c.pr, .int .i64 m.c.ev, .bool m.c.pre, .string m.c.fr, .slice A n c, .int .i64 m.st, .int .i64 m.pace, .int .i64 m.wt, .slice A2 n2 c2] := by
        have h1 := Cb.new w [.int .i64 m.c.id, .int .i64 m.c.pr, .int .i64 m.c.ev, .bool m.c.pre, .string m.c.fr, .slice A n c, .int .i64 m.st, .int .i64 m.pace, .int .i64 m.wt, .slice A2 n2 c2] 34
        rw [show w.heap.size = w.heap.size by simp] at h1
        rw [← hX]; exact ((h1.alloc _).alloc _)
      have hc1 : Cb X (w.heap.size + 1) 39 [.int .i64 a.id, .int .i64 a.pr, .int .i64 a.ev, .slice A3 n3 c3] := by
        have h1 := Cb.new (w.alloc (.cells #[.int .i64 m.c.id, .int .i64 m.c.pr, .int .i64 m.c.ev, .bool m.c.pre, .string m.c.fr, .slice A n c, .int .i64 m.st, .int .i64 m.pace, .int .i64 m.wt, .slice A2 n2 c2] 34)) [.int .i64 a.id, .int .i64 a.pr, .int .i64 a.ev, .slice A3 n3 c3] 39
        rw [show (w.alloc (.cells #[.int .i64 m.c.id, .int .i64 m.c.pr, .int .i64 m.c.ev, .bool m.c.pre, .string m.c.fr, .slice A n c, .int .i64 m.st, .int .i64 m.pace, .int .i64 m.wt, .slice A2 n2 c2] 34)).heap.size = w.heap.size + 1 by simp] at h1
        rw [← hX]; exact (h1.alloc _)
      have hc2 : Cb X (w.heap.size + 1 + 1) 34 [.int .i64 0, .int .i64 0, .int .i64 0, .bool false, .string ⟨#[]⟩, .slice none 0 0, .int .i64 0, .int .i64 0, .int .i64 0, .slice none 0 0] := by
        have h1 := Cb.new ((w.alloc (.cells #[.int .i64 m.c.id, .int .i64 m.c.pr, .int .i64 m.c.ev, .bool m.c.pre, .string m.c.fr, .slice A n c, .int .i64 m.st, .int .i64 m.pace, .int .i64 m.wt, .slice A2 n2 c2] 34)).alloc (.cells #[.int .i64 a.id, .int .i64 a.pr, .int .i64 a.ev, .slice A3 n3 c3] 39)) [.int .i64 0, .int .i64 0, .int .i64 0, .bool false, .string ⟨#[]⟩, .slice none 0 0, .int .i64 0, .int .i64 0, .int .i64 0, .slice none 0 0] 34
        rw [show ((w.alloc (.cells #[.int .i64 m.c.id, .int .i64 m.c.pr, .int .i64 m.c.ev, .bool m.c.pre, .string m.c.fr, .slice A n c, .int .i64 m.st, .int .i64 m.pace, .int .i64 m.wt, .slice A2 n2 c2] 34)).alloc (.cells #[.int .i64 a.id, .int .i64 a.pr, .int .i64 a.ev, .slice A3 n3 c3] 39)).heap.size = w.heap.size + 1 + 1 by simp] at h1
        rw [← hX]; exact h1
      have HROW := Lib.hid (hrow.below hbX)
      have HBX := Lib.hid hbX
      have HC0 := Lib.hid hc0
      have HC1 := Lib.hid hc1
      have HC2 := Lib.hid hc2
      have HBB : Hid (b ≤ w.heap.size) := Lib.hid hb
      have HLE := Lib.hid hlen
      have HXS := Lib.hid hXs
      subst hX
      clear hbX hrow hb hlen hXs hc0 hc1 hc2
      have HY := Lib.hid (rfollow_any HROW.out (Nat.le_trans HBB.out HBX.out.size) HLE.out a.ev)
      clear HROW
      go_enter Try.func38, Try.ntmps38
      go_wp2_with fail
      refine HY.out.mono ?_
      rintro e w5 ⟨vo5, rfl, hr5, hb5⟩
      obtain ⟨a5, k5, c5, rfl⟩ := hr5.letters
      have HT5 := Lib.hid (HC2.out.below hb5)
      have HB5 := Lib.hid (below_then HBX.out HBX.out.size hb5)
      have HR5 := Lib.hid hr5
      clear hr5 hb5 HBX HY
      obtain ⟨wz, hstz, hcbz, hoz⟩ := store34 HT5.out rfl (followM m a.ev).c.id (followM m a.ev).c.pr (followM m a.ev).c.ev (followM m a.ev).c.pre (followM m a.ev).c.fr (.slice A n c) (followM m a.ev).st (followM m a.ev).pace (followM m a.ev).wt (.slice a5 k5 c5) rfl rfl
      have HRZ := Lib.hid (HR5.out.put hoz HT5.out)
      have HBZ := Lib.hid (only_below HB5.out hoz (by omega))
      obtain ⟨g0, g1, g2, g3, g4, g5, g6, g7, g8, g9⟩ := hcbz.ten
      clear hcbz hoz 
      go_wp2
      refine bodyPost_ret (v := .agg #[.int .i64 (followM m a.ev).c.id, .int .i64 (followM m a.ev).c.pr, .int .i64 (followM m a.ev).c.ev, .bool (followM m a.ev).c.pre, .string (followM m a.ev).c.fr, .slice A n c, .int .i64 (followM m a.ev).st, .int .i64 (followM m a.ev).pace, .int .i64 (followM m a.ev).wt, (.slice a5 k5 c5)]) (by simp [results, Try.results38, go_sem, g0, g1, g2, g3, g4, g5, g6, g7, g8, g9]) rfl ⟨_, rfl, HRZ.out, HBZ.out⟩
    · have v1 : decide (a.pr > m.c.pr) = false := decide_eq_false hg
      have v1' : decide (m.c.pr < a.pr) = false := decide_eq_false hg
      by_cases he : a.pr = m.c.pr
      · have v2 : (a.pr == m.c.pr) = true := beq_iff_eq.2 he
        have v4 : decide (a.pr ≥ m.c.pr) = true := decide_eq_true (by omega)
        have v4' : decide (m.c.pr ≤ a.pr) = true := decide_eq_true (by omega)
        rcases Bool.eq_false_or_eq_true (lt8 m.c.fr f) with hl | hl
        · have v3 := gtr_addr (x := f) (y := m.c.fr) true hl
          rw [show hearM m a = followM m a.ev by unfold hearM; rw [if_neg h0, if_pos (.inl hp)]]
          clear hg he hl h0 h1 hi h2 hp
          generalize hX : (((w.alloc (.cells #[.int .i64 m.c.id, .int .i64 m.c.pr, .int .i64 m.c.ev, .bool m.c.pre, .string m.c.fr, .slice A n c, .int .i64 m.st, .int .i64 m.pace, .int .i64 m.wt, .slice A2 n2 c2] 34)).alloc (.cells #[.int .i64 a.id, .int .i64 a.pr, .int .i64 a.ev, .slice A3 n3 c3] 39)).alloc (.cells #[.int .i64 0, .int .i64 0, .int .i64 0, .bool false, .string ⟨#[]⟩, .slice none 0 0, .int .i64 0, .int .i64 0, .int .i64 0, .slice none 0 0] 34)) = X
          have hXs : X.heap.size = w.heap.size + 1 + 1 + 1 := by rw [← hX]; simp
          have hbX : Below w.heap.size w X := by rw [← hX]; exact below_alloc (below_alloc (below_alloc (Below.refl _ _) _) _) _
          have hc0 : Cb X (w.heap.size) 34 [.int .i64 m.c.id, .int .i64 m.c.pr, .int .i64 m.c.ev, .bool m.c.pre, .string m.c.fr, .slice A n c, .int .i64 m.st, .int .i64 m.pace, .int .i64 m.wt, .slice A2 n2 c2] := by
            have h1 := Cb.new w [.int .i64 m.c.id, .int .i64 m.c.pr, .int .i64 m.c.ev, .bool m.c.pre, .string m.c.fr, .slice A n c, .int .i64 m.st, .int .i64 m.pace, .int .i64 m.wt, .slice A2 n2 c2] 34
            rw [show w.heap.size = w.heap.size by simp] at h1
            rw [← hX]; exact ((h1.alloc _).alloc _)
          have hc1 : Cb X (w.heap.size + 1) 39 [.int .i64 a.id, .int .i64 a.pr, .int .i64 a.ev, .slice A3 n3 c3] := by
            have h1 := Cb.new (w.alloc (.cells #[.int .i64 m.c.id, .int .i64 m.c.pr, .int .i64 m.c.ev, .bool m.c.pre, .string m.c.fr, .slice A n c, .int .i64 m.st, .int .i64 m.pace, .int .i64 m.wt, .slice A2 n2 c2] 34)) [.int .i64 a.id, .int .i64 a.pr, .int .i64 a.ev, .slice A3 n3 c3] 39
            rw [show (w.alloc (.cells #[.int .i64 m.c.id, .int .i64 m.c.pr, .int .i64 m.c.ev, .bool m.c.pre, .string m.c.fr, .slice A n c, .int .i64 m.st, .int .i64 m.pace, .int .i64 m.wt, .slice A2 n2 c2] 34)).heap.size = w.heap.size + 1 by simp] at h1
            rw [← hX]; exact (h1.alloc _)
          have hc2 : Cb X (w.heap.size + 1 + 1) 34 [.int .i64 0, .int .i64 0, .int .i64 0, .bool false, .string ⟨#[]⟩, .slice none 0 0, .int .i64 0, .int .i64 0, .int .i64 0, .slice none 0 0] := by
            have h1 := Cb.new ((w.alloc (.cells #[.int .i64 m.c.id, .int .i64 m.c.pr, .int .i64 m.c.ev, .bool m.c.pre, .string m.c.fr, .slice A n c, .int .i64 m.st, .int .i64 m.pace, .int .i64 m.wt, .slice A2 n2 c2] 34)).alloc (.cells #[.int .i64 a.id, .int .i64 a.pr, .int .i64 a.ev, .slice A3 n3 c3] 39)) [.int .i64 0, .int .i64 0, .int .i64 0, .bool false, .string ⟨#[]⟩, .slice none 0 0, .int .i64 0, .int .i64 0, .int .i64 0, .slice none 0 0] 34
            rw [show ((w.alloc (.cells #[.int .i64 m.c.id, .int .i64 m.c.pr, .int .i64 m.c.ev, .bool m.c.pre, .string m.c.fr, .slice A n c, .int .i64 m.st, .int .i64 m.pace, .int .i64 m.wt, .slice A2 n2 c2] 34)).alloc (.cells #[.int .i64 a.id, .int .i64 a.pr, .int .i64 a.ev, .slice A3 n3 c3] 39)).heap.size = w.heap.size + 1 + 1 by simp] at h1
            rw [← hX]; exact h1
          have HROW := Lib.hid (hrow.below hbX)
          have HBX := Lib.hid hbX
          have HC0 := Lib.hid hc0
          have HC1 := Lib.hid hc1
          have HC2 := Lib.hid hc2
          have HBB : Hid (b ≤ w.heap.size) := Lib.hid hb
          have HLE := Lib.hid hlen
          have HXS := Lib.hid hXs
          subst hX
          clear hbX hrow hb hlen hXs hc0 hc1 hc2
          have HY := Lib.hid (rfollow_any HROW.out (Nat.le_trans HBB.out HBX.out.size) HLE.out a.ev)
          clear HROW
          go_enter Try.func38, Try.ntmps38
          go_wp2_with fail
          refine HY.out.mono ?_
          rintro e w5 ⟨vo5, rfl, hr5, hb5⟩
          obtain ⟨a5, k5, c5, rfl⟩ := hr5.letters
          have HT5 := Lib.hid (HC2.out.below hb5)
          have HB5 := Lib.hid (below_then HBX.out HBX.out.size hb5)
          have HR5 := Lib.hid hr5
          clear hr5 hb5 HBX HY
          obtain ⟨wz, hstz, hcbz, hoz⟩ := store34 HT5.out rfl (followM m a.ev).c.id (followM m a.ev).c.pr (followM m a.ev).c.ev (followM m a.ev).c.pre (followM m a.ev).c.fr (.slice A n c) (followM m a.ev).st (followM m a.ev).pace (followM m a.ev).wt (.slice a5 k5 c5) rfl rfl
          have HRZ := Lib.hid (HR5.out.put hoz HT5.out)
          have HBZ := Lib.hid (only_below HB5.out hoz (by omega))
          obtain ⟨g0, g1, g2, g3, g4, g5, g6, g7, g8, g9⟩ := hcbz.ten
          clear hcbz hoz 
          go_wp2
          refine bodyPost_ret (v := .agg #[.int .i64 (followM m a.ev).c.id, .int .i64 (followM m a.ev).c.pr, .int .i64 (followM m a.ev).c.ev, .bool (followM m a.ev).c.pre, .string (followM m a.ev).c.fr, .slice A n c, .int .i64 (followM m a.ev).st, .int .i64 (followM m a.ev).pace, .int .i64 (followM m a.ev).wt, (.slice a5 k5 c5)]) (by simp [results, Try.results38, go_sem, g0, g1, g2, g3, g4, g5, g6, g7, g8, g9]) rfl ⟨_, rfl, HRZ.out, HBZ.out⟩
        · have v3 := gtr_addr (x := f) (y := m.c.fr) false hl
          rw [show hearM m a = followM m a.ev by unfold hearM; rw [if_neg h0, if_pos (.inl hp)]]
          clear hg he hl h0 h1 hi h2 hp
          generalize hX : (((w.alloc (.cells #[.int .i64 m.c.id, .int .i64 m.c.pr, .int .i64 m.c.ev, .bool m.c.pre, .string m.c.fr, .slice A n c, .int .i64 m.st, .int .i64 m.pace, .int .i64 m.wt, .slice A2 n2 c2] 34)).alloc (.cells #[.int .i64 a.id, .int .i64 a.pr, .int .i64 a.ev, .slice A3 n3 c3] 39)).alloc (.cells #[.int .i64 0, .int .i64 0, .int .i64 0, .bool false, .string ⟨#[]⟩, .slice none 0 0, .int .i64 0, .int .i64 0, .int .i64 0, .slice none 0 0] 34)) = X
          have hXs : X.heap.size = w.heap.size + 1 + 1 + 1 := by rw [← hX]; simp
          have hbX : Below w.heap.size w X := by rw [← hX]; exact below_alloc (below_alloc (below_alloc (Below.refl _ _) _) _) _
          have hc0 : Cb X (w.heap.size) 34 [.int .i64 m.c.id, .int .i64 m.c.pr, .int .i64 m.c.ev, .bool m.c.pre, .string m.c.fr, .slice A n c, .int .i64 m.st, .int .i64 m.pace, .int .i64 m.wt, .slice A2 n2 c2] := by
            have h1 := Cb.new w [.int .i64 m.c.id, .int .i64 m.c.pr, .int .i64 m.c.ev, .bool m.c.pre, .string m.c.fr, .slice A n c, .int .i64 m.st, .int .i64 m.pace, .int .i64 m.wt, .slice A2 n2 c2] 34
            rw [show w.heap.size = w.heap.size by simp] at h1
            rw [← hX]; exact ((h1.alloc _).alloc _)
          have hc1 : Cb X (w.heap.size + 1) 39 [.int .i64 a.id, .int .i64 a.pr, .int .i64 a.ev, .slice A3 n3 c3] := by
            have h1 := Cb.new (w.alloc (.cells #[.int .i64 m.c.id, .int .i64 m.c.pr, .int .i64 m.c.ev, .bool m.c.pre, .string m.c.fr, .slice A n c, .int .i64 m.st, .int .i64 m.pace, .int .i64 m.wt, .slice A2 n2 c2] 34)) [.int .i64 a.id, .int .i64 a.pr, .int .i64 a.ev, .slice A3 n3 c3] 39
            rw [show (w.alloc (.cells #[.int .i64 m.c.id, .int .i64 m.c.pr, .int .i64 m.c.ev, .bool m.c.pre, .string m.c.fr, .slice A n c, .int .i64 m.st, .int .i64 m.pace, .int .i64 m.wt, .slice A2 n2 c2] 34)).heap.size = w.heap.size + 1 by simp] at h1
            rw [← hX]; exact (h1.alloc _)
          have hc2 : Cb X (w.heap.size + 1 + 1) 34 [.int .i64 0, .int .i64 0, .int .i64 0, .bool false, .string ⟨#[]⟩, .slice none 0 0, .int .i64 0, .int .i64 0, .int .i64 0, .slice none 0 0] := by
            have h1 := Cb.new ((w.alloc (.cells #[.int .i64 m.c.id, .int .i64 m.c.pr, .int .i64 m.c.ev, .bool m.c.pre, .string m.c.fr, .slice A n c, .int .i64 m.st, .int .i64 m.pace, .int .i64 m.wt, .slice A2 n2 c2] 34)).alloc (.cells #[.int .i64 a.id, .int .i64 a.pr, .int .i64 a.ev, .slice A3 n3 c3] 39)) [.int .i64 0, .int .i64 0, .int .i64 0, .bool false, .string ⟨#[]⟩, .slice none 0 0, .int .i64 0, .int .i64 0, .int .i64 0, .slice none 0 0] 34
            rw [show ((w.alloc (.cells #[.int .i64 m.c.id, .int .i64 m.c.pr, .int .i64 m.c.ev, .bool m.c.pre, .string m.c.fr, .slice A n c, .int .i64 m.st, .int .i64 m.pace, .int .i64 m.wt, .slice A2 n2 c2] 34)).alloc (.cells #[.int .i64 a.id, .int .i64 a.pr, .int .i64 a.ev, .slice A3 n3 c3] 39)).heap.size = w.heap.size + 1 + 1 by simp] at h1
            rw [← hX]; exact h1
          have HROW := Lib.hid (hrow.below hbX)
          have HBX := Lib.hid hbX
          have HC0 := Lib.hid hc0
          have HC1 := Lib.hid hc1
          have HC2 := Lib.hid hc2
          have HBB : Hid (b ≤ w.heap.size) := Lib.hid hb
          have HLE := Lib.hid hlen
          have HXS := Lib.hid hXs
          subst hX
          clear hbX hrow hb hlen hXs hc0 hc1 hc2
          have HY := Lib.hid (rfollow_any HROW.out (Nat.le_trans HBB.out HBX.out.size) HLE.out a.ev)
          clear HROW
          go_enter Try.func38, Try.ntmps38
          go_wp2_with fail
          refine HY.out.mono ?_
          rintro e w5 ⟨vo5, rfl, hr5, hb5⟩
          obtain ⟨a5, k5, c5, rfl⟩ := hr5.letters
          have HT5 := Lib.hid (HC2.out.below hb5)
          have HB5 := Lib.hid (below_then HBX.out HBX.out.size hb5)
          have HR5 := Lib.hid hr5
          clear hr5 hb5 HBX HY
          obtain ⟨wz, hstz, hcbz, hoz⟩ := store34 HT5.out rfl (followM m a.ev).c.id (followM m a.ev).c.pr (followM m a.ev).c.ev (followM m a.ev).c.pre (followM m a.ev).c.fr (.slice A n c) (followM m a.ev).st (followM m a.ev).pace (followM m a.ev).wt (.slice a5 k5 c5) rfl rfl
          have HRZ := Lib.hid (HR5.out.put hoz HT5.out)
          have HBZ := Lib.hid (only_below HB5.out hoz (by omega))
          obtain ⟨g0, g1, g2, g3, g4, g5, g6, g7, g8, g9⟩ := hcbz.ten
          clear hcbz hoz 
          go_wp2
          refine bodyPost_ret (v := .agg #[.int .i64 (followM m a.ev).c.id, .int .i64 (followM m a.ev).c.pr, .int .i64 (followM m a.ev).c.ev, .bool (followM m a.ev).c.pre, .string (followM m a.ev).c.fr, .slice A n c, .int .i64 (followM m a.ev).st, .int .i64 (followM m a.ev).pace, .int .i64 (followM m a.ev).wt, (.slice a5 k5 c5)]) (by simp [results, Try.results38, go_sem, g0, g1, g2, g3, g4, g5, g6, g7, g8, g9]) rfl ⟨_, rfl, HRZ.out, HBZ.out⟩
      · have v2 : (a.pr == m.c.pr) = false := beq_eq_false_iff_ne.2 he
        have v4 : decide (a.pr ≥ m.c.pr) = false := decide_eq_false (by omega)
        have v4' : decide (m.c.pr ≤ a.pr) = false := decide_eq_false (by omega)
        rw [show hearM m a = followM m a.ev by unfold hearM; rw [if_neg h0, if_pos (.inl hp)]]
        clear hg he h0 h1 hi h2 hp
        generalize hX : (((w.alloc (.cells #[.int .i64 m.c.id, .int .i64 m.c.pr, .int .i64 m.c.ev, .bool m.c.pre, .string m.c.fr, .slice A n c, .int .i64 m.st, .int .i64 m.pace, .int .i64 m.wt, .slice A2 n2 c2] 34)).alloc (.cells #[.int .i64 a.id, .int .i64 a.pr, .int .i64 a.ev, .slice A3 n3 c3] 39)).alloc (.cells #[.int .i64 0, .int .i64 0, .int .i64 0, .bool false, .string ⟨#[]⟩, .slice none 0 0, .int .i64 0, .int .i64 0, .int .i64 0, .slice none 0 0] 34)) = X
        have hXs : X.heap.size = w.heap.size + 1 + 1 + 1 := by rw [← hX]; simp
        have hbX : Below w.heap.size w X := by rw [← hX]; exact below_alloc (below_alloc (below_alloc (Below.refl _ _) _) _) _
        have hc0 : Cb X (w.heap.size) 34 [.int .i64 m.c.id, .int .i64 m.c.pr, .int .i64 m.c.ev, .bool m.c.pre, .string m.c.fr, .slice A n c, .int .i64 m.st, .int .i64 m.pace, .int .i64 m.wt, .slice A2 n2 c2] := by
          have h1 := Cb.new w [.int .i64 m.c.id, .int .i64 m.c.pr, .int .i64 m.c.ev, .bool m.c.pre, .string m.c.fr, .slice A n c, .int .i64 m.st, .int .i64 m.pace, .int .i64 m.wt, .slice A2 n2 c2] 34
          rw [show w.heap.size = w.heap.size by simp] at h1
          rw [← hX]; exact ((h1.alloc _).alloc _)
        have hc1 : Cb X (w.heap.size + 1) 39 [.int .i64 a.id, .int .i64 a.pr, .int .i64 a.ev, .slice A3 n3 c3] := by
          have h1 := Cb.new (w.alloc (.cells #[.int .i64 m.c.id, .int .i64 m.c.pr, .int .i64 m.c.ev, .bool m.c.pre, .string m.c.fr, .slice A n c, .int .i64 m.st, .int .i64 m.pace, .int .i64 m.wt, .slice A2 n2 c2] 34)) [.int .i64 a.id, .int .i64 a.pr, .int .i64 a.ev, .slice A3 n3 c3] 39
          rw [show (w.alloc (.cells #[.int .i64 m.c.id, .int .i64 m.c.pr, .int .i64 m.c.ev, .bool m.c.pre, .string m.c.fr, .slice A n c, .int .i64 m.st, .int .i64 m.pace, .int .i64 m.wt, .slice A2 n2 c2] 34)).heap.size = w.heap.size + 1 by simp] at h1
          rw [← hX]; exact (h1.alloc _)
        have hc2 : Cb X (w.heap.size + 1 + 1) 34 [.int .i64 0, .int .i64 0, .int .i64 0, .bool false, .string ⟨#[]⟩, .slice none 0 0, .int .i64 0, .int .i64 0, .int .i64 0, .slice none 0 0] := by
          have h1 := Cb.new ((w.alloc (.cells #[.int .i64 m.c.id, .int .i64 m.c.pr, .int .i64 m.c.ev, .bool m.c.pre, .string m.c.fr, .slice A n c, .int .i64 m.st, .int .i64 m.pace, .int .i64 m.wt, .slice A2 n2 c2] 34)).alloc (.cells #[.int .i64 a.id, .int .i64 a.pr, .int .i64 a.ev, .slice A3 n3 c3] 39)) [.int .i64 0, .int .i64 0, .int .i64 0, .bool false, .string ⟨#[]⟩, .slice none 0 0, .int .i64 0, .int .i64 0, .int .i64 0, .slice none 0 0] 34
          rw [show ((w.alloc (.cells #[.int .i64 m.c.id, .int .i64 m.c.pr, .int .i64 m.c.ev, .bool m.c.pre, .string m.c.fr, .slice A n c, .int .i64 m.st, .int .i64 m.pace, .int .i64 m.wt, .slice A2 n2 c2] 34)).alloc (.cells #[.int .i64 a.id, .int .i64 a.pr, .int .i64 a.ev, .slice A3 n3 c3] 39)).heap.size = w.heap.size + 1 + 1 by simp] at h1
          rw [← hX]; exact h1
        have HROW := Lib.hid (hrow.below hbX)
        have HBX := Lib.hid hbX
        have HC0 := Lib.hid hc0
        have HC1 := Lib.hid hc1
        have HC2 := Lib.hid hc2
        have HBB : Hid (b ≤ w.heap.size) := Lib.hid hb
        have HLE := Lib.hid hlen
        have HXS := Lib.hid hXs
        subst hX
        clear hbX hrow hb hlen hXs hc0 hc1 hc2
        have HY := Lib.hid (rfollow_any HROW.out (Nat.le_trans HBB.out HBX.out.size) HLE.out a.ev)
        clear HROW
        go_enter Try.func38, Try.ntmps38
        go_wp2_with fail
        refine HY.out.mono ?_
        rintro e w5 ⟨vo5, rfl, hr5, hb5⟩
        obtain ⟨a5, k5, c5, rfl⟩ := hr5.letters
        have HT5 := Lib.hid (HC2.out.below hb5)
        have HB5 := Lib.hid (below_then HBX.out HBX.out.size hb5)
        have HR5 := Lib.hid hr5
        clear hr5 hb5 HBX HY
        obtain ⟨wz, hstz, hcbz, hoz⟩ := store34 HT5.out rfl (followM m a.ev).c.id (followM m a.ev).c.pr (followM m a.ev).c.ev (followM m a.ev).c.pre (followM m a.ev).c.fr (.slice A n c) (followM m a.ev).st (followM m a.ev).pace (followM m a.ev).wt (.slice a5 k5 c5) rfl rfl
        have HRZ := Lib.hid (HR5.out.put hoz HT5.out)
        have HBZ := Lib.hid (only_below HB5.out hoz (by omega))
        obtain ⟨g0, g1, g2, g3, g4, g5, g6, g7, g8, g9⟩ := hcbz.ten
        clear hcbz hoz 
        go_wp2
        refine bodyPost_ret (v := .agg #[.int .i64 (followM m a.ev).c.id, .int .i64 (followM m a.ev).c.pr, .int .i64 (followM m a.ev).c.ev, .bool (followM m a.ev).c.pre, .string (followM m a.ev).c.fr, .slice A n c, .int .i64 (followM m a.ev).st, .int .i64 (followM m a.ev).pace, .int .i64 (followM m a.ev).wt, (.slice a5 k5 c5)]) (by simp [results, Try.results38, go_sem, g0, g1, g2, g3, g4, g5, g6, g7, g8, g9]) rfl ⟨_, rfl, HRZ.out, HBZ.out⟩
end Go.Proofs.Ytpcdaidgijkkbaa
