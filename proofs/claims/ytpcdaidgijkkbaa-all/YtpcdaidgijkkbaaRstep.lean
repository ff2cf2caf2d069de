/-
  The reference: Down, lead, follow, Start, Stop, Tick.
-/
import Derived.Test.YtpcdaidgijkkbaaRsay
import Derived.BigQuiet
namespace Go.Proofs.Ytpcdaidgijkkbaa
open Go.RowKit Go.Maps
set_option linter.unusedVariables false
set_option linter.unusedSimpArgs false
set_option maxRecDepth 40000
attribute [local go_sem ↓] bigS34
attribute [local go_sem ↓] bigS78

set_option maxHeartbeats 1000000 in
/-- The reference's Down. -/
theorem rdown_any {A : Option Addr} {n c : Nat} {w : World} {id pr ev st pace wt : Int} {pre : Bool} {fr : ByteArray} {A2 : Option Addr} {n2 c2 : Nat} (hp : 1 ≤ pace ∧ pace ≤ 4095) :
    Calls Try.prog 19 #[.agg #[.int .i64 id, .int .i64 pr, .int .i64 ev, .bool pre, .string fr, .slice A n c, .int .i64 st, .int .i64 pace, .int .i64 wt, .slice A2 n2 c2]] w fun e w' => e = .returned (.int .i64 (3 * pace + skewI pr pace)) ∧ Below w.heap.size w w' := by
  have hb := skew_bd pr pace
  have HS : Hid (∀ W, Calls Try.prog 25 #[.int .i64 pr, .int .i64 pace] W fun x w' => x = .returned (.int .i64 (skewI pr pace)) ∧ W = w') := Lib.hid (fun W => rskew_any pr pace W)
  generalize skewI pr pace = s at *
  have hw : wrap64 (wrap64 (wrap64 (pace + pace) + pace) + s) = 3 * pace + s := by unfold wrap64; omega
  have H := Lib.hid hw
  clear hw hp hb
  go_enter Try.func19, Try.ntmps19
  go_wp2
  go_quiet (first | (go_at_call 25; exact quiet_same (HS.out _)))
  go_wp2
  go_ret
  exact ⟨ret_int H.out, below_drewN (below_alloc (Below.refl _ _) _) _⟩

set_option maxHeartbeats 4000000 in
/-- The reference's lead. -/
theorem rlead_any {b : Nat} {A : Option Addr} {n c : Nat} {w : World} {m : Mc} {vo : Value} (hrow : Rw b w vo A n c m.out) (hb : b ≤ w.heap.size) (hlen : m.out.length ≤ 274877906944) :
    Calls Try.prog 61 #[.agg #[.int .i64 m.c.id, .int .i64 m.c.pr, .int .i64 m.c.ev, .bool m.c.pre, .string m.c.fr, .slice A n c, .int .i64 m.st, .int .i64 m.pace, .int .i64 m.wt, vo]] w fun e w' => ∃ vo', e = .returned (.agg #[.int .i64 (leadM m).c.id, .int .i64 (leadM m).c.pr, .int .i64 (leadM m).c.ev, .bool (leadM m).c.pre, .string (leadM m).c.fr, .slice A n c, .int .i64 (leadM m).st, .int .i64 (leadM m).pace, .int .i64 (leadM m).wt, vo']) ∧ Rw b w' vo' A n c (leadM m).out ∧ Below w.heap.size w w' := by
  obtain ⟨A2, n2, c2, rfl⟩ := hrow.letters
  generalize hX : ((w.alloc (.cells #[.int .i64 m.c.id, .int .i64 m.c.pr, .int .i64 m.c.ev, .bool m.c.pre, .string m.c.fr, .slice A n c, .int .i64 m.st, .int .i64 m.pace, .int .i64 m.wt, .slice A2 n2 c2] 34)).alloc (.cells #[.int .i64 0, .int .i64 0, .int .i64 0, .bool false, .string ⟨#[]⟩, .slice none 0 0, .int .i64 0, .int .i64 0, .int .i64 0, .slice none 0 0] 34)) = X
  have hXs : X.heap.size = w.heap.size + 1 + 1 := by rw [← hX]; simp
  have hbX : Below w.heap.size w X := by rw [← hX]; exact below_alloc (below_alloc (Below.refl _ _) _) _
  have hc0 : Cb X (w.heap.size) 34 [.int .i64 m.c.id, .int .i64 m.c.pr, .int .i64 m.c.ev, .bool m.c.pre, .string m.c.fr, .slice A n c, .int .i64 m.st, .int .i64 m.pace, .int .i64 m.wt, .slice A2 n2 c2] := by
    have h1 := Cb.new w [.int .i64 m.c.id, .int .i64 m.c.pr, .int .i64 m.c.ev, .bool m.c.pre, .string m.c.fr, .slice A n c, .int .i64 m.st, .int .i64 m.pace, .int .i64 m.wt, .slice A2 n2 c2] 34
    rw [show w.heap.size = w.heap.size by simp] at h1
    rw [← hX]; exact (h1.alloc _)
  have hc1 : Cb X (w.heap.size + 1) 34 [.int .i64 0, .int .i64 0, .int .i64 0, .bool false, .string ⟨#[]⟩, .slice none 0 0, .int .i64 0, .int .i64 0, .int .i64 0, .slice none 0 0] := by
    have h1 := Cb.new (w.alloc (.cells #[.int .i64 m.c.id, .int .i64 m.c.pr, .int .i64 m.c.ev, .bool m.c.pre, .string m.c.fr, .slice A n c, .int .i64 m.st, .int .i64 m.pace, .int .i64 m.wt, .slice A2 n2 c2] 34)) [.int .i64 0, .int .i64 0, .int .i64 0, .bool false, .string ⟨#[]⟩, .slice none 0 0, .int .i64 0, .int .i64 0, .int .i64 0, .slice none 0 0] 34
    rw [show (w.alloc (.cells #[.int .i64 m.c.id, .int .i64 m.c.pr, .int .i64 m.c.ev, .bool m.c.pre, .string m.c.fr, .slice A n c, .int .i64 m.st, .int .i64 m.pace, .int .i64 m.wt, .slice A2 n2 c2] 34)).heap.size = w.heap.size + 1 by simp] at h1
    rw [← hX]; exact h1
  have HROW := Lib.hid (hrow.below hbX)
  have HBX := Lib.hid hbX
  have HC0 := Lib.hid hc0
  have HC1 := Lib.hid hc1
  have HBB : Hid (b ≤ w.heap.size) := Lib.hid hb
  have HLE := Lib.hid hlen
  have HXS := Lib.hid hXs
  subst hX
  clear hbX hrow hb hlen hXs hc0 hc1
  have HY := Lib.hid (rsay_any HROW.out (Nat.le_trans HBB.out HBX.out.size) (by have := HLE.out; omega) m.c.pr)
  clear HROW
  go_enter Try.func61, Try.ntmps61
  go_wp2_with fail
  refine HY.out.mono ?_
  rintro e w5 ⟨vo5, rfl, hr5, hb5⟩
  obtain ⟨a5, k5, c5, rfl⟩ := hr5.letters
  have HC5 := Lib.hid (HC0.out.below hb5)
  have HT5 := Lib.hid (HC1.out.below hb5)
  have HB5 := Lib.hid (below_then HBX.out HBX.out.size hb5)
  have HZ := Lib.hid (rdoes_claim (m := sayM m m.c.pr) hr5 (Nat.le_trans HBB.out HB5.out.size) (by have := HLE.out; show (m.out ++ [_]).length ≤ _; simp; omega))
  clear hr5 hb5 HC0 HC1 HBX HY
  go_wp2_with fail
  refine HZ.out.mono ?_
  rintro e w6 ⟨vo6, rfl, hr6, hb6⟩
  obtain ⟨a6, k6, c6, rfl⟩ := hr6.letters
  have hc6 := HC5.out.below hb6
  have HT6 := Lib.hid (HT5.out.below hb6)
  have HB6 := Lib.hid (below_then HB5.out HB5.out.size hb6)
  obtain ⟨w7, hst7, hcb7, ho7⟩ := store34 hc6 rfl (sayM m m.c.pr).c.id (sayM m m.c.pr).c.pr (sayM m m.c.pr).c.ev (sayM m m.c.pr).c.pre (sayM m m.c.pr).c.fr (.slice A n c) (sayM m m.c.pr).st (sayM m m.c.pr).pace (sayM m m.c.pr).wt (.slice a6 k6 c6) rfl rfl
  have hr7 : Rw b w7 (.slice a6 k6 c6) A n c (leadM m).out := by
    have h1 := hr6.put ho7 hc6
    have e1 : (sayM m m.c.pr).out ++ [claimV] = (leadM m).out := by simp [sayM, leadM]
    rwa [e1] at h1
  have HT7 := Lib.hid (HT6.out.only ho7 (by omega))
  have HB7 := Lib.hid (only_below HB6.out ho7 (Nat.le_refl _))
  have HC8 : Hid (Cb (w7.setCell ⟨w.heap.size, 6, none⟩ (.int .i64 3)) w.heap.size 34 [.int .i64 (leadM m).c.id, .int .i64 (leadM m).c.pr, .int .i64 (leadM m).c.ev, .bool (leadM m).c.pre, .string (leadM m).c.fr, .slice A n c, .int .i64 (leadM m).st, .int .i64 (leadM m).pace, .int .i64 (leadM m).wt, .slice a6 k6 c6]) := Lib.hid (hcb7.setAt 6 _)
  have hO8 : Only (· = w.heap.size) w7 (w7.setCell ⟨w.heap.size, 6, none⟩ (.int .i64 3)) := (Only.refl (· = w.heap.size) w7).setCell (p := ⟨w.heap.size, 6, none⟩) (.inl rfl) _
  have HT8 := Lib.hid (HT7.out.only hO8 (by omega))
  have HB8 := Lib.hid (only_below HB7.out hO8 (Nat.le_refl _))
  have HR8 := Lib.hid (hr7.put hO8 hcb7)
  obtain ⟨y0, y1, y2, y3, y4, y5, y6, y7, y8, y9⟩ := hcb7.ten
  have hf6 := hcb7.free 6
  have hl6 := hcb7.lt
  clear hr6 hr7 hcb7 ho7 hO8 HT7 HB7 hc6 hb6 HC5 HT5 HB5 HZ
  go_upto_region 3 with fail
  clear y0 y1 y2 y3 y4 y5 y6 y7 y8 y9 hf6 hl6 hst7
  generalize w7.setCell ⟨w.heap.size, 6, none⟩ (.int .i64 3) = w8 at *
  obtain ⟨y0, y1, y2, y3, y4, y5, y6, y7, y8, y9⟩ := HC8.out.ten
  obtain ⟨wz, hstz, hcbz, hoz⟩ := store34 HT8.out rfl (leadM m).c.id (leadM m).c.pr (leadM m).c.ev (leadM m).c.pre (leadM m).c.fr (.slice A n c) (leadM m).st (leadM m).pace (leadM m).wt (.slice a6 k6 c6) rfl rfl
  have HRZ := Lib.hid (HR8.out.put hoz HT8.out)
  have HBZ := Lib.hid (only_below HB8.out hoz (by omega))
  obtain ⟨g0, g1, g2, g3, g4, g5, g6, g7, g8, g9⟩ := hcbz.ten
  clear hcbz hoz 
  go_wp2
  refine bodyPost_ret (v := .agg #[.int .i64 (leadM m).c.id, .int .i64 (leadM m).c.pr, .int .i64 (leadM m).c.ev, .bool (leadM m).c.pre, .string (leadM m).c.fr, .slice A n c, .int .i64 (leadM m).st, .int .i64 (leadM m).pace, .int .i64 (leadM m).wt, (.slice a6 k6 c6)]) (by simp [results, Try.results61, go_sem, g0, g1, g2, g3, g4, g5, g6, g7, g8, g9]) rfl ⟨_, rfl, HRZ.out, HBZ.out⟩

set_option maxHeartbeats 4000000 in
/-- The reference's follow. -/
theorem rfollow_any {b : Nat} {A : Option Addr} {n c : Nat} {w : World} {m : Mc} {vo : Value} (hrow : Rw b w vo A n c m.out) (hb : b ≤ w.heap.size) (hlen : m.out.length ≤ 274877906944) (k : Int) :
    Calls Try.prog 62 #[.agg #[.int .i64 m.c.id, .int .i64 m.c.pr, .int .i64 m.c.ev, .bool m.c.pre, .string m.c.fr, .slice A n c, .int .i64 m.st, .int .i64 m.pace, .int .i64 m.wt, vo], .int .i64 k] w fun e w' => ∃ vo', e = .returned (.agg #[.int .i64 (followM m k).c.id, .int .i64 (followM m k).c.pr, .int .i64 (followM m k).c.ev, .bool (followM m k).c.pre, .string (followM m k).c.fr, .slice A n c, .int .i64 (followM m k).st, .int .i64 (followM m k).pace, .int .i64 (followM m k).wt, vo']) ∧ Rw b w' vo' A n c (followM m k).out ∧ Below w.heap.size w w' := by
  obtain ⟨A2, n2, c2, rfl⟩ := hrow.letters
  by_cases h1 : k < 1
  · have u1 : decide (k < 1) = true := decide_eq_true h1
    have u2 : decide ((1 : Int) > 4095) = false := decide_eq_false (by omega)
    generalize hX : ((w.alloc (.cells #[.int .i64 m.c.id, .int .i64 m.c.pr, .int .i64 m.c.ev, .bool m.c.pre, .string m.c.fr, .slice A n c, .int .i64 2, .int .i64 1, .int .i64 m.wt, .slice A2 n2 c2] 34)).alloc (.cells #[.int .i64 0, .int .i64 0, .int .i64 0, .bool false, .string ⟨#[]⟩, .slice none 0 0, .int .i64 0, .int .i64 0, .int .i64 0, .slice none 0 0] 34)) = X
    have hXs : X.heap.size = w.heap.size + 1 + 1 := by rw [← hX]; simp
    have hbX : Below w.heap.size w X := by rw [← hX]; exact below_alloc (below_alloc (Below.refl _ _) _) _
    have hc0 : Cb X (w.heap.size) 34 [.int .i64 m.c.id, .int .i64 m.c.pr, .int .i64 m.c.ev, .bool m.c.pre, .string m.c.fr, .slice A n c, .int .i64 2, .int .i64 1, .int .i64 m.wt, .slice A2 n2 c2] := by
      have h1 := Cb.new w [.int .i64 m.c.id, .int .i64 m.c.pr, .int .i64 m.c.ev, .bool m.c.pre, .string m.c.fr, .slice A n c, .int .i64 2, .int .i64 1, .int .i64 m.wt, .slice A2 n2 c2] 34
      rw [show w.heap.size = w.heap.size by simp] at h1
      rw [← hX]; exact (h1.alloc _)
    have hc1 : Cb X (w.heap.size + 1) 34 [.int .i64 0, .int .i64 0, .int .i64 0, .bool false, .string ⟨#[]⟩, .slice none 0 0, .int .i64 0, .int .i64 0, .int .i64 0, .slice none 0 0] := by
      have h1 := Cb.new (w.alloc (.cells #[.int .i64 m.c.id, .int .i64 m.c.pr, .int .i64 m.c.ev, .bool m.c.pre, .string m.c.fr, .slice A n c, .int .i64 2, .int .i64 1, .int .i64 m.wt, .slice A2 n2 c2] 34)) [.int .i64 0, .int .i64 0, .int .i64 0, .bool false, .string ⟨#[]⟩, .slice none 0 0, .int .i64 0, .int .i64 0, .int .i64 0, .slice none 0 0] 34
      rw [show (w.alloc (.cells #[.int .i64 m.c.id, .int .i64 m.c.pr, .int .i64 m.c.ev, .bool m.c.pre, .string m.c.fr, .slice A n c, .int .i64 2, .int .i64 1, .int .i64 m.wt, .slice A2 n2 c2] 34)).heap.size = w.heap.size + 1 by simp] at h1
      rw [← hX]; exact h1
    have HROW := Lib.hid (hrow.below hbX)
    have HBX := Lib.hid hbX
    have HC0 := Lib.hid hc0
    have HC1 := Lib.hid hc1
    have HBB : Hid (b ≤ w.heap.size) := Lib.hid hb
    have HLE := Lib.hid hlen
    have HXS := Lib.hid hXs
    subst hX
    clear hbX hrow hb hlen hXs hc0 hc1
    have hcl : clamp k = 1 := by unfold clamp; (first | rw [if_pos h1] | (rw [if_neg h1, if_pos h2]) | (rw [if_neg h1, if_neg h2]))
    have HP : Hid (1 ≤ (1 : Int) ∧ (1 : Int) ≤ 4095) := Lib.hid (by omega)
    have HD := Lib.hid (fun W : World => rdown_any (A := A) (n := n) (c := c) (w := W) (id := m.c.id) (pr := m.c.pr) (ev := m.c.ev) (st := 2) (pace := 1) (wt := m.wt) (pre := m.c.pre) (fr := m.c.fr) (A2 := A2) (n2 := n2) (c2 := c2) HP.out)
    have HCL := Lib.hid hcl
    clear hcl
    clear h1
    go_enter Try.func62, Try.ntmps62
    go_wp2_with fail
    refine (HD.out _).mono ?_
    rintro e w5 ⟨rfl, hb5⟩
    have hc5 := HC0.out.below hb5
    have HT5 := Lib.hid (HC1.out.below hb5)
    have HB5 := Lib.hid (below_then HBX.out HBX.out.size hb5)
    have HR5 := Lib.hid (HROW.out.below hb5)
    clear hb5 HC0 HC1 HBX HROW HD
    generalize hwt : 3 * (1 : Int) + skewI m.c.pr 1 = wt at *
    have HWT := Lib.hid hwt
    clear hwt
    have HC8 : Hid (Cb (w5.setCell ⟨w.heap.size, 8, none⟩ (.int .i64 wt)) w.heap.size 34 [.int .i64 m.c.id, .int .i64 m.c.pr, .int .i64 m.c.ev, .bool m.c.pre, .string m.c.fr, .slice A n c, .int .i64 2, .int .i64 1, .int .i64 wt, .slice A2 n2 c2]) := Lib.hid (hc5.setAt 8 _)
    have hO8 : Only (· = w.heap.size) w5 (w5.setCell ⟨w.heap.size, 8, none⟩ (.int .i64 wt)) := (Only.refl (· = w.heap.size) w5).setCell (p := ⟨w.heap.size, 8, none⟩) (.inl rfl) _
    have HT8 := Lib.hid (HT5.out.only hO8 (by omega))
    have HB8 := Lib.hid (only_below HB5.out hO8 (Nat.le_refl _))
    have HR8 := Lib.hid (HR5.out.put hO8 hc5)
    obtain ⟨y0, y1, y2, y3, y4, y5, y6, y7, y8, y9⟩ := hc5.ten
    have hf8 := hc5.free 8
    have hl8 := hc5.lt
    clear hc5 hO8 HT5 HB5 HR5
    go_upto_region 8 with fail
    clear y0 y1 y2 y3 y4 y5 y6 y7 y8 y9 hf8 hl8
    generalize w5.setCell ⟨w.heap.size, 8, none⟩ (.int .i64 wt) = w8 at *
    obtain ⟨y0, y1, y2, y3, y4, y5, y6, y7, y8, y9⟩ := HC8.out.ten
    obtain ⟨wz, hstz, hcbz, hoz⟩ := store34 HT8.out rfl m.c.id m.c.pr m.c.ev m.c.pre m.c.fr (.slice A n c) 2 1 wt (.slice A2 n2 c2) rfl rfl
    have HRZ := Lib.hid (HR8.out.put hoz HT8.out)
    have HBZ := Lib.hid (only_below HB8.out hoz (by omega))
    obtain ⟨g0, g1, g2, g3, g4, g5, g6, g7, g8, g9⟩ := hcbz.ten
    clear hcbz hoz
    go_wp2
    refine bodyPost_ret (v := .agg #[.int .i64 m.c.id, .int .i64 m.c.pr, .int .i64 m.c.ev, .bool m.c.pre, .string m.c.fr, .slice A n c, .int .i64 2, .int .i64 1, .int .i64 wt, .slice A2 n2 c2]) (by simp [results, Try.results62, go_sem, g0, g1, g2, g3, g4, g5, g6, g7, g8, g9]) rfl ⟨.slice A2 n2 c2, ?_, HRZ.out, HBZ.out⟩
    have e1 : (followM m k).pace = 1 := HCL.out
    have e2 : (followM m k).wt = wt := by show 3 * clamp k + skewI m.c.pr (clamp k) = wt; rw [HCL.out]; exact HWT.out
    rw [e1, e2]
    rfl
  · have u1 : decide (k < 1) = false := decide_eq_false h1
    by_cases h2 : 4095 < k
    · have u2 : decide (k > 4095) = true := decide_eq_true h2
      have u2' : decide (4095 < k) = true := decide_eq_true h2
      generalize hX : ((w.alloc (.cells #[.int .i64 m.c.id, .int .i64 m.c.pr, .int .i64 m.c.ev, .bool m.c.pre, .string m.c.fr, .slice A n c, .int .i64 2, .int .i64 4095, .int .i64 m.wt, .slice A2 n2 c2] 34)).alloc (.cells #[.int .i64 0, .int .i64 0, .int .i64 0, .bool false, .string ⟨#[]⟩, .slice none 0 0, .int .i64 0, .int .i64 0, .int .i64 0, .slice none 0 0] 34)) = X
      have hXs : X.heap.size = w.heap.size + 1 + 1 := by rw [← hX]; simp
      have hbX : Below w.heap.size w X := by rw [← hX]; exact below_alloc (below_alloc (Below.refl _ _) _) _
      have hc0 : Cb X (w.heap.size) 34 [.int .i64 m.c.id, .int .i64 m.c.pr, .int .i64 m.c.ev, .bool m.c.pre, .string m.c.fr, .slice A n c, .int .i64 2, .int .i64 4095, .int .i64 m.wt, .slice A2 n2 c2] := by
        have h1 := Cb.new w [.int .i64 m.c.id, .int .i64 m.c.pr, .int .i64 m.c.ev, .bool m.c.pre, .string m.c.fr, .slice A n c, .int .i64 2, .int .i64 4095, .int .i64 m.wt, .slice A2 n2 c2] 34
        rw [show w.heap.size = w.heap.size by simp] at h1
        rw [← hX]; exact (h1.alloc _)
      have hc1 : Cb X (w.heap.size + 1) 34 [.int .i64 0, .int .i64 0, .int .i64 0, .bool false, .string ⟨#[]⟩, .slice none 0 0, .int .i64 0, .int .i64 0, .int .i64 0, .slice none 0 0] := by
        have h1 := Cb.new (w.alloc (.cells #[.int .i64 m.c.id, .int .i64 m.c.pr, .int .i64 m.c.ev, .bool m.c.pre, .string m.c.fr, .slice A n c, .int .i64 2, .int .i64 4095, .int .i64 m.wt, .slice A2 n2 c2] 34)) [.int .i64 0, .int .i64 0, .int .i64 0, .bool false, .string ⟨#[]⟩, .slice none 0 0, .int .i64 0, .int .i64 0, .int .i64 0, .slice none 0 0] 34
        rw [show (w.alloc (.cells #[.int .i64 m.c.id, .int .i64 m.c.pr, .int .i64 m.c.ev, .bool m.c.pre, .string m.c.fr, .slice A n c, .int .i64 2, .int .i64 4095, .int .i64 m.wt, .slice A2 n2 c2] 34)).heap.size = w.heap.size + 1 by simp] at h1
        rw [← hX]; exact h1
      have HROW := Lib.hid (hrow.below hbX)
      have HBX := Lib.hid hbX
      have HC0 := Lib.hid hc0
      have HC1 := Lib.hid hc1
      have HBB : Hid (b ≤ w.heap.size) := Lib.hid hb
      have HLE := Lib.hid hlen
      have HXS := Lib.hid hXs
      subst hX
      clear hbX hrow hb hlen hXs hc0 hc1
      have hcl : clamp k = 4095 := by unfold clamp; (first | rw [if_pos h1] | (rw [if_neg h1, if_pos h2]) | (rw [if_neg h1, if_neg h2]))
      have HP : Hid (1 ≤ (4095 : Int) ∧ (4095 : Int) ≤ 4095) := Lib.hid (by omega)
      have HD := Lib.hid (fun W : World => rdown_any (A := A) (n := n) (c := c) (w := W) (id := m.c.id) (pr := m.c.pr) (ev := m.c.ev) (st := 2) (pace := 4095) (wt := m.wt) (pre := m.c.pre) (fr := m.c.fr) (A2 := A2) (n2 := n2) (c2 := c2) HP.out)
      have HCL := Lib.hid hcl
      clear hcl
      clear h1 h2
      go_enter Try.func62, Try.ntmps62
      go_wp2_with fail
      refine (HD.out _).mono ?_
      rintro e w5 ⟨rfl, hb5⟩
      have hc5 := HC0.out.below hb5
      have HT5 := Lib.hid (HC1.out.below hb5)
      have HB5 := Lib.hid (below_then HBX.out HBX.out.size hb5)
      have HR5 := Lib.hid (HROW.out.below hb5)
      clear hb5 HC0 HC1 HBX HROW HD
      generalize hwt : 3 * (4095 : Int) + skewI m.c.pr 4095 = wt at *
      have HWT := Lib.hid hwt
      clear hwt
      have HC8 : Hid (Cb (w5.setCell ⟨w.heap.size, 8, none⟩ (.int .i64 wt)) w.heap.size 34 [.int .i64 m.c.id, .int .i64 m.c.pr, .int .i64 m.c.ev, .bool m.c.pre, .string m.c.fr, .slice A n c, .int .i64 2, .int .i64 4095, .int .i64 wt, .slice A2 n2 c2]) := Lib.hid (hc5.setAt 8 _)
      have hO8 : Only (· = w.heap.size) w5 (w5.setCell ⟨w.heap.size, 8, none⟩ (.int .i64 wt)) := (Only.refl (· = w.heap.size) w5).setCell (p := ⟨w.heap.size, 8, none⟩) (.inl rfl) _
      have HT8 := Lib.hid (HT5.out.only hO8 (by omega))
      have HB8 := Lib.hid (only_below HB5.out hO8 (Nat.le_refl _))
      have HR8 := Lib.hid (HR5.out.put hO8 hc5)
      obtain ⟨y0, y1, y2, y3, y4, y5, y6, y7, y8, y9⟩ := hc5.ten
      have hf8 := hc5.free 8
      have hl8 := hc5.lt
      clear hc5 hO8 HT5 HB5 HR5
      go_upto_region 8 with fail
      clear y0 y1 y2 y3 y4 y5 y6 y7 y8 y9 hf8 hl8
      generalize w5.setCell ⟨w.heap.size, 8, none⟩ (.int .i64 wt) = w8 at *
      obtain ⟨y0, y1, y2, y3, y4, y5, y6, y7, y8, y9⟩ := HC8.out.ten
      obtain ⟨wz, hstz, hcbz, hoz⟩ := store34 HT8.out rfl m.c.id m.c.pr m.c.ev m.c.pre m.c.fr (.slice A n c) 2 4095 wt (.slice A2 n2 c2) rfl rfl
      have HRZ := Lib.hid (HR8.out.put hoz HT8.out)
      have HBZ := Lib.hid (only_below HB8.out hoz (by omega))
      obtain ⟨g0, g1, g2, g3, g4, g5, g6, g7, g8, g9⟩ := hcbz.ten
      clear hcbz hoz
      go_wp2
      refine bodyPost_ret (v := .agg #[.int .i64 m.c.id, .int .i64 m.c.pr, .int .i64 m.c.ev, .bool m.c.pre, .string m.c.fr, .slice A n c, .int .i64 2, .int .i64 4095, .int .i64 wt, .slice A2 n2 c2]) (by simp [results, Try.results62, go_sem, g0, g1, g2, g3, g4, g5, g6, g7, g8, g9]) rfl ⟨.slice A2 n2 c2, ?_, HRZ.out, HBZ.out⟩
      have e1 : (followM m k).pace = 4095 := HCL.out
      have e2 : (followM m k).wt = wt := by show 3 * clamp k + skewI m.c.pr (clamp k) = wt; rw [HCL.out]; exact HWT.out
      rw [e1, e2]
      rfl
    · have u2 : decide (k > 4095) = false := decide_eq_false h2
      have u2' : decide (4095 < k) = false := decide_eq_false h2
      generalize hX : ((w.alloc (.cells #[.int .i64 m.c.id, .int .i64 m.c.pr, .int .i64 m.c.ev, .bool m.c.pre, .string m.c.fr, .slice A n c, .int .i64 2, .int .i64 k, .int .i64 m.wt, .slice A2 n2 c2] 34)).alloc (.cells #[.int .i64 0, .int .i64 0, .int .i64 0, .bool false, .string ⟨#[]⟩, .slice none 0 0, .int .i64 0, .int .i64 0, .int .i64 0, .slice none 0 0] 34)) = X
      have hXs : X.heap.size = w.heap.size + 1 + 1 := by rw [← hX]; simp
      have hbX : Below w.heap.size w X := by rw [← hX]; exact below_alloc (below_alloc (Below.refl _ _) _) _
      have hc0 : Cb X (w.heap.size) 34 [.int .i64 m.c.id, .int .i64 m.c.pr, .int .i64 m.c.ev, .bool m.c.pre, .string m.c.fr, .slice A n c, .int .i64 2, .int .i64 k, .int .i64 m.wt, .slice A2 n2 c2] := by
        have h1 := Cb.new w [.int .i64 m.c.id, .int .i64 m.c.pr, .int .i64 m.c.ev, .bool m.c.pre, .string m.c.fr, .slice A n c, .int .i64 2, .int .i64 k, .int .i64 m.wt, .slice A2 n2 c2] 34
        rw [show w.heap.size = w.heap.size by simp] at h1
        rw [← hX]; exact (h1.alloc _)
      have hc1 : Cb X (w.heap.size + 1) 34 [.int .i64 0, .int .i64 0, .int .i64 0, .bool false, .string ⟨#[]⟩, .slice none 0 0, .int .i64 0, .int .i64 0, .int .i64 0, .slice none 0 0] := by
        have h1 := Cb.new (w.alloc (.cells #[.int .i64 m.c.id, .int .i64 m.c.pr, .int .i64 m.c.ev, .bool m.c.pre, .string m.c.fr, .slice A n c, .int .i64 2, .int .i64 k, .int .i64 m.wt, .slice A2 n2 c2] 34)) [.int .i64 0, .int .i64 0, .int .i64 0, .bool false, .string ⟨#[]⟩, .slice none 0 0, .int .i64 0, .int .i64 0, .int .i64 0, .slice none 0 0] 34
        rw [show (w.alloc (.cells #[.int .i64 m.c.id, .int .i64 m.c.pr, .int .i64 m.c.ev, .bool m.c.pre, .string m.c.fr, .slice A n c, .int .i64 2, .int .i64 k, .int .i64 m.wt, .slice A2 n2 c2] 34)).heap.size = w.heap.size + 1 by simp] at h1
        rw [← hX]; exact h1
      have HROW := Lib.hid (hrow.below hbX)
      have HBX := Lib.hid hbX
      have HC0 := Lib.hid hc0
      have HC1 := Lib.hid hc1
      have HBB : Hid (b ≤ w.heap.size) := Lib.hid hb
      have HLE := Lib.hid hlen
      have HXS := Lib.hid hXs
      subst hX
      clear hbX hrow hb hlen hXs hc0 hc1
      have hcl : clamp k = k := by unfold clamp; (first | rw [if_pos h1] | (rw [if_neg h1, if_pos h2]) | (rw [if_neg h1, if_neg h2]))
      have HP : Hid (1 ≤ (k : Int) ∧ (k : Int) ≤ 4095) := Lib.hid (by omega)
      have HD := Lib.hid (fun W : World => rdown_any (A := A) (n := n) (c := c) (w := W) (id := m.c.id) (pr := m.c.pr) (ev := m.c.ev) (st := 2) (pace := k) (wt := m.wt) (pre := m.c.pre) (fr := m.c.fr) (A2 := A2) (n2 := n2) (c2 := c2) HP.out)
      have HCL := Lib.hid hcl
      clear hcl
      clear h1 h2
      go_enter Try.func62, Try.ntmps62
      go_wp2_with fail
      refine (HD.out _).mono ?_
      rintro e w5 ⟨rfl, hb5⟩
      have hc5 := HC0.out.below hb5
      have HT5 := Lib.hid (HC1.out.below hb5)
      have HB5 := Lib.hid (below_then HBX.out HBX.out.size hb5)
      have HR5 := Lib.hid (HROW.out.below hb5)
      clear hb5 HC0 HC1 HBX HROW HD
      generalize hwt : 3 * (k : Int) + skewI m.c.pr k = wt at *
      have HWT := Lib.hid hwt
      clear hwt
      have HC8 : Hid (Cb (w5.setCell ⟨w.heap.size, 8, none⟩ (.int .i64 wt)) w.heap.size 34 [.int .i64 m.c.id, .int .i64 m.c.pr, .int .i64 m.c.ev, .bool m.c.pre, .string m.c.fr, .slice A n c, .int .i64 2, .int .i64 k, .int .i64 wt, .slice A2 n2 c2]) := Lib.hid (hc5.setAt 8 _)
      have hO8 : Only (· = w.heap.size) w5 (w5.setCell ⟨w.heap.size, 8, none⟩ (.int .i64 wt)) := (Only.refl (· = w.heap.size) w5).setCell (p := ⟨w.heap.size, 8, none⟩) (.inl rfl) _
      have HT8 := Lib.hid (HT5.out.only hO8 (by omega))
      have HB8 := Lib.hid (only_below HB5.out hO8 (Nat.le_refl _))
      have HR8 := Lib.hid (HR5.out.put hO8 hc5)
      obtain ⟨y0, y1, y2, y3, y4, y5, y6, y7, y8, y9⟩ := hc5.ten
      have hf8 := hc5.free 8
      have hl8 := hc5.lt
      clear hc5 hO8 HT5 HB5 HR5
      go_upto_region 8 with fail
      clear y0 y1 y2 y3 y4 y5 y6 y7 y8 y9 hf8 hl8
      generalize w5.setCell ⟨w.heap.size, 8, none⟩ (.int .i64 wt) = w8 at *
      obtain ⟨y0, y1, y2, y3, y4, y5, y6, y7, y8, y9⟩ := HC8.out.ten
      obtain ⟨wz, hstz, hcbz, hoz⟩ := store34 HT8.out rfl m.c.id m.c.pr m.c.ev m.c.pre m.c.fr (.slice A n c) 2 k wt (.slice A2 n2 c2) rfl rfl
      have HRZ := Lib.hid (HR8.out.put hoz HT8.out)
      have HBZ := Lib.hid (only_below HB8.out hoz (by omega))
      obtain ⟨g0, g1, g2, g3, g4, g5, g6, g7, g8, g9⟩ := hcbz.ten
      clear hcbz hoz
      go_wp2
      refine bodyPost_ret (v := .agg #[.int .i64 m.c.id, .int .i64 m.c.pr, .int .i64 m.c.ev, .bool m.c.pre, .string m.c.fr, .slice A n c, .int .i64 2, .int .i64 k, .int .i64 wt, .slice A2 n2 c2]) (by simp [results, Try.results62, go_sem, g0, g1, g2, g3, g4, g5, g6, g7, g8, g9]) rfl ⟨.slice A2 n2 c2, ?_, HRZ.out, HBZ.out⟩
      have e1 : (followM m k).pace = k := HCL.out
      have e2 : (followM m k).wt = wt := by show 3 * clamp k + skewI m.c.pr (clamp k) = wt; rw [HCL.out]; exact HWT.out
      rw [e1, e2]
      rfl
end Go.Proofs.Ytpcdaidgijkkbaa
