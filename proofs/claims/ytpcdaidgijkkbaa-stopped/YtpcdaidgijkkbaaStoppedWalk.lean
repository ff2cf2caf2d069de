/-
  What VrrpStopped does.
-/
import Derived.Test.YtpcdaidgijkkbaaVlaw
namespace Go.Proofs.Ytpcdaidgijkkbaa
open Go.RowKit Go.Maps
set_option linter.unusedVariables false
set_option linter.unusedSimpArgs false
set_option maxRecDepth 40000
attribute [local go_sem ↓] bigS41


def StRel (w : World) (B n : Nat) (gg : Nat) (x : Value) (wr : World) : Prop :=
  ∃ (i : Nat) (m : Mc), i + gg = n ∧ x = .int .i64 (i : Int) ∧ Mm w.heap.size wr B m ∧ m.st = 1 ∧ m.wt = 0 ∧ m.out = [] ∧ Below w.heap.size w wr

set_option maxHeartbeats 2000000 in
theorem stopped_no (f : Cf) (A : Option Addr) (n c : Nat) (a1 : Option Addr) (n1 c1 : Nat) (l : List Oq) (w : World) (hS : Strs w A n c f.ads) (hb : f.fr.size ≤ 140737488351232 ∧ n ≤ 8796093022208) (wa : (Lit.int .i64 f.id).wf = true) (wb : (Lit.int .i64 f.pr).wf = true) (wc : (Lit.int .i64 f.ev).wf = true) (hsc : Scr w a1 n1 c1 l) (hok : okN f = false) : Calls Try.prog 8 #[.agg #[.int .i64 f.id, .int .i64 f.pr, .int .i64 f.ev, .bool f.pre, .string f.fr, .slice A n c], .slice a1 n1 c1] w fun e w' => e = .returned (.bool true) ∧ Below w.heap.size w w' := by
  have HB0 : Hid (Below w.heap.size w (w.alloc (.cells #[.int .i64 f.id, .int .i64 f.pr, .int .i64 f.ev, .bool f.pre, .string f.fr, .slice A n c] 25))) := Lib.hid (below_alloc (Below.refl _ _) _)
  have HN := Lib.hid (new_none (hS.below HB0.out) hb hok)
  clear hS hb wa wb wc hsc hok
  go_enter Try.func8, Try.ntmps8
  go_wp2_with fail
  refine HN.out.mono ?_
  rintro e w1 ⟨rfl, hb1⟩
  have HB1 := Lib.hid (below_then HB0.out HB0.out.size hb1)
  clear hb1
  go_wp2_with fail
  refine (alive_any _).mono ?_
  rintro e w9 ⟨rfl, hb9⟩
  go_wp2
  go_ret
  exact ⟨rfl, below_then HB1.out HB1.out.size hb9⟩

set_option maxHeartbeats 2000000 in
theorem stopped_long (f : Cf) (A : Option Addr) (n c : Nat) (a1 : Option Addr) (n1 c1 : Nat) (l : List Oq) (w : World) (hS : Strs w A n c f.ads) (hb : f.fr.size ≤ 140737488351232 ∧ n ≤ 8796093022208) (wa : (Lit.int .i64 f.id).wf = true) (wb : (Lit.int .i64 f.pr).wf = true) (wc : (Lit.int .i64 f.ev).wf = true) (hsc : Scr w a1 n1 c1 l) (hok : okN f = true) (hl : 300 < n1) : Calls Try.prog 8 #[.agg #[.int .i64 f.id, .int .i64 f.pr, .int .i64 f.ev, .bool f.pre, .string f.fr, .slice A n c], .slice a1 n1 c1] w fun e w' => e = .returned (.bool true) ∧ Below w.heap.size w w' := by
  have HB0 : Hid (Below w.heap.size w (w.alloc (.cells #[.int .i64 f.id, .int .i64 f.pr, .int .i64 f.ev, .bool f.pre, .string f.fr, .slice A n c] 25))) := Lib.hid (below_alloc (Below.refl _ _) _)
  have HN := Lib.hid (new_some (hS.below HB0.out) hb hok)
  have e1 : decide ((n1 : Int) > 300) = true := decide_eq_true (by omega)
  have e2 : decide (300 < (n1 : Int)) = true := decide_eq_true (by omega)
  clear hS hb wa wb wc hsc hok hl
  go_enter Try.func8, Try.ntmps8
  go_wp2_with fail
  refine HN.out.mono ?_
  rintro e w1 ⟨B, va, rfl, hM1, hb1⟩
  have HB1 := Lib.hid (below_then HB0.out HB0.out.size hb1)
  clear hb1 hM1
  go_wp2_with fail
  refine (alive_any _).mono ?_
  rintro e w9 ⟨rfl, hb9⟩
  go_wp2
  go_ret
  exact ⟨rfl, below_then HB1.out HB1.out.size hb9⟩

set_option maxHeartbeats 4000000 in
theorem stopped_run (f : Cf) (A : Option Addr) (n c : Nat) (a1 : Option Addr) (n1 c1 : Nat) (l : List Oq) (w : World) (hS : Strs w A n c f.ads) (hb : f.fr.size ≤ 140737488351232 ∧ n ≤ 8796093022208) (wa : (Lit.int .i64 f.id).wf = true) (wb : (Lit.int .i64 f.pr).wf = true) (wc : (Lit.int .i64 f.ev).wf = true) (hsc : Scr w a1 n1 c1 l) (hok : okN f = true) (hl : ¬ 300 < n1) : Calls Try.prog 8 #[.agg #[.int .i64 f.id, .int .i64 f.pr, .int .i64 f.ev, .bool f.pre, .string f.fr, .slice A n c], .slice a1 n1 c1] w fun e w' => e = .returned (.bool true) ∧ Below w.heap.size w w' := by
  have HB0 : Hid (Below w.heap.size w (w.alloc (.cells #[.int .i64 f.id, .int .i64 f.pr, .int .i64 f.ev, .bool f.pre, .string f.fr, .slice A n c] 25))) := Lib.hid (below_alloc (Below.refl _ _) _)
  have HN := Lib.hid (new_some (hS.below HB0.out) hb hok)
  have HSC := Lib.hid hsc
  have HL := Lib.hid hl
  have e1 : decide ((n1 : Int) > 300) = false := decide_eq_false (by omega)
  have e2 : decide (300 < (n1 : Int)) = false := decide_eq_false (by omega)
  clear hS hb wa wb wc hsc hok hl
  go_enter Try.func8, Try.ntmps8
  go_wp2_with fail
  refine HN.out.mono ?_
  rintro e w1 ⟨B, va, rfl, hM1, hb1⟩
  have HB1 := Lib.hid (below_then HB0.out HB0.out.size hb1)
  have HM1 := Lib.hid (hM1.lower (base' := w.heap.size) HB0.out.size).mm
  clear hb1 hM1
  go_wp2_with fail
  refine (start_any HM1.out (by simp [newM])).mono ?_
  rintro e w2 ⟨rfl, hm2, hk2⟩
  have HB2 := Lib.hid (HB1.out.trans (hk2.below (Nat.le_refl _) HM1.out.lo HB1.out.size))
  have HM2 := Lib.hid hm2
  clear hm2 hk2
  go_wp2_with fail
  refine (stop_any HM2.out (by have := out_start (newM f); simp [newM] at this ⊢; omega)).mono ?_
  rintro e w3 ⟨rfl, ⟨va3, vo3, l3, hS3⟩, hk3⟩
  have HB3 := Lib.hid (HB2.out.trans (hk3.below (Nat.le_refl _) HM2.out.lo HB2.out.size))
  have HM3 := Lib.hid hS3
  clear hS3 hk3
  go_wp2_with fail
  refine (out_any HM3.out).mono ?_
  rintro e w4 ⟨rfl, hm4, -, -, hk4⟩
  have HB4 := Lib.hid (HB3.out.trans (hk4.below (Nat.le_refl _) HM3.out.lo HB3.out.size))
  have HM4 := Lib.hid hm4.mm
  clear hm4 hk4
  go_wp2_with fail
  go_loopg [34] n1 (fun gg x wr => StRel w B n1 gg x wr)
  case atStart => exact ⟨0, _, by omega, rfl, HM4.out, rfl, rfl, rfl, HB4.out⟩
  case round =>
    obtain ⟨i, m, hi, rfl, hm, h1, h2, h3, hbl⟩ := hrel
    have HMi := Lib.hid hm
    have HBi := Lib.hid hbl
    have H123 := Lib.hid (And.intro h1 (And.intro h2 h3))
    clear hm hbl h1 h2 h3
    by_cases hlt : i < n1
    · have e3 : decide ((i : Int) < (n1 : Int)) = true := decide_eq_true (by omega)
      obtain ⟨b, off, A2, q2, k2, ha1, hbl2, e0, e1', e2', e3', e4, e5, e6⟩ := (HSC.out.below HBi.out).at hlt
      subst ha1
      generalize l[i]! = o at *
      obtain ⟨kd, on, fr1, ai, ap, ae, ax⟩ := o
      simp only at e0 e1' e2' e3' e4 e5 e6
      obtain ⟨w5, hst5, hcb5, hb5⟩ := box41 wr kd on fr1 ai ap ae A2 q2 k2
      obtain ⟨g0, g1, g2, g3, g4, g5, g6⟩ := hcb5.seven
      have HB5 := Lib.hid (below_then HBi.out HBi.out.size hb5)
      have HM5 := Lib.hid (HMi.out.below hb5)
      have hlt1 : (i : Int) < (n1 : Int) := by omega
      have HW : Hid (Value.int .i64 (wrap64 ((i : Int) + 1)) = .int .i64 ((i + 1 : Nat) : Int)) := Lib.hid (by congr 1; have := HL.out; unfold wrap64; omega)
      have hls := hcb5.lt
      clear hb5 hcb5
      by_cases hk : kd = 0
      · have ek : (kd != 0) = false := by simpa using hk
        obtain ⟨d1, d6, d7, d8⟩ := HM5.out.cells
        rw [H123.out.1] at d6
        rw [H123.out.2.1] at d8
        have HS6 := Lib.hid (state_any d6)
        have HT6 := Lib.hid (wait_any d8)
        obtain ⟨va6, vo6, l6, hS6⟩ := HM5.out
        obtain rfl : l6 = [] := by have := hS6.lst; rw [H123.out.2.2] at this; simpa using this
        obtain ⟨ao, co, rfl, -, -⟩ := row_any hS6.row
        have HO6 := Lib.hid (out_any hS6)
        clear hk d1 d6 d7 d8 hS6
        go_wp2_with fail
        refine HS6.out.mono ?_
        rintro e w' ⟨rfl, rfl⟩
        go_wp2_with fail
        refine HT6.out.mono ?_
        rintro e w' ⟨rfl, rfl⟩
        go_wp2_with fail
        refine HO6.out.mono ?_
        rintro e w7 ⟨rfl, hm7, -, -, hk7⟩
        go_wp2
        go_roundg (n1 - (i + 1))
        case measure => omega
        case rel => exact ⟨i + 1, _, by omega, HW.out, hm7.mm, H123.out.1, H123.out.2.1, rfl, HB5.out.trans (hk7.below (Nat.le_refl _) HM5.out.lo HB5.out.size)⟩
      · have ek : (kd != 0) = true := by simpa using hk
        have HI := Lib.hid (idle_does H123.out.1 H123.out.2.1 H123.out.2.2 ⟨kd, on, fr1, ai, ap, ae, ax⟩ hk)
        have HD := Lib.hid (does_any (A := A2) (n := q2) (c := k2) HM5.out ⟨fun _ => H123.out.2.1, fun e => absurd H123.out.1 e⟩ (by rw [H123.out.2.2]; simp) ⟨kd, on, fr1, ai, ap, ae, ax⟩)
        clear hk
        go_wp2_with fail
        refine HD.out.mono ?_
        rintro e w6 ⟨rfl, hm6, hk6⟩
        have HB6 := Lib.hid (HB5.out.trans (hk6.below (Nat.le_refl _) HM5.out.lo HB5.out.size))
        have HM6 := Lib.hid hm6
        obtain ⟨d1, d6, d7, d8⟩ := hm6.cells
        rw [HI.out.1] at d6
        rw [HI.out.2.1] at d8
        have HS6 := Lib.hid (state_any d6)
        have HT6 := Lib.hid (wait_any d8)
        obtain ⟨va6, vo6, l6, hS6⟩ := hm6
        obtain rfl : l6 = [] := by have := hS6.lst; rw [HI.out.2.2] at this; simpa using this
        obtain ⟨ao, co, rfl, -, -⟩ := row_any hS6.row
        have HO6 := Lib.hid (out_any hS6)
        clear d1 d6 d7 d8 hS6 hk6
        go_wp2_with fail
        refine HS6.out.mono ?_
        rintro e w' ⟨rfl, rfl⟩
        go_wp2_with fail
        refine HT6.out.mono ?_
        rintro e w' ⟨rfl, rfl⟩
        go_wp2_with fail
        refine HO6.out.mono ?_
        rintro e w7 ⟨rfl, hm7, -, -, hk7⟩
        go_wp2
        go_roundg (n1 - (i + 1))
        case measure => omega
        case rel => exact ⟨i + 1, _, by omega, HW.out, hm7.mm, HI.out.1, HI.out.2.1, rfl, HB6.out.trans (hk7.below (Nat.le_refl _) HM6.out.lo HB6.out.size)⟩
    · have e3 : decide ((i : Int) < (n1 : Int)) = false := decide_eq_false (by omega)
      have hlt1 : ¬ (i : Int) < (n1 : Int) := by omega
      go_wp2_with fail
      refine (alive_any _).mono ?_
      rintro e w9 ⟨rfl, hb9⟩
      go_wp2
      go_ret
      exact ⟨rfl, below_then HBi.out HBi.out.size hb9⟩

/-- VrrpStopped. -/
theorem stopped_walk (f : Cf) (A : Option Addr) (n c : Nat) (a1 : Option Addr) (n1 c1 : Nat) (l : List Oq) (w : World) (hS : Strs w A n c f.ads) (hb : f.fr.size ≤ 140737488351232 ∧ n ≤ 8796093022208) (wa : (Lit.int .i64 f.id).wf = true) (wb : (Lit.int .i64 f.pr).wf = true) (wc : (Lit.int .i64 f.ev).wf = true) (hsc : Scr w a1 n1 c1 l) : Calls Try.prog 8 #[.agg #[.int .i64 f.id, .int .i64 f.pr, .int .i64 f.ev, .bool f.pre, .string f.fr, .slice A n c], .slice a1 n1 c1] w fun e w' => e = .returned (.bool true) ∧ Below w.heap.size w w' := by
  cases hok : okN f
  · exact stopped_no f A n c a1 n1 c1 l w hS hb wa wb wc hsc hok
  · by_cases hl : 300 < n1
    · exact stopped_long f A n c a1 n1 c1 l w hS hb wa wb wc hsc hok hl
    · exact stopped_run f A n c a1 n1 c1 l w hS hb wa wb wc hsc hok hl
end Go.Proofs.Ytpcdaidgijkkbaa
