/-
  What VrrpAll does.
-/
import Derived.Test.YtpcdaidgijkkbaaAllPre
namespace Go.Proofs.Ytpcdaidgijkkbaa
open Go.RowKit Go.Maps
set_option linter.unusedVariables false
set_option linter.unusedSimpArgs false
set_option maxRecDepth 40000
attribute [local go_sem ↓] bigS34
attribute [local go_sem ↓] bigS41

set_option maxHeartbeats 2000000 in
theorem all_no (f : Cf) (A : Option Addr) (n c : Nat) (a1 : Option Addr) (n1 c1 : Nat) (l : List Oq) (w : World) (hS : Strs w A n c f.ads) (hb : f.fr.size ≤ 140737488351232 ∧ n ≤ 8796093022208) (wa : (Lit.int .i64 f.id).wf = true) (wb : (Lit.int .i64 f.pr).wf = true) (wc : (Lit.int .i64 f.ev).wf = true) (hsc : Scr w a1 n1 c1 l) (hok : okN f = false) : Calls Try.prog 3 #[.agg #[.int .i64 f.id, .int .i64 f.pr, .int .i64 f.ev, .bool f.pre, .string f.fr, .slice A n c], .slice a1 n1 c1] w fun e w' => e = .returned (.bool true) ∧ Below w.heap.size w w' := by
  have HB0 : Hid (Below w.heap.size w (w.alloc (.cells #[.int .i64 f.id, .int .i64 f.pr, .int .i64 f.ev, .bool f.pre, .string f.fr, .slice A n c] 25))) := Lib.hid (below_alloc (Below.refl _ _) _)
  have HSX := Lib.hid (hS.below HB0.out)
  have HHB := Lib.hid hb
  have HN := Lib.hid (new_none (hS.below HB0.out) hb hok)
  have HOK := Lib.hid hok
  clear hS hb wa wb wc hsc hok
  go_enter Try.func3, Try.ntmps3
  go_wp2_with fail
  refine HN.out.mono ?_
  rintro e w1 ⟨rfl, hb1⟩
  have hc1 := Cb.below (Cb.new w [.int .i64 f.id, .int .i64 f.pr, .int .i64 f.ev, .bool f.pre, .string f.fr, .slice A n c] 25) hb1
  obtain ⟨p0, p1, p2, p3, p4, p5⟩ := hc1.six
  have HRN := Lib.hid (rnew_none (HSX.out.below hb1) HHB.out HOK.out)
  have HB1 := Lib.hid (below_then HB0.out HB0.out.size hb1)
  clear hb1 hc1
  go_wp2_with fail
  refine HRN.out.mono ?_
  rintro e w2 ⟨rfl, hb2⟩
  have HB2 := Lib.hid (below_then HB1.out HB1.out.size hb2)
  obtain ⟨w3, hst3, hcb3, ho3⟩ := store34 (Cb.new w2 [.int .i64 0, .int .i64 0, .int .i64 0, .bool false, .string ⟨#[]⟩, .slice none 0 0, .int .i64 0, .int .i64 0, .int .i64 0, .slice none 0 0] 34) rfl 0 0 0 false ⟨#[]⟩ (.slice none 0 0) 0 0 0 (.slice none 0 0) rfl rfl
  have HB3 := Lib.hid (below_then HB2.out HB2.out.size (only_below (below_alloc (Below.refl _ _) _) ho3 (Nat.le_refl _)))
  clear hb2 hcb3 ho3 p0 p1 p2 p3 p4 p5
  go_wp2_with fail
  refine (alive_any _).mono ?_
  rintro e w9 ⟨rfl, hb9⟩
  go_wp2
  go_ret
  exact ⟨rfl, below_then HB3.out HB3.out.size hb9⟩

set_option maxHeartbeats 2000000 in
theorem all_long (f : Cf) (A : Option Addr) (n c : Nat) (a1 : Option Addr) (n1 c1 : Nat) (l : List Oq) (w : World) (hS : Strs w A n c f.ads) (hb : f.fr.size ≤ 140737488351232 ∧ n ≤ 8796093022208) (wa : (Lit.int .i64 f.id).wf = true) (wb : (Lit.int .i64 f.pr).wf = true) (wc : (Lit.int .i64 f.ev).wf = true) (hsc : Scr w a1 n1 c1 l) (hok : okN f = true) (hl : 300 < n1) : Calls Try.prog 3 #[.agg #[.int .i64 f.id, .int .i64 f.pr, .int .i64 f.ev, .bool f.pre, .string f.fr, .slice A n c], .slice a1 n1 c1] w fun e w' => e = .returned (.bool true) ∧ Below w.heap.size w w' := by
  have HB0 : Hid (Below w.heap.size w (w.alloc (.cells #[.int .i64 f.id, .int .i64 f.pr, .int .i64 f.ev, .bool f.pre, .string f.fr, .slice A n c] 25))) := Lib.hid (below_alloc (Below.refl _ _) _)
  have HSX := Lib.hid (hS.below HB0.out)
  have HHB := Lib.hid hb
  have HN := Lib.hid (new_some (hS.below HB0.out) hb hok)
  have HOK := Lib.hid hok
  have hXs : (w.alloc (.cells #[.int .i64 f.id, .int .i64 f.pr, .int .i64 f.ev, .bool f.pre, .string f.fr, .slice A n c] 25)).heap.size = w.heap.size + 1 := by simp
  have HXS := Lib.hid hXs
  have e1 : decide ((n1 : Int) > 300) = true := decide_eq_true (by omega)
  have e2 : decide (300 < (n1 : Int)) = true := decide_eq_true (by omega)
  clear hS hb wa wb wc hsc hok hl hXs
  go_enter Try.func3, Try.ntmps3
  go_wp2_with fail
  refine HN.out.mono ?_
  rintro e w1 ⟨B, va, rfl, hM1, hb1⟩
  have hc1 := Cb.below (Cb.new w [.int .i64 f.id, .int .i64 f.pr, .int .i64 f.ev, .bool f.pre, .string f.fr, .slice A n c] 25) hb1
  obtain ⟨p0, p1, p2, p3, p4, p5⟩ := hc1.six
  have HRN := Lib.hid (rnew_some (HSX.out.below hb1) HHB.out HOK.out)
  have HB1 : Hid (Below (w.heap.size + 1) (w.alloc (.cells #[.int .i64 f.id, .int .i64 f.pr, .int .i64 f.ev, .bool f.pre, .string f.fr, .slice A n c] 25)) w1) := Lib.hid (by have h := hb1; rwa [HXS.out] at h)
  have HM1 : Hid (Mm (w.heap.size + 1) w1 B (newM f)) := Lib.hid (by have h := hM1.mm; rwa [HXS.out] at h)
  have HS1 : Hid (w.heap.size + 1 ≤ w1.heap.size) := Lib.hid (by have := hb1.size; have := HXS.out; omega)
  clear hb1 hc1 hM1
  go_wp2_with fail
  refine HRN.out.mono ?_
  rintro e w2 ⟨rfl, hb2⟩
  have HB2 := Lib.hid (HB1.out.trans (hb2.mono HS1.out))
  have HM2 := Lib.hid (HM1.out.below hb2)
  have HS2 : Hid (w.heap.size + 1 ≤ w2.heap.size) := Lib.hid (Nat.le_trans HS1.out hb2.size)
  obtain ⟨w3, hst3, hcb3, ho3⟩ := store34 (Cb.new w2 [.int .i64 0, .int .i64 0, .int .i64 0, .bool false, .string ⟨#[]⟩, .slice none 0 0, .int .i64 0, .int .i64 0, .int .i64 0, .slice none 0 0] 34) rfl (newM f).c.id (newM f).c.pr (newM f).c.ev (newM f).c.pre (newM f).c.fr (.slice A n c) (newM f).st (newM f).pace (newM f).wt (.slice none 0 0) rfl rfl
  have hb3 := only_below (below_alloc (Below.refl w2.heap.size w2) (.cells #[.int .i64 0, .int .i64 0, .int .i64 0, .bool false, .string ⟨#[]⟩, .slice none 0 0, .int .i64 0, .int .i64 0, .int .i64 0, .slice none 0 0] 34)) ho3 (Nat.le_refl _)
  have HB3 := Lib.hid (HB2.out.trans (hb3.mono HS2.out))
  have HM3 := Lib.hid (HM2.out.below hb3)
  have HC3 := Lib.hid hcb3
  have HS3 : Hid (w.heap.size + 1 ≤ w3.heap.size) := Lib.hid (Nat.le_trans HS2.out hb3.size)
  have HRB : Hid (B < w2.heap.size) := Lib.hid HM2.out.lt
  clear hb2 hcb3 ho3 hb3 p0 p1 p2 p3 p4 p5
  go_wp2_with fail
  refine (alive_any w3).mono ?_
  rintro e w9 ⟨rfl, hb9⟩
  have HBW := Lib.hid (HB0.out.trans ((HB3.out.trans (hb9.mono HS3.out)).mono (by omega)))
  clear hb9
  go_wp2
  go_ret
  exact ⟨rfl, HBW.out⟩

set_option maxHeartbeats 8000000 in
theorem all_run (f : Cf) (A : Option Addr) (n c : Nat) (a1 : Option Addr) (n1 c1 : Nat) (l : List Oq) (w : World) (hS : Strs w A n c f.ads) (hb : f.fr.size ≤ 140737488351232 ∧ n ≤ 8796093022208) (wa : (Lit.int .i64 f.id).wf = true) (wb : (Lit.int .i64 f.pr).wf = true) (wc : (Lit.int .i64 f.ev).wf = true) (hsc : Scr w a1 n1 c1 l) (hok : okN f = true) (hl : ¬ 300 < n1) : Calls Try.prog 3 #[.agg #[.int .i64 f.id, .int .i64 f.pr, .int .i64 f.ev, .bool f.pre, .string f.fr, .slice A n c], .slice a1 n1 c1] w fun e w' => e = .returned (.bool true) ∧ Below w.heap.size w w' := by
  have HB0 : Hid (Below w.heap.size w (w.alloc (.cells #[.int .i64 f.id, .int .i64 f.pr, .int .i64 f.ev, .bool f.pre, .string f.fr, .slice A n c] 25))) := Lib.hid (below_alloc (Below.refl _ _) _)
  have HSX := Lib.hid (hS.below HB0.out)
  have HHB := Lib.hid hb
  have HN := Lib.hid (new_some (hS.below HB0.out) hb hok)
  have HOK := Lib.hid hok
  have HSC := Lib.hid (hsc.below HB0.out)
  have HL := Lib.hid hl
  have hXs : (w.alloc (.cells #[.int .i64 f.id, .int .i64 f.pr, .int .i64 f.ev, .bool f.pre, .string f.fr, .slice A n c] 25)).heap.size = w.heap.size + 1 := by simp
  have HXS := Lib.hid hXs
  have e1 : decide ((n1 : Int) > 300) = false := decide_eq_false (by omega)
  have e2 : decide (300 < (n1 : Int)) = false := decide_eq_false (by omega)
  clear hS hb wa wb wc hsc hok hl hXs
  go_enter Try.func3, Try.ntmps3
  go_wp2_with fail
  refine HN.out.mono ?_
  rintro e w1 ⟨B, va, rfl, hM1, hb1⟩
  have hc1 := Cb.below (Cb.new w [.int .i64 f.id, .int .i64 f.pr, .int .i64 f.ev, .bool f.pre, .string f.fr, .slice A n c] 25) hb1
  obtain ⟨p0, p1, p2, p3, p4, p5⟩ := hc1.six
  have HRN := Lib.hid (rnew_some (HSX.out.below hb1) HHB.out HOK.out)
  have HB1 : Hid (Below (w.heap.size + 1) (w.alloc (.cells #[.int .i64 f.id, .int .i64 f.pr, .int .i64 f.ev, .bool f.pre, .string f.fr, .slice A n c] 25)) w1) := Lib.hid (by have h := hb1; rwa [HXS.out] at h)
  have HM1 : Hid (Mm (w.heap.size + 1) w1 B (newM f)) := Lib.hid (by have h := hM1.mm; rwa [HXS.out] at h)
  have HS1 : Hid (w.heap.size + 1 ≤ w1.heap.size) := Lib.hid (by have := hb1.size; have := HXS.out; omega)
  clear hb1 hc1 hM1
  go_wp2_with fail
  refine HRN.out.mono ?_
  rintro e w2 ⟨rfl, hb2⟩
  have HB2 := Lib.hid (HB1.out.trans (hb2.mono HS1.out))
  have HM2 := Lib.hid (HM1.out.below hb2)
  have HS2 : Hid (w.heap.size + 1 ≤ w2.heap.size) := Lib.hid (Nat.le_trans HS1.out hb2.size)
  obtain ⟨w3, hst3, hcb3, ho3⟩ := store34 (Cb.new w2 [.int .i64 0, .int .i64 0, .int .i64 0, .bool false, .string ⟨#[]⟩, .slice none 0 0, .int .i64 0, .int .i64 0, .int .i64 0, .slice none 0 0] 34) rfl (newM f).c.id (newM f).c.pr (newM f).c.ev (newM f).c.pre (newM f).c.fr (.slice A n c) (newM f).st (newM f).pace (newM f).wt (.slice none 0 0) rfl rfl
  have hb3 := only_below (below_alloc (Below.refl w2.heap.size w2) (.cells #[.int .i64 0, .int .i64 0, .int .i64 0, .bool false, .string ⟨#[]⟩, .slice none 0 0, .int .i64 0, .int .i64 0, .int .i64 0, .slice none 0 0] 34)) ho3 (Nat.le_refl _)
  have HB3 := Lib.hid (HB2.out.trans (hb3.mono HS2.out))
  have HM3 := Lib.hid (HM2.out.below hb3)
  have HC3 := Lib.hid hcb3
  have HS3 : Hid (w.heap.size + 1 ≤ w3.heap.size) := Lib.hid (Nat.le_trans HS2.out hb3.size)
  have HRB : Hid (B < w2.heap.size) := Lib.hid HM2.out.lt
  clear hb2 hcb3 ho3 hb3 p0 p1 p2 p3 p4 p5
  go_wp2_with fail
  clear hst3 HB2 HS2
  generalize w2.heap.size = Rb at *
  go_loopg [54] n1 (fun gg x wr => AlRel (w.alloc (.cells #[.int .i64 f.id, .int .i64 f.pr, .int .i64 f.ev, .bool f.pre, .string f.fr, .slice A n c] 25)) (w.heap.size + 1) B Rb f.ads A n c n1 gg x wr)
  case atStart => exact ⟨0, newM f, by omega, rfl, HM3.out, OkT.new f, rfl, ⟨rfl, fun x hx => by simp [newM] at hx⟩, HC3.out, HB3.out⟩
  case round =>
    obtain ⟨i, m, hi, rfl, hm, hT, hout, hinv, hrb, hbl⟩ := hrel
    have HMi := Lib.hid hm
    have HT := Lib.hid hT
    have HOU := Lib.hid hout
    have HIN := Lib.hid hinv
    have HRi := Lib.hid hrb
    have HBi := Lib.hid hbl
    have HSi : Hid (w.heap.size + 1 ≤ wr.heap.size) := Lib.hid (by have := hbl.size; have := HXS.out; omega)
    clear hm hT hout hinv hrb hbl HC3 HM3 HB3 HS3 HN HRN HM1 HB1 HS1 HM2
    by_cases hlt : i < n1
    · have e3 : decide ((i : Int) < (n1 : Int)) = true := decide_eq_true (by omega)
      have hbX : Below (w.alloc (.cells #[.int .i64 f.id, .int .i64 f.pr, .int .i64 f.ev, .bool f.pre, .string f.fr, .slice A n c] 25)).heap.size (w.alloc (.cells #[.int .i64 f.id, .int .i64 f.pr, .int .i64 f.ev, .bool f.pre, .string f.fr, .slice A n c] 25)) wr := by have h := HBi.out; rwa [← HXS.out] at h
      obtain ⟨b, off, A2, q2, k2, ha1, hbl2, s0, s1, s2, s3, s4, s5, s6⟩ := (HSC.out.below hbX).at hlt
      subst ha1
      generalize l[i]! = o at *
      obtain ⟨kd, on, fr1, ai, ap, ae, ax⟩ := o
      simp only at s0 s1 s2 s3 s4 s5 s6
      obtain ⟨w5, hst5, hcb5, hb5⟩ := box41 wr kd on fr1 ai ap ae A2 q2 k2
      obtain ⟨g0, g1, g2, g3, g4, g5, g6⟩ := hcb5.seven
      have hlt1 : (i : Int) < (n1 : Int) := by omega
      have HW : Hid (Value.int .i64 (wrap64 ((i : Int) + 1)) = .int .i64 ((i + 1 : Nat) : Int)) := Lib.hid (by congr 1; have := HL.out; unfold wrap64; omega)
      have HC5 := Lib.hid hcb5
      have hls := hcb5.lt
      have hr5 := HRi.out.below hb5
      obtain ⟨y0, y1, y2, y3, y4, y5, y6, y7, y8, y9⟩ := hr5.ten
      have HR5 := Lib.hid hr5
      have HM5 := Lib.hid (HMi.out.below hb5)
      have HB5 := Lib.hid (HBi.out.trans (hb5.mono HSi.out))
      have HS5 : Hid (w.heap.size + 1 ≤ w5.heap.size) := Lib.hid (Nat.le_trans HSi.out hb5.size)
      have HNR : Hid (Rb ≠ wr.heap.size) := Lib.hid (by have := HRi.out.lt; omega)
      have HDR := Lib.hid (rdo_any (b := w.heap.size + 1) (w := w5) (m := m) (vo := .slice none 0 0) (A := A) (n := n) (c := c) (by rw [HOU.out]; exact Rw.nil _ _ _ _ _) HS5.out (by rw [HOU.out]; simp) HM5.out.ok kd on fr1 ai ap ae ax A2 q2 k2)
      have HDP := fun (W : World) (hM : Mm (w.heap.size + 1) W B m) => Lib.hid (does_any (A := A2) (n := q2) (c := k2) hM HT.out (by rw [HOU.out]; simp) ⟨kd, on, fr1, ⟨ai, ap, ae, ax⟩⟩)
      have HINV := Lib.hid (HIN.out.does ⟨kd, on, fr1, ⟨ai, ap, ae, ax⟩⟩)
      have HOT := Lib.hid (OkT.does HMi.out.ok HT.out ⟨kd, on, fr1, ⟨ai, ap, ae, ax⟩⟩)
      have HOL : Hid ((doM m ⟨kd, on, fr1, ⟨ai, ap, ae, ax⟩⟩).out.length ≤ 4000) := Lib.hid (by have h := out_does m ⟨kd, on, fr1, ⟨ai, ap, ae, ax⟩⟩; rw [HOU.out] at h; simpa using h)
      generalize doM m ⟨kd, on, fr1, ⟨ai, ap, ae, ax⟩⟩ = m6 at *
      clear hb5 hcb5 hbX hr5
      go_wp2_with fail
      refine HDR.out.mono ?_
      rintro e w6 ⟨vo6, rfl, hr6, hb6⟩
      obtain ⟨a6, j6, c6, rfl⟩ := hr6.letters
      have hx6 := HR5.out.below hb6
      obtain ⟨w7, hst7, hcb7, ho7⟩ := store34 hx6 rfl m6.c.id m6.c.pr m6.c.ev m6.c.pre m6.c.fr (.slice A n c) m6.st m6.pace m6.wt (.slice a6 j6 c6) rfl rfl
      have hbb7 : Below (w.heap.size + 1) w6 w7 := ho7.below (Nat.le_trans HS5.out hb6.size) fun i hi => by have h : i = Rb := hi; have := HRB.out; have := HMi.out.lo; omega
      have HB7 := Lib.hid ((HB5.out.trans (hb6.mono HS5.out)).trans hbb7)
      have HS7 : Hid (w.heap.size + 1 ≤ w7.heap.size) := Lib.hid (Nat.le_trans (Nat.le_trans HS5.out hb6.size) ho7.size)
      have HM7 := Lib.hid ((HM5.out.below hb6).aside hx6 ⟨by decide, by decide, by decide⟩ ho7)
      have HR7 := Lib.hid (hr6.put ho7 hx6)
      have HX7 := Lib.hid hcb7
      have ho8 := (HC5.out.below hb6).only ho7 (fun e => HNR.out e.symm)
      obtain ⟨g0, g1, g2, g3, g4, g5, g6⟩ := ho8.seven
      have HD7 := HDP w7 HM7.out
      clear hr6 hb6 hx6 hcb7 ho7 hbb7 ho8 HDP HDR y0 y1 y2 y3 y4 y5 y6 y7 y8 y9
      go_wp2_with fail
      refine HD7.out.mono ?_
      rintro e w8 ⟨rfl, hm8, hk8⟩
      obtain ⟨va7, vo7, l7, hS7⟩ := HM7.out
      have HAL : Hid (AlS (w.heap.size + 1) (w.alloc (.cells #[.int .i64 f.id, .int .i64 f.pr, .int .i64 f.ev, .bool f.pre, .string f.fr, .slice A n c] 25)) Rb m6 A n c (.slice a6 j6 c6) w8) := Lib.hid (AlS.kp ⟨HX7.out, HR7.out, HB7.out, HS7.out⟩ hk8 (by have := HRB.out; omega) hS7.lo hS7.blk)
      have HRN : Hid (Rb ≠ B) := Lib.hid (by have := HRB.out; omega)
      have HM8 := Lib.hid hm8
      clear hm8 hk8 hS7 HD7 HX7 HR7 HB7 HS7 HM7 hst7
      go_wp2_with fail
      refine wp_region_held_drew (S := AlS (w.heap.size + 1) (w.alloc (.cells #[.int .i64 f.id, .int .i64 f.pr, .int .i64 f.ev, .bool f.pre, .string f.fr, .slice A n c] 25)) Rb m6 A n c (.slice a6 j6 c6)) (by kernel_rfl) (HAL.out.below (below_drew (Below.refl _ _))) (fun hHeld => ?_)
      have hM := HM8.out.drewN 1
      rw [show w8.drewN 1 = w8.drew from rfl] at hM
      clear HAL HM8
      generalize w8.drew = w8 at *
      refine wpAnyH_take (i := 0) (oi := ({ dst := some 64, op := Go.Op.move (Go.Operand.tmp 5), type := 27, pos := _, after := #[], guard := none } : Oper)) (v := ?_) rfl (by kernel_rfl) (by kernel_rfl) (by kernel_rfl) (fun _ _ _ h => h) (Or.inl ⟨by rfl, ?_⟩) (by assumption) ?_
      rotate_left
      · intro W' hSw
        try dsimp only at hSw
        go_simp
        try with_reducible rfl
      try simp only [Act.put, List.setIfInBounds_toArray, List.set_cons_zero, List.set_cons_succ]
      refine wpAnyH_take (i := 2) (oi := ({ dst := some 66, op := Go.Op.fieldAddr 34 (Go.Operand.tmp 7) 1, type := 0, pos := _, after := #[], guard := none } : Oper)) (v := ?_) rfl (by kernel_rfl) (by kernel_rfl) (by kernel_rfl) (fun _ _ _ h => h) (Or.inl ⟨by rfl, ?_⟩) (by assumption) ?_
      rotate_left
      · intro W' hSw
        try dsimp only at hSw
        go_simp
        try with_reducible rfl
      try simp only [Act.put, List.setIfInBounds_toArray, List.set_cons_zero, List.set_cons_succ]
      refine wpAnyH_take (i := 3) (oi := ({ dst := some 67, op := Go.Op.load 3 (Go.Operand.tmp 66), type := 3, pos := _, after := #[{ on := 2, ground := Go.Ground.data }], guard := none } : Oper)) (v := ?_) rfl (by kernel_rfl) (by kernel_rfl) (by kernel_rfl) (fun _ _ _ h => h) (Or.inl ⟨by rfl, ?_⟩) (by assumption) ?_
      rotate_left
      · intro W' hSw
        try dsimp only at hSw
        obtain ⟨y0, y1, y2, y3, y4, y5, y6, y7, y8, y9⟩ := hSw.rb.ten
        go_simp
        try with_reducible rfl
      try simp only [Act.put, List.setIfInBounds_toArray, List.set_cons_zero, List.set_cons_succ]
      refine wpAnyH_ready (rs := [1]) (by kernel_rfl) (by simp) ?_
      refine AllReadyH.cons (o := ({ dst := some 65, op := Go.Op.call { callee := Go.Callee.value (Go.Operand.func 16), args := #[Go.Operand.tmp 64], argTypes := #[27] }, type := 3, pos := _, after := #[{ on := 0, ground := Go.Ground.data }], guard := none } : Oper)) rfl (fun K hK => ?_) AllReadyH.nil
      go_simp
      refine (state_any hM.cells.2.1).mono ?_
      rintro e w' ⟨rfl, rfl⟩
      go_wp2_with fail
      refine hK.out _ _ ?_ (fun hHeld => ?_)
      · exact hHeld
      clear hK K
      try simp only [Act.put, List.setIfInBounds_toArray, List.set_cons_zero, List.set_cons_succ]
      refine wpAnyH_take (i := 4) (oi := ({ dst := some 68, op := Go.Op.binOp Go.BinOp.neq 3 (Go.Operand.tmp 65) (Go.Operand.tmp 67) 3, type := 4, pos := _, after := #[{ on := 1, ground := Go.Ground.data }, { on := 3, ground := Go.Ground.data }], guard := none } : Oper)) (v := ?_) rfl (by kernel_rfl) (by kernel_rfl) (by kernel_rfl) (fun _ _ _ h => h) (Or.inl ⟨by rfl, ?_⟩) (by assumption) ?_
      rotate_left
      · intro W' hSw
        try dsimp only at hSw
        go_simp
        try with_reducible rfl
      try simp only [Act.put, List.setIfInBounds_toArray, List.set_cons_zero, List.set_cons_succ]
      refine wpAnyH_take (i := 5) (oi := ({ dst := some 69, op := Go.Op.move (Go.Operand.tmp 68), type := 4, pos := _, after := #[{ on := 4, ground := Go.Ground.data }, { on := 1, ground := Go.Ground.chain }], guard := none } : Oper)) (v := ?_) rfl (by kernel_rfl) (by kernel_rfl) (by kernel_rfl) (fun _ _ _ h => h) (Or.inl ⟨by rfl, ?_⟩) (by assumption) ?_
      rotate_left
      · intro W' hSw
        try dsimp only at hSw
        go_simp
        try with_reducible rfl
      try simp only [Act.put, List.setIfInBounds_toArray, List.set_cons_zero, List.set_cons_succ]
      refine wpAnyH_take (i := 6) (oi := ({ dst := some 70, op := Go.Op.move (Go.Operand.tmp 5), type := 27, pos := _, after := #[{ on := 5, ground := Go.Ground.guard }], guard := some (5, false) } : Oper)) (v := ?_) rfl (by kernel_rfl) (by kernel_rfl) (by kernel_rfl) (fun _ _ _ h => h) (Or.inl ⟨by rfl, ?_⟩) (by assumption) ?_
      rotate_left
      · intro W' hSw
        try dsimp only at hSw
        go_simp
        try with_reducible rfl
      try simp only [Act.put, List.setIfInBounds_toArray, List.set_cons_zero, List.set_cons_succ]
      refine wpAnyH_take (i := 8) (oi := ({ dst := some 72, op := Go.Op.fieldAddr 34 (Go.Operand.tmp 7) 3, type := 0, pos := _, after := #[{ on := 5, ground := Go.Ground.guard }], guard := some (5, false) } : Oper)) (v := ?_) rfl (by kernel_rfl) (by kernel_rfl) (by kernel_rfl) (fun _ _ _ h => h) (Or.inl ⟨by rfl, ?_⟩) (by assumption) ?_
      rotate_left
      · intro W' hSw
        try dsimp only at hSw
        go_simp
        try with_reducible rfl
      try simp only [Act.put, List.setIfInBounds_toArray, List.set_cons_zero, List.set_cons_succ]
      refine wpAnyH_take (i := 9) (oi := ({ dst := some 73, op := Go.Op.load 3 (Go.Operand.tmp 72), type := 3, pos := _, after := #[{ on := 8, ground := Go.Ground.data }, { on := 5, ground := Go.Ground.guard }], guard := some (5, false) } : Oper)) (v := ?_) rfl (by kernel_rfl) (by kernel_rfl) (by kernel_rfl) (fun _ _ _ h => h) (Or.inl ⟨by rfl, ?_⟩) (by assumption) ?_
      rotate_left
      · intro W' hSw
        try dsimp only at hSw
        obtain ⟨y0, y1, y2, y3, y4, y5, y6, y7, y8, y9⟩ := hSw.rb.ten
        go_simp
        try with_reducible rfl
      try simp only [Act.put, List.setIfInBounds_toArray, List.set_cons_zero, List.set_cons_succ]
      refine wpAnyH_ready (rs := [7]) (by kernel_rfl) (by simp) ?_
      refine AllReadyH.cons (o := ({ dst := some 71, op := Go.Op.call { callee := Go.Callee.value (Go.Operand.func 17), args := #[Go.Operand.tmp 70], argTypes := #[27] }, type := 3, pos := _, after := #[{ on := 6, ground := Go.Ground.data }, { on := 5, ground := Go.Ground.chain }, { on := 5, ground := Go.Ground.guard }], guard := some (5, false) } : Oper)) rfl (fun K hK => ?_) AllReadyH.nil
      go_simp
      refine (wait_any hM.cells.2.2.2).mono ?_
      rintro e w' ⟨rfl, rfl⟩
      go_wp2_with fail
      refine hK.out _ _ ?_ (fun hHeld => ?_)
      · exact hHeld
      clear hK K
      try simp only [Act.put, List.setIfInBounds_toArray, List.set_cons_zero, List.set_cons_succ]
      refine wpAnyH_take (i := 10) (oi := ({ dst := some 74, op := Go.Op.binOp Go.BinOp.neq 3 (Go.Operand.tmp 71) (Go.Operand.tmp 73) 3, type := 4, pos := _, after := #[{ on := 7, ground := Go.Ground.data }, { on := 9, ground := Go.Ground.data }, { on := 5, ground := Go.Ground.guard }], guard := some (5, false) } : Oper)) (v := ?_) rfl (by kernel_rfl) (by kernel_rfl) (by kernel_rfl) (fun _ _ _ h => h) (Or.inl ⟨by rfl, ?_⟩) (by assumption) ?_
      rotate_left
      · intro W' hSw
        try dsimp only at hSw
        go_simp
        try with_reducible rfl
      try simp only [Act.put, List.setIfInBounds_toArray, List.set_cons_zero, List.set_cons_succ]
      refine wpAnyH_take (i := 11) (oi := ({ dst := some 75, op := Go.Op.pick (Go.Operand.tmp 69) (Go.Operand.const (Go.Value.bool true)) (Go.Operand.tmp 74), type := 4, pos := _, after := #[{ on := 5, ground := Go.Ground.data }, { on := 10, ground := Go.Ground.data }], guard := none } : Oper)) (v := ?_) rfl (by kernel_rfl) (by kernel_rfl) (by kernel_rfl) (fun _ _ _ h => h) (Or.inl ⟨by rfl, ?_⟩) (by assumption) ?_
      rotate_left
      · intro W' hSw
        try dsimp only at hSw
        go_simp
        try with_reducible rfl
      try simp only [Act.put, List.setIfInBounds_toArray, List.set_cons_zero, List.set_cons_succ]
      refine wpAnyH_take (i := 12) (oi := ({ dst := some 76, op := Go.Op.move (Go.Operand.tmp 75), type := 4, pos := _, after := #[{ on := 11, ground := Go.Ground.data }, { on := 7, ground := Go.Ground.chain }], guard := none } : Oper)) (v := ?_) rfl (by kernel_rfl) (by kernel_rfl) (by kernel_rfl) (fun _ _ _ h => h) (Or.inl ⟨by rfl, ?_⟩) (by assumption) ?_
      rotate_left
      · intro W' hSw
        try dsimp only at hSw
        go_simp
        try with_reducible rfl
      try simp only [Act.put, List.setIfInBounds_toArray, List.set_cons_zero, List.set_cons_succ]
      refine wpAnyH_take (i := 13) (oi := ({ dst := some 77, op := Go.Op.move (Go.Operand.tmp 5), type := 27, pos := _, after := #[{ on := 12, ground := Go.Ground.guard }], guard := some (12, false) } : Oper)) (v := ?_) rfl (by kernel_rfl) (by kernel_rfl) (by kernel_rfl) (fun _ _ _ h => h) (Or.inl ⟨by rfl, ?_⟩) (by assumption) ?_
      rotate_left
      · intro W' hSw
        try dsimp only at hSw
        go_simp
        try with_reducible rfl
      try simp only [Act.put, List.setIfInBounds_toArray, List.set_cons_zero, List.set_cons_succ]
      refine wpAnyH_take (i := 15) (oi := ({ dst := some 79, op := Go.Op.load 34 (Go.Operand.tmp 7), type := 34, pos := _, after := #[{ on := 12, ground := Go.Ground.guard }], guard := some (12, false) } : Oper)) (v := ?_) rfl (by kernel_rfl) (by kernel_rfl) (by kernel_rfl) (fun _ _ _ h => h) (Or.inl ⟨by rfl, ?_⟩) (by assumption) ?_
      rotate_left
      · intro W' hSw
        try dsimp only at hSw
        obtain ⟨y0, y1, y2, y3, y4, y5, y6, y7, y8, y9⟩ := hSw.rb.ten
        go_simp
        try with_reducible rfl
      try simp only [Act.put, List.setIfInBounds_toArray, List.set_cons_zero, List.set_cons_succ]
      refine wpAnyH_ready (rs := [14]) (by kernel_rfl) (by simp) ?_
      refine AllReadyH.cons (o := ({ dst := some 78, op := Go.Op.call { callee := Go.Callee.value (Go.Operand.func 18), args := #[Go.Operand.tmp 77], argTypes := #[27] }, type := 3, pos := _, after := #[{ on := 13, ground := Go.Ground.data }, { on := 12, ground := Go.Ground.chain }, { on := 12, ground := Go.Ground.guard }], guard := some (12, false) } : Oper)) rfl (fun K hK => ?_) AllReadyH.nil
      go_simp
      refine (down_any hM.ok.pace hM.cells.1 hM.cells.2.2.1).mono ?_
      rintro e w' ⟨rfl, q, rfl⟩
      go_wp2_with fail
      refine hK.out _ _ ?_ (fun hHeld => ?_)
      · exact hHeld.below (below_drewN (Below.refl _ _) q)
      clear hK K
      try simp only [Act.put, List.setIfInBounds_toArray, List.set_cons_zero, List.set_cons_succ]
      replace hM := hM.drewN q
      refine wpAnyH_ready (rs := [16]) (by kernel_rfl) (by simp) ?_
      refine AllReadyH.cons (o := ({ dst := some 80, op := Go.Op.call { callee := Go.Callee.value (Go.Operand.func 19), args := #[Go.Operand.tmp 79], argTypes := #[34] }, type := 3, pos := _, after := #[{ on := 15, ground := Go.Ground.data }, { on := 14, ground := Go.Ground.chain }, { on := 12, ground := Go.Ground.guard }], guard := some (12, false) } : Oper)) rfl (fun K hK => ?_) AllReadyH.nil
      go_simp
      refine (rdown_any hM.ok.pace).mono ?_
      rintro e w16 ⟨rfl, hb16⟩
      go_wp2_with fail
      refine hK.out _ _ ?_ (fun hHeld => ?_)
      · exact hHeld.below hb16
      clear hK K
      try simp only [Act.put, List.setIfInBounds_toArray, List.set_cons_zero, List.set_cons_succ]
      replace hM := hM.below hb16
      clear hb16
      obtain ⟨va8, vo8, l8, hS8⟩ := hM
      obtain ⟨ao8, co8, rfl, -, -⟩ := row_any hS8.row
      refine wpAnyH_take (i := 17) (oi := ({ dst := some 81, op := Go.Op.binOp Go.BinOp.neq 3 (Go.Operand.tmp 78) (Go.Operand.tmp 80) 3, type := 4, pos := _, after := #[{ on := 14, ground := Go.Ground.data }, { on := 16, ground := Go.Ground.data }, { on := 12, ground := Go.Ground.guard }], guard := some (12, false) } : Oper)) (v := ?_) rfl (by kernel_rfl) (by kernel_rfl) (by kernel_rfl) (fun _ _ _ h => h) (Or.inl ⟨by rfl, ?_⟩) (by assumption) ?_
      rotate_left
      · intro W' hSw
        try dsimp only at hSw
        go_simp
        try with_reducible rfl
      try simp only [Act.put, List.setIfInBounds_toArray, List.set_cons_zero, List.set_cons_succ]
      refine wpAnyH_take (i := 18) (oi := ({ dst := some 82, op := Go.Op.pick (Go.Operand.tmp 76) (Go.Operand.const (Go.Value.bool true)) (Go.Operand.tmp 81), type := 4, pos := _, after := #[{ on := 12, ground := Go.Ground.data }, { on := 17, ground := Go.Ground.data }], guard := none } : Oper)) (v := ?_) rfl (by kernel_rfl) (by kernel_rfl) (by kernel_rfl) (fun _ _ _ h => h) (Or.inl ⟨by rfl, ?_⟩) (by assumption) ?_
      rotate_left
      · intro W' hSw
        try dsimp only at hSw
        go_simp
        try with_reducible rfl
      try simp only [Act.put, List.setIfInBounds_toArray, List.set_cons_zero, List.set_cons_succ]
      refine wpAnyH_take (i := 19) (oi := ({ dst := some 83, op := Go.Op.move (Go.Operand.tmp 82), type := 4, pos := _, after := #[{ on := 18, ground := Go.Ground.data }, { on := 16, ground := Go.Ground.chain }], guard := none } : Oper)) (v := ?_) rfl (by kernel_rfl) (by kernel_rfl) (by kernel_rfl) (fun _ _ _ h => h) (Or.inl ⟨by rfl, ?_⟩) (by assumption) ?_
      rotate_left
      · intro W' hSw
        try dsimp only at hSw
        go_simp
        try with_reducible rfl
      try simp only [Act.put, List.setIfInBounds_toArray, List.set_cons_zero, List.set_cons_succ]
      refine wpAnyH_take (i := 20) (oi := ({ dst := some 84, op := Go.Op.move (Go.Operand.tmp 5), type := 27, pos := _, after := #[{ on := 19, ground := Go.Ground.guard }], guard := some (19, false) } : Oper)) (v := ?_) rfl (by kernel_rfl) (by kernel_rfl) (by kernel_rfl) (fun _ _ _ h => h) (Or.inl ⟨by rfl, ?_⟩) (by assumption) ?_
      rotate_left
      · intro W' hSw
        try dsimp only at hSw
        go_simp
        try with_reducible rfl
      try simp only [Act.put, List.setIfInBounds_toArray, List.set_cons_zero, List.set_cons_succ]
      refine wpAnyH_take (i := 23) (oi := ({ dst := some 87, op := Go.Op.fieldAddr 34 (Go.Operand.tmp 7) 4, type := 0, pos := _, after := #[{ on := 19, ground := Go.Ground.guard }], guard := some (19, false) } : Oper)) (v := ?_) rfl (by kernel_rfl) (by kernel_rfl) (by kernel_rfl) (fun _ _ _ h => h) (Or.inl ⟨by rfl, ?_⟩) (by assumption) ?_
      rotate_left
      · intro W' hSw
        try dsimp only at hSw
        go_simp
        try with_reducible rfl
      try simp only [Act.put, List.setIfInBounds_toArray, List.set_cons_zero, List.set_cons_succ]
      refine wpAnyH_take (i := 24) (oi := ({ dst := some 88, op := Go.Op.load 32 (Go.Operand.tmp 87), type := 32, pos := _, after := #[{ on := 23, ground := Go.Ground.data }, { on := 19, ground := Go.Ground.guard }], guard := some (19, false) } : Oper)) (v := ?_) rfl (by kernel_rfl) (by kernel_rfl) (by kernel_rfl) (fun _ _ _ h => h) (Or.inl ⟨by rfl, ?_⟩) (by assumption) ?_
      rotate_left
      · intro W' hSw
        try dsimp only at hSw
        obtain ⟨y0, y1, y2, y3, y4, y5, y6, y7, y8, y9⟩ := hSw.rb.ten
        go_simp
        try with_reducible rfl
      try simp only [Act.put, List.setIfInBounds_toArray, List.set_cons_zero, List.set_cons_succ]
      refine wpAnyH_ready (rs := [21]) (by kernel_rfl) (by simp) ?_
      refine AllReadyH.cons (o := ({ dst := some 85, op := Go.Op.call { callee := Go.Callee.value (Go.Operand.func 22), args := #[Go.Operand.tmp 84], argTypes := #[27] }, type := 48, pos := _, after := #[{ on := 20, ground := Go.Ground.data }, { on := 19, ground := Go.Ground.chain }, { on := 19, ground := Go.Ground.guard }], guard := some (19, false) } : Oper)) rfl (fun K hK => ?_) AllReadyH.nil
      go_simp
      refine (out_any hS8).mono ?_
      rintro e w21 ⟨rfl, hm21, hrow21, hadr21, hk21⟩
      go_wp2_with fail
      refine hK.out _ _ ?_ (fun hHeld => ?_)
      · exact hHeld.kp hk21 HRN.out hS8.lo hS8.blk
      clear hK K
      try simp only [Act.put, List.setIfInBounds_toArray, List.set_cons_zero, List.set_cons_succ]
      have hq21 := eq1_own hS8.ok HINV.out hS8.lst hadr21
      have HLN := Lib.hid hS8.len
      have HLS8 := Lib.hid hS8.lst
      have hMo := hm21.mm
      clear hS8 hm21 hadr21 hk21
      refine wpAnyH_ready (rs := [22]) (by kernel_rfl) (by simp) ?_
      refine AllReadyH.cons (o := ({ dst := some 86, op := Go.Op.call { callee := Go.Callee.value (Go.Operand.func 21), args := #[Go.Operand.tmp 85], argTypes := #[48] }, type := 32, pos := _, after := #[{ on := 21, ground := Go.Ground.data }, { on := 21, ground := Go.Ground.chain }, { on := 19, ground := Go.Ground.guard }], guard := some (19, false) } : Oper)) rfl (fun K hK => ?_) AllReadyH.nil
      go_simp
      refine (plain_any hrow21 (fun x hx => by obtain ⟨a, k, j, h1, -⟩ := hq21 x hx; exact ⟨a, k, j, h1⟩) (by have := HOL.out; have := HLN.out; omega)).mono ?_
      rintro e w22 ⟨v22, rfl, hrow22, hb22⟩
      obtain ⟨a22, c22, rfl, -, -⟩ := row_any hrow22
      go_wp2_with fail
      refine hK.out _ _ ?_ (fun hHeld => ?_)
      · exact hHeld.below hb22
      clear hK K
      try simp only [Act.put, List.setIfInBounds_toArray, List.set_cons_zero, List.set_cons_succ]
      have hq22 := fun x hx => (hq21 x hx).below hb22
      replace hMo := hMo.below hb22
      clear hrow21 hq21 hb22
      refine wpAnyH_ready (rs := [25]) (by kernel_rfl) (by simp) ?_
      refine AllReadyH.cons (o := ({ dst := some 89, op := Go.Op.call { callee := Go.Callee.value (Go.Operand.func 20), args := #[Go.Operand.tmp 86, Go.Operand.tmp 88], argTypes := #[32, 32] }, type := 4, pos := _, after := #[{ on := 22, ground := Go.Ground.data }, { on := 24, ground := Go.Ground.data }, { on := 22, ground := Go.Ground.chain }, { on := 19, ground := Go.Ground.guard }], guard := some (19, false) } : Oper)) rfl (fun K hK => ?_) AllReadyH.nil
      go_simp
      have hrr := hHeld.row
      unfold Rw at hrr
      rw [← rz_len A n c] at hrr
      have HSM := Lib.hid (ev_same hrow22 hrr (by rw [rz_fst]; exact HLS8.out) hq22 (eq1_ref (HSX.out.below (by have h := hHeld.low; rwa [← HXS.out] at h)) HHB.out.2 HINV.out.evs) (by have := HOL.out; have := HLN.out; omega))
      clear hrr
      try rw [rz_len] at HSM
      refine HSM.out.mono ?_
      rintro e w25 ⟨rfl, hb25⟩
      go_wp2_with fail
      refine hK.out _ _ ?_ (fun hHeld => ?_)
      · exact hHeld.below hb25
      clear hK K
      try simp only [Act.put, List.setIfInBounds_toArray, List.set_cons_zero, List.set_cons_succ]
      replace hMo := hMo.below hb25
      clear hb25 HSM hrow22 hq22
      refine wpAnyH_take (i := 26) (oi := ({ dst := some 90, op := Go.Op.unOp Go.UnOp.not 4 (Go.Operand.tmp 89), type := 4, pos := _, after := #[{ on := 25, ground := Go.Ground.data }, { on := 19, ground := Go.Ground.guard }], guard := some (19, false) } : Oper)) (v := ?_) rfl (by kernel_rfl) (by kernel_rfl) (by kernel_rfl) (fun _ _ _ h => h) (Or.inl ⟨by rfl, ?_⟩) (by assumption) ?_
      rotate_left
      · intro W' hSw
        try dsimp only at hSw
        go_simp
        try with_reducible rfl
      try simp only [Act.put, List.setIfInBounds_toArray, List.set_cons_zero, List.set_cons_succ]
      refine wpAnyH_take (i := 27) (oi := ({ dst := some 91, op := Go.Op.pick (Go.Operand.tmp 83) (Go.Operand.const (Go.Value.bool true)) (Go.Operand.tmp 90), type := 4, pos := _, after := #[{ on := 19, ground := Go.Ground.data }, { on := 26, ground := Go.Ground.data }], guard := none } : Oper)) (v := ?_) rfl (by kernel_rfl) (by kernel_rfl) (by kernel_rfl) (fun _ _ _ h => h) (Or.inl ⟨by rfl, ?_⟩) (by assumption) ?_
      rotate_left
      · intro W' hSw
        try dsimp only at hSw
        go_simp
        try with_reducible rfl
      try simp only [Act.put, List.setIfInBounds_toArray, List.set_cons_zero, List.set_cons_succ]
      refine wpAnyH_done (by kernel_rfl) ?_ _
      have HHE := Lib.hid hHeld
      have HMO := Lib.hid hMo
      have hc9 := hHeld.rb.cell 9
      have hf9 := hHeld.rb.free 9
      have hl9 := hHeld.rb.lt
      have HEND : Hid (AlRel (w.alloc (.cells #[.int .i64 f.id, .int .i64 f.pr, .int .i64 f.ev, .bool f.pre, .string f.fr, .slice A n c] 25)) (w.heap.size + 1) B Rb f.ads A n c n1 (n1 - (i + 1)) (.int .i64 ((i + 1 : Nat) : Int)) (w25.setCell ⟨Rb, 9, none⟩ (.slice none 0 0))) := Lib.hid (by
        have ho : Only (· = Rb) w25 (w25.setCell ⟨Rb, 9, none⟩ (.slice none 0 0)) := (Only.refl (· = Rb) w25).setCell (p := ⟨Rb, 9, none⟩) (.inl rfl) _
        exact ⟨i + 1, outM m6, by omega, rfl, HMO.out.aside HHE.out.rb ⟨by decide, by decide, by decide⟩ ho, HOT.out.outed, rfl, ⟨HINV.out.ads, fun x hx => by simp [outM] at hx⟩, HHE.out.rb.setAt 9 _, HHE.out.low.trans (ho.below HHE.out.big fun i hi => by have h : i = Rb := hi; have := HRB.out; have := HMi.out.lo; omega)⟩)
      clear hHeld hMo
      go_wp2
      go_roundg (n1 - (i + 1))
      case measure => omega
      case rel => rw [HW.out]; exact HEND.out
    · have e3 : decide ((i : Int) < (n1 : Int)) = false := decide_eq_false (by omega)
      have hlt1 : ¬ (i : Int) < (n1 : Int) := by omega
      go_wp2_with fail
      refine (alive_any wr).mono ?_
      rintro e w10 ⟨rfl, hb10⟩
      have HM10 := Lib.hid (HMi.out.below hb10)
      have HB10 := Lib.hid (HBi.out.trans (hb10.mono HSi.out))
      have HS10 : Hid (w.heap.size + 1 ≤ w10.heap.size) := Lib.hid (Nat.le_trans HSi.out hb10.size)
      obtain ⟨va9, vo9, l9, hS9⟩ := HM10.out
      have hp0 := setp_any hS9 0
      rw [show decide (1 ≤ (0 : Int) ∧ (0 : Int) ≤ 255) = false by decide] at hp0
      have HP0 := Lib.hid hp0
      clear hb10 hS9 hp0
      go_wp2_with fail
      refine HP0.out.mono ?_
      rintro e w11 ⟨rfl, hm11, hk11⟩
      have HB11 := Lib.hid (HB10.out.trans (hk11.below (Nat.le_refl _) HM10.out.lo HS10.out))
      have hp1 := setp_any hm11 1
      rw [show decide (1 ≤ (1 : Int) ∧ (1 : Int) ≤ 255) = true by decide] at hp1
      have HP1 := Lib.hid hp1
      have HS11 : Hid (w.heap.size + 1 ≤ w11.heap.size) := Lib.hid (Nat.le_trans HS10.out hk11.size)
      have HLO := Lib.hid hm11.lo
      clear hm11 hk11 hp1
      go_wp2_with fail
      refine HP1.out.mono ?_
      rintro e w12 ⟨rfl, hm12, hk12⟩
      have HBW := Lib.hid (HB0.out.trans ((HB11.out.trans (hk12.below (Nat.le_refl _) HLO.out HS11.out)).mono (by omega)))
      clear hm12 hk12
      go_wp2
      go_ret
      exact ⟨rfl, HBW.out⟩

/-- VrrpAll. -/
theorem all_walk (f : Cf) (A : Option Addr) (n c : Nat) (a1 : Option Addr) (n1 c1 : Nat) (l : List Oq) (w : World) (hS : Strs w A n c f.ads) (hb : f.fr.size ≤ 140737488351232 ∧ n ≤ 8796093022208) (wa : (Lit.int .i64 f.id).wf = true) (wb : (Lit.int .i64 f.pr).wf = true) (wc : (Lit.int .i64 f.ev).wf = true) (hsc : Scr w a1 n1 c1 l) : Calls Try.prog 3 #[.agg #[.int .i64 f.id, .int .i64 f.pr, .int .i64 f.ev, .bool f.pre, .string f.fr, .slice A n c], .slice a1 n1 c1] w fun e w' => e = .returned (.bool true) ∧ Below w.heap.size w w' := by
  cases hok : okN f
  · exact all_no f A n c a1 n1 c1 l w hS hb wa wb wc hsc hok
  · by_cases hl : 300 < n1
    · exact all_long f A n c a1 n1 c1 l w hS hb wa wb wc hsc hok hl
    · exact all_run f A n c a1 n1 c1 l w hS hb wa wb wc hsc hok hl
end Go.Proofs.Ytpcdaidgijkkbaa
