/-
  What VrrpWaits does.
-/
import Derived.Test.YtpcdaidgijkkbaaVlaw
namespace Go.Proofs.Ytpcdaidgijkkbaa
open Go.RowKit Go.Maps
set_option linter.unusedVariables false
set_option linter.unusedSimpArgs false
set_option maxRecDepth 40000
attribute [local go_sem ↓] bigS39

theorem store39w {W : World} {b : Nat} {tt : TypeId} {cur : List Value} (hb : Cb W b tt cur) (hl : cur.length = 4) (x0 x1 x2 : Int) (A : Option Addr) (n c : Nat) :
    ∃ W', (bigS 39 ⟨b, 0, none⟩ (.agg #[.int .i64 x0, .int .i64 x1, .int .i64 x2, .slice A n c])).run Try.prog W = .ok () W' ∧ Cb W' b tt [.int .i64 x0, .int .i64 x1, .int .i64 x2, .slice A n c] ∧ Only (· = b) W W' := by
  obtain ⟨h3, h4, h5⟩ := store_cb (t := 39) hb [.int .i64 x0, .int .i64 x1, .int .i64 x2, .slice A n c] 4 hl rfl (fun u hu => by
    simp only [List.mem_cons, List.not_mem_nil, or_false] at hu
    rcases hu with rfl | rfl | rfl | rfl <;> rfl) (Try.sizeOf39 W)
  exact ⟨_, h3, h4, h5⟩
theorem box39 (W : World) (x0 x1 x2 : Int) (A : Option Addr) (n c : Nat) :
    ∃ W', (bigS 39 ⟨W.heap.size, 0, none⟩ (.agg #[.int .i64 x0, .int .i64 x1, .int .i64 x2, .slice A n c])).run Try.prog (W.alloc (.cells #[.int .i64 0, .int .i64 0, .int .i64 0, .slice none 0 0] 39)) = .ok () W' ∧ Cb W' W.heap.size 39 [.int .i64 x0, .int .i64 x1, .int .i64 x2, .slice A n c] ∧ Below W.heap.size W W' := by
  obtain ⟨W', h3, h4, h5⟩ := store39w (Cb.new W [.int .i64 0, .int .i64 0, .int .i64 0, .slice none 0 0] 39) rfl x0 x1 x2 A n c
  exact ⟨W', h3, h4, only_below (below_alloc (Below.refl _ _) _) h5 (Nat.le_refl _)⟩

/-- Behind Start and Take. -/
def heardM (f : Cf) (xa : Av) : Mc := ⟨f, 2, xa.ev, 3 * xa.ev + skewI f.pr xa.ev, []⟩
theorem heard {f : Cf} {xa : Av} (fr : ByteArray) (hok : OkM (newM f)) (h1 : ¬ f.pr = 255) (h2 : ¬ xa.pr < f.pr) (h3 : xa.id = f.id) (h4 : ¬ xa.ev < 1) (h5 : ¬ 400 < xa.ev) : takeM (startM (newM f)) fr xa = heardM f xa := by
  have hp := hok.pr
  have hp' : 1 ≤ f.pr := hp.1
  have e1 : startM (newM f) = followM (newM f) f.ev := by simp [startM, newM, h1]
  rw [e1]
  unfold takeM
  rw [if_pos (show xa.id = (followM (newM f) f.ev).c.id from h3), if_pos (show (followM (newM f) f.ev).st = 2 from rfl)]
  unfold hearM
  rw [if_neg (by omega : ¬ xa.pr = 0), if_pos (show (followM (newM f) f.ev).c.pre = false ∨ (followM (newM f) f.ev).c.pr ≤ xa.pr from .inr (by show f.pr ≤ xa.pr; omega))]
  unfold followM heardM
  rw [clamp_self (n := xa.ev) ⟨by omega, by omega⟩]
  rfl
theorem less_self {f : Cf} {m : Mc} {xa : Av} (fr : ByteArray) (ha : xa.pr = f.pr - 1) (hst : m.st = 2) (hc : m.c = f) (hpre : f.pre = true) (hp : 1 < f.pr) : takeM m fr xa = m := by
  unfold takeM
  by_cases h : xa.id = m.c.id
  · rw [if_pos h, if_pos hst]
    unfold hearM
    rw [if_neg (by omega : ¬ xa.pr = 0), if_neg (by rw [hc, hpre, ha]; simp; omega)]
  · rw [if_neg h]

structure WtS (w : World) (B : Nat) (m : Mc) (cf av : List Value) (wr : World) : Prop where
  mm : Mm (w.heap.size + 2) wr B m
  c1 : Cb wr w.heap.size 25 cf
  c2 : Cb wr (w.heap.size + 1) 39 av
  low : Below w.heap.size w wr
theorem WtS.drew {w : World} {B : Nat} {m : Mc} {cf av : List Value} {wr : World} (h : WtS w B m cf av wr) : WtS w B m cf av wr.drew := ⟨h.mm.drewN 1, h.c1.drewN 1, h.c2.drewN 1, below_drewN h.low 1⟩
theorem WtS.below {w : World} {B : Nat} {m : Mc} {cf av : List Value} {wr wr' : World} (h : WtS w B m cf av wr) (hb : Below wr.heap.size wr wr') : WtS w B m cf av wr' := ⟨h.mm.below hb, h.c1.below hb, h.c2.below hb, below_then h.low h.low.size hb⟩

def WtRel (X : World) (b B D : Nat) (f : Cf) (xa : Av) (dv : List Value) (N gg : Nat) (x : Value) (wr : World) : Prop :=
  ∃ i : Nat, i + gg = N ∧ x = .int .i64 ((i : Int) + 1) ∧ Mm b wr B (ticksM i (heardM f xa)) ∧ Cb wr D 39 dv ∧ Below b X wr
theorem heard_at {f : Cf} {xa : Av} {N i : Nat} (hN : 3 * xa.ev + skewI f.pr xa.ev = (N : Int)) (hi : i < N) : ticksM i (heardM f xa) = { heardM f xa with wt := (N : Int) - i } := by
  rw [ticks_wait i (heardM f xa) (by show (2 : Int) ≠ 1; omega) (by show (i : Int) < 3 * xa.ev + skewI f.pr xa.ev; omega)]
  show _ = _
  unfold heardM
  rw [← hN]
theorem heard_end {f : Cf} {xa : Av} {N : Nat} (hN : 3 * xa.ev + skewI f.pr xa.ev = (N : Int)) (h1 : 1 ≤ N) : ticksM N (heardM f xa) = leadM (heardM f xa) := by
  have h := ticks_lead (heardM f xa) rfl (by show 1 ≤ 3 * xa.ev + skewI f.pr xa.ev; omega)
  have e : (heardM f xa).wt.toNat = N := by show (3 * xa.ev + skewI f.pr xa.ev).toNat = N; omega
  rw [e] at h
  exact h

set_option maxHeartbeats 2000000 in
theorem waits_no (f : Cf) (A : Option Addr) (n c : Nat) (fr : ByteArray) (xa : Av) (A3 : Option Addr) (n3 c3 : Nat) (w : World) (hS : Strs w A n c f.ads) (hb : f.fr.size ≤ 140737488351232 ∧ n ≤ 8796093022208) (wa : (Lit.int .i64 f.id).wf = true) (wb : (Lit.int .i64 f.pr).wf = true) (wc : (Lit.int .i64 f.ev).wf = true) (hbf : fr.size ≤ 140737488351232) (wa3 : (Lit.int .i64 xa.id).wf = true) (wb3 : (Lit.int .i64 xa.pr).wf = true) (wc3 : (Lit.int .i64 xa.ev).wf = true) (hok : okN f = false) : Calls Try.prog 5 #[.agg #[.int .i64 f.id, .int .i64 f.pr, .int .i64 f.ev, .bool f.pre, .string f.fr, .slice A n c], .string fr, .agg #[.int .i64 xa.id, .int .i64 xa.pr, .int .i64 xa.ev, .slice A3 n3 c3]] w fun e w' => e = .returned (.bool true) ∧ Below w.heap.size w w' := by
  have HB0 : Hid (Below w.heap.size w ((w.alloc (.cells #[.int .i64 f.id, .int .i64 f.pr, .int .i64 f.ev, .bool f.pre, .string f.fr, .slice A n c] 25)).alloc (.cells #[.int .i64 xa.id, .int .i64 xa.pr, .int .i64 xa.ev, .slice A3 n3 c3] 39))) := Lib.hid (below_alloc (below_alloc (Below.refl _ _) _) _)
  have HN := Lib.hid (new_none (hS.below HB0.out) hb hok)
  clear hS hb wa wb wc hbf wa3 wb3 wc3 hok
  go_enter Try.func5, Try.ntmps5
  go_wp2_with fail
  refine HN.out.mono ?_
  rintro e w1 ⟨rfl, hb1⟩
  have HB1 := Lib.hid (below_then HB0.out HB0.out.size hb1)
  clear hb1
  go_wp2_with fail
  refine (alive_any _).mono ?_
  rintro e w9 ⟨rfl, hb9⟩
  go_wp2
  go_ret
  exact ⟨rfl, below_then HB1.out HB1.out.size hb9⟩

set_option maxHeartbeats 2000000 in
theorem waits_out1 (f : Cf) (A : Option Addr) (n c : Nat) (fr : ByteArray) (xa : Av) (A3 : Option Addr) (n3 c3 : Nat) (w : World) (hS : Strs w A n c f.ads) (hb : f.fr.size ≤ 140737488351232 ∧ n ≤ 8796093022208) (wa : (Lit.int .i64 f.id).wf = true) (wb : (Lit.int .i64 f.pr).wf = true) (wc : (Lit.int .i64 f.ev).wf = true) (hbf : fr.size ≤ 140737488351232) (wa3 : (Lit.int .i64 xa.id).wf = true) (wb3 : (Lit.int .i64 xa.pr).wf = true) (wc3 : (Lit.int .i64 xa.ev).wf = true) (hok : okN f = true) (h1 : f.pr = 255) : Calls Try.prog 5 #[.agg #[.int .i64 f.id, .int .i64 f.pr, .int .i64 f.ev, .bool f.pre, .string f.fr, .slice A n c], .string fr, .agg #[.int .i64 xa.id, .int .i64 xa.pr, .int .i64 xa.ev, .slice A3 n3 c3]] w fun e w' => e = .returned (.bool true) ∧ Below w.heap.size w w' := by
  have HB0 : Hid (Below w.heap.size w ((w.alloc (.cells #[.int .i64 f.id, .int .i64 f.pr, .int .i64 f.ev, .bool f.pre, .string f.fr, .slice A n c] 25)).alloc (.cells #[.int .i64 xa.id, .int .i64 xa.pr, .int .i64 xa.ev, .slice A3 n3 c3] 39))) := Lib.hid (below_alloc (below_alloc (Below.refl _ _) _) _)
  have HN := Lib.hid (new_some (hS.below HB0.out) hb hok)
  have e00 : (f.pr == 255) = true := by simpa using h1
  have HC2 : Hid (Cb ((w.alloc (.cells #[.int .i64 f.id, .int .i64 f.pr, .int .i64 f.ev, .bool f.pre, .string f.fr, .slice A n c] 25)).alloc (.cells #[.int .i64 xa.id, .int .i64 xa.pr, .int .i64 xa.ev, .slice A3 n3 c3] 39)) w.heap.size 25 [.int .i64 f.id, .int .i64 f.pr, .int .i64 f.ev, .bool f.pre, .string f.fr, .slice A n c]) := Lib.hid ((Cb.new w [.int .i64 f.id, .int .i64 f.pr, .int .i64 f.ev, .bool f.pre, .string f.fr, .slice A n c] 25).alloc _)
  have HC3 : Hid (Cb ((w.alloc (.cells #[.int .i64 f.id, .int .i64 f.pr, .int .i64 f.ev, .bool f.pre, .string f.fr, .slice A n c] 25)).alloc (.cells #[.int .i64 xa.id, .int .i64 xa.pr, .int .i64 xa.ev, .slice A3 n3 c3] 39)) (w.heap.size + 1) 39 [.int .i64 xa.id, .int .i64 xa.pr, .int .i64 xa.ev, .slice A3 n3 c3]) := Lib.hid (by
    have h1 := Cb.new (w.alloc (.cells #[.int .i64 f.id, .int .i64 f.pr, .int .i64 f.ev, .bool f.pre, .string f.fr, .slice A n c] 25)) [.int .i64 xa.id, .int .i64 xa.pr, .int .i64 xa.ev, .slice A3 n3 c3] 39
    rw [show (w.alloc (.cells #[.int .i64 f.id, .int .i64 f.pr, .int .i64 f.ev, .bool f.pre, .string f.fr, .slice A n c] 25)).heap.size = w.heap.size + 1 by simp] at h1
    exact h1)
  clear hS hb wa wb wc hbf wa3 wb3 wc3 hok h1
  go_enter Try.func5, Try.ntmps5
  go_wp2_with fail
  refine HN.out.mono ?_
  rintro e w1 ⟨B, va, rfl, hM1, hb1⟩
  have HB1 := Lib.hid (below_then HB0.out HB0.out.size hb1)
  obtain ⟨p0, p1, p2, p3, p4, p5⟩ := (HC2.out.below hb1).six
  obtain ⟨q0, q1, q2, q3⟩ := (HC3.out.below hb1).four
  clear hb1 hM1 p2 p3 p4 p5 q3
  go_wp2_with fail
  refine (alive_any _).mono ?_
  rintro e w9 ⟨rfl, hb9⟩
  go_wp2
  go_ret
  exact ⟨rfl, below_then HB1.out HB1.out.size hb9⟩

set_option maxHeartbeats 2000000 in
theorem waits_out2 (f : Cf) (A : Option Addr) (n c : Nat) (fr : ByteArray) (xa : Av) (A3 : Option Addr) (n3 c3 : Nat) (w : World) (hS : Strs w A n c f.ads) (hb : f.fr.size ≤ 140737488351232 ∧ n ≤ 8796093022208) (wa : (Lit.int .i64 f.id).wf = true) (wb : (Lit.int .i64 f.pr).wf = true) (wc : (Lit.int .i64 f.ev).wf = true) (hbf : fr.size ≤ 140737488351232) (wa3 : (Lit.int .i64 xa.id).wf = true) (wb3 : (Lit.int .i64 xa.pr).wf = true) (wc3 : (Lit.int .i64 xa.ev).wf = true) (hok : okN f = true) (h1 : ¬ f.pr = 255) (h2 : xa.pr < f.pr) : Calls Try.prog 5 #[.agg #[.int .i64 f.id, .int .i64 f.pr, .int .i64 f.ev, .bool f.pre, .string f.fr, .slice A n c], .string fr, .agg #[.int .i64 xa.id, .int .i64 xa.pr, .int .i64 xa.ev, .slice A3 n3 c3]] w fun e w' => e = .returned (.bool true) ∧ Below w.heap.size w w' := by
  have HB0 : Hid (Below w.heap.size w ((w.alloc (.cells #[.int .i64 f.id, .int .i64 f.pr, .int .i64 f.ev, .bool f.pre, .string f.fr, .slice A n c] 25)).alloc (.cells #[.int .i64 xa.id, .int .i64 xa.pr, .int .i64 xa.ev, .slice A3 n3 c3] 39))) := Lib.hid (below_alloc (below_alloc (Below.refl _ _) _) _)
  have HN := Lib.hid (new_some (hS.below HB0.out) hb hok)
  have e00 : (f.pr == 255) = false := by simpa using h1
  have e10 : decide (xa.pr < f.pr) = true := decide_eq_true (by omega)
  have HC2 : Hid (Cb ((w.alloc (.cells #[.int .i64 f.id, .int .i64 f.pr, .int .i64 f.ev, .bool f.pre, .string f.fr, .slice A n c] 25)).alloc (.cells #[.int .i64 xa.id, .int .i64 xa.pr, .int .i64 xa.ev, .slice A3 n3 c3] 39)) w.heap.size 25 [.int .i64 f.id, .int .i64 f.pr, .int .i64 f.ev, .bool f.pre, .string f.fr, .slice A n c]) := Lib.hid ((Cb.new w [.int .i64 f.id, .int .i64 f.pr, .int .i64 f.ev, .bool f.pre, .string f.fr, .slice A n c] 25).alloc _)
  have HC3 : Hid (Cb ((w.alloc (.cells #[.int .i64 f.id, .int .i64 f.pr, .int .i64 f.ev, .bool f.pre, .string f.fr, .slice A n c] 25)).alloc (.cells #[.int .i64 xa.id, .int .i64 xa.pr, .int .i64 xa.ev, .slice A3 n3 c3] 39)) (w.heap.size + 1) 39 [.int .i64 xa.id, .int .i64 xa.pr, .int .i64 xa.ev, .slice A3 n3 c3]) := Lib.hid (by
    have h1 := Cb.new (w.alloc (.cells #[.int .i64 f.id, .int .i64 f.pr, .int .i64 f.ev, .bool f.pre, .string f.fr, .slice A n c] 25)) [.int .i64 xa.id, .int .i64 xa.pr, .int .i64 xa.ev, .slice A3 n3 c3] 39
    rw [show (w.alloc (.cells #[.int .i64 f.id, .int .i64 f.pr, .int .i64 f.ev, .bool f.pre, .string f.fr, .slice A n c] 25)).heap.size = w.heap.size + 1 by simp] at h1
    exact h1)
  clear hS hb wa wb wc hbf wa3 wb3 wc3 hok h1 h2
  go_enter Try.func5, Try.ntmps5
  go_wp2_with fail
  refine HN.out.mono ?_
  rintro e w1 ⟨B, va, rfl, hM1, hb1⟩
  have HB1 := Lib.hid (below_then HB0.out HB0.out.size hb1)
  obtain ⟨p0, p1, p2, p3, p4, p5⟩ := (HC2.out.below hb1).six
  obtain ⟨q0, q1, q2, q3⟩ := (HC3.out.below hb1).four
  clear hb1 hM1 p2 p3 p4 p5 q3
  go_wp2_with fail
  refine (alive_any _).mono ?_
  rintro e w9 ⟨rfl, hb9⟩
  go_wp2
  go_ret
  exact ⟨rfl, below_then HB1.out HB1.out.size hb9⟩

set_option maxHeartbeats 2000000 in
theorem waits_out3 (f : Cf) (A : Option Addr) (n c : Nat) (fr : ByteArray) (xa : Av) (A3 : Option Addr) (n3 c3 : Nat) (w : World) (hS : Strs w A n c f.ads) (hb : f.fr.size ≤ 140737488351232 ∧ n ≤ 8796093022208) (wa : (Lit.int .i64 f.id).wf = true) (wb : (Lit.int .i64 f.pr).wf = true) (wc : (Lit.int .i64 f.ev).wf = true) (hbf : fr.size ≤ 140737488351232) (wa3 : (Lit.int .i64 xa.id).wf = true) (wb3 : (Lit.int .i64 xa.pr).wf = true) (wc3 : (Lit.int .i64 xa.ev).wf = true) (hok : okN f = true) (h1 : ¬ f.pr = 255) (h2 : ¬ xa.pr < f.pr) (h3 : ¬ xa.id = f.id) : Calls Try.prog 5 #[.agg #[.int .i64 f.id, .int .i64 f.pr, .int .i64 f.ev, .bool f.pre, .string f.fr, .slice A n c], .string fr, .agg #[.int .i64 xa.id, .int .i64 xa.pr, .int .i64 xa.ev, .slice A3 n3 c3]] w fun e w' => e = .returned (.bool true) ∧ Below w.heap.size w w' := by
  have HB0 : Hid (Below w.heap.size w ((w.alloc (.cells #[.int .i64 f.id, .int .i64 f.pr, .int .i64 f.ev, .bool f.pre, .string f.fr, .slice A n c] 25)).alloc (.cells #[.int .i64 xa.id, .int .i64 xa.pr, .int .i64 xa.ev, .slice A3 n3 c3] 39))) := Lib.hid (below_alloc (below_alloc (Below.refl _ _) _) _)
  have HN := Lib.hid (new_some (hS.below HB0.out) hb hok)
  have e00 : (f.pr == 255) = false := by simpa using h1
  have e10 : decide (xa.pr < f.pr) = false := decide_eq_false (by omega)
  have e20 : (xa.id != f.id) = true := by simpa using h3
  have HC2 : Hid (Cb ((w.alloc (.cells #[.int .i64 f.id, .int .i64 f.pr, .int .i64 f.ev, .bool f.pre, .string f.fr, .slice A n c] 25)).alloc (.cells #[.int .i64 xa.id, .int .i64 xa.pr, .int .i64 xa.ev, .slice A3 n3 c3] 39)) w.heap.size 25 [.int .i64 f.id, .int .i64 f.pr, .int .i64 f.ev, .bool f.pre, .string f.fr, .slice A n c]) := Lib.hid ((Cb.new w [.int .i64 f.id, .int .i64 f.pr, .int .i64 f.ev, .bool f.pre, .string f.fr, .slice A n c] 25).alloc _)
  have HC3 : Hid (Cb ((w.alloc (.cells #[.int .i64 f.id, .int .i64 f.pr, .int .i64 f.ev, .bool f.pre, .string f.fr, .slice A n c] 25)).alloc (.cells #[.int .i64 xa.id, .int .i64 xa.pr, .int .i64 xa.ev, .slice A3 n3 c3] 39)) (w.heap.size + 1) 39 [.int .i64 xa.id, .int .i64 xa.pr, .int .i64 xa.ev, .slice A3 n3 c3]) := Lib.hid (by
    have h1 := Cb.new (w.alloc (.cells #[.int .i64 f.id, .int .i64 f.pr, .int .i64 f.ev, .bool f.pre, .string f.fr, .slice A n c] 25)) [.int .i64 xa.id, .int .i64 xa.pr, .int .i64 xa.ev, .slice A3 n3 c3] 39
    rw [show (w.alloc (.cells #[.int .i64 f.id, .int .i64 f.pr, .int .i64 f.ev, .bool f.pre, .string f.fr, .slice A n c] 25)).heap.size = w.heap.size + 1 by simp] at h1
    exact h1)
  clear hS hb wa wb wc hbf wa3 wb3 wc3 hok h1 h2 h3
  go_enter Try.func5, Try.ntmps5
  go_wp2_with fail
  refine HN.out.mono ?_
  rintro e w1 ⟨B, va, rfl, hM1, hb1⟩
  have HB1 := Lib.hid (below_then HB0.out HB0.out.size hb1)
  obtain ⟨p0, p1, p2, p3, p4, p5⟩ := (HC2.out.below hb1).six
  obtain ⟨q0, q1, q2, q3⟩ := (HC3.out.below hb1).four
  clear hb1 hM1 p2 p3 p4 p5 q3
  go_wp2_with fail
  refine (alive_any _).mono ?_
  rintro e w9 ⟨rfl, hb9⟩
  go_wp2
  go_ret
  exact ⟨rfl, below_then HB1.out HB1.out.size hb9⟩

set_option maxHeartbeats 2000000 in
theorem waits_out4 (f : Cf) (A : Option Addr) (n c : Nat) (fr : ByteArray) (xa : Av) (A3 : Option Addr) (n3 c3 : Nat) (w : World) (hS : Strs w A n c f.ads) (hb : f.fr.size ≤ 140737488351232 ∧ n ≤ 8796093022208) (wa : (Lit.int .i64 f.id).wf = true) (wb : (Lit.int .i64 f.pr).wf = true) (wc : (Lit.int .i64 f.ev).wf = true) (hbf : fr.size ≤ 140737488351232) (wa3 : (Lit.int .i64 xa.id).wf = true) (wb3 : (Lit.int .i64 xa.pr).wf = true) (wc3 : (Lit.int .i64 xa.ev).wf = true) (hok : okN f = true) (h1 : ¬ f.pr = 255) (h2 : ¬ xa.pr < f.pr) (h3 : xa.id = f.id) (h4 : xa.ev < 1) : Calls Try.prog 5 #[.agg #[.int .i64 f.id, .int .i64 f.pr, .int .i64 f.ev, .bool f.pre, .string f.fr, .slice A n c], .string fr, .agg #[.int .i64 xa.id, .int .i64 xa.pr, .int .i64 xa.ev, .slice A3 n3 c3]] w fun e w' => e = .returned (.bool true) ∧ Below w.heap.size w w' := by
  have HB0 : Hid (Below w.heap.size w ((w.alloc (.cells #[.int .i64 f.id, .int .i64 f.pr, .int .i64 f.ev, .bool f.pre, .string f.fr, .slice A n c] 25)).alloc (.cells #[.int .i64 xa.id, .int .i64 xa.pr, .int .i64 xa.ev, .slice A3 n3 c3] 39))) := Lib.hid (below_alloc (below_alloc (Below.refl _ _) _) _)
  have HN := Lib.hid (new_some (hS.below HB0.out) hb hok)
  have e00 : (f.pr == 255) = false := by simpa using h1
  have e10 : decide (xa.pr < f.pr) = false := decide_eq_false (by omega)
  have e20 : (xa.id != f.id) = false := by simpa using h3
  have e30 : decide (xa.ev < 1) = true := decide_eq_true (by omega)
  have HC2 : Hid (Cb ((w.alloc (.cells #[.int .i64 f.id, .int .i64 f.pr, .int .i64 f.ev, .bool f.pre, .string f.fr, .slice A n c] 25)).alloc (.cells #[.int .i64 xa.id, .int .i64 xa.pr, .int .i64 xa.ev, .slice A3 n3 c3] 39)) w.heap.size 25 [.int .i64 f.id, .int .i64 f.pr, .int .i64 f.ev, .bool f.pre, .string f.fr, .slice A n c]) := Lib.hid ((Cb.new w [.int .i64 f.id, .int .i64 f.pr, .int .i64 f.ev, .bool f.pre, .string f.fr, .slice A n c] 25).alloc _)
  have HC3 : Hid (Cb ((w.alloc (.cells #[.int .i64 f.id, .int .i64 f.pr, .int .i64 f.ev, .bool f.pre, .string f.fr, .slice A n c] 25)).alloc (.cells #[.int .i64 xa.id, .int .i64 xa.pr, .int .i64 xa.ev, .slice A3 n3 c3] 39)) (w.heap.size + 1) 39 [.int .i64 xa.id, .int .i64 xa.pr, .int .i64 xa.ev, .slice A3 n3 c3]) := Lib.hid (by
    have h1 := Cb.new (w.alloc (.cells #[.int .i64 f.id, .int .i64 f.pr, .int .i64 f.ev, .bool f.pre, .string f.fr, .slice A n c] 25)) [.int .i64 xa.id, .int .i64 xa.pr, .int .i64 xa.ev, .slice A3 n3 c3] 39
    rw [show (w.alloc (.cells #[.int .i64 f.id, .int .i64 f.pr, .int .i64 f.ev, .bool f.pre, .string f.fr, .slice A n c] 25)).heap.size = w.heap.size + 1 by simp] at h1
    exact h1)
  clear hS hb wa wb wc hbf wa3 wb3 wc3 hok h1 h2 h3 h4
  go_enter Try.func5, Try.ntmps5
  go_wp2_with fail
  refine HN.out.mono ?_
  rintro e w1 ⟨B, va, rfl, hM1, hb1⟩
  have HB1 := Lib.hid (below_then HB0.out HB0.out.size hb1)
  obtain ⟨p0, p1, p2, p3, p4, p5⟩ := (HC2.out.below hb1).six
  obtain ⟨q0, q1, q2, q3⟩ := (HC3.out.below hb1).four
  clear hb1 hM1 p2 p3 p4 p5 q3
  go_wp2_with fail
  refine (alive_any _).mono ?_
  rintro e w9 ⟨rfl, hb9⟩
  go_wp2
  go_ret
  exact ⟨rfl, below_then HB1.out HB1.out.size hb9⟩

set_option maxHeartbeats 2000000 in
theorem waits_out5 (f : Cf) (A : Option Addr) (n c : Nat) (fr : ByteArray) (xa : Av) (A3 : Option Addr) (n3 c3 : Nat) (w : World) (hS : Strs w A n c f.ads) (hb : f.fr.size ≤ 140737488351232 ∧ n ≤ 8796093022208) (wa : (Lit.int .i64 f.id).wf = true) (wb : (Lit.int .i64 f.pr).wf = true) (wc : (Lit.int .i64 f.ev).wf = true) (hbf : fr.size ≤ 140737488351232) (wa3 : (Lit.int .i64 xa.id).wf = true) (wb3 : (Lit.int .i64 xa.pr).wf = true) (wc3 : (Lit.int .i64 xa.ev).wf = true) (hok : okN f = true) (h1 : ¬ f.pr = 255) (h2 : ¬ xa.pr < f.pr) (h3 : xa.id = f.id) (h4 : ¬ xa.ev < 1) (h5 : 400 < xa.ev) : Calls Try.prog 5 #[.agg #[.int .i64 f.id, .int .i64 f.pr, .int .i64 f.ev, .bool f.pre, .string f.fr, .slice A n c], .string fr, .agg #[.int .i64 xa.id, .int .i64 xa.pr, .int .i64 xa.ev, .slice A3 n3 c3]] w fun e w' => e = .returned (.bool true) ∧ Below w.heap.size w w' := by
  have HB0 : Hid (Below w.heap.size w ((w.alloc (.cells #[.int .i64 f.id, .int .i64 f.pr, .int .i64 f.ev, .bool f.pre, .string f.fr, .slice A n c] 25)).alloc (.cells #[.int .i64 xa.id, .int .i64 xa.pr, .int .i64 xa.ev, .slice A3 n3 c3] 39))) := Lib.hid (below_alloc (below_alloc (Below.refl _ _) _) _)
  have HN := Lib.hid (new_some (hS.below HB0.out) hb hok)
  have e00 : (f.pr == 255) = false := by simpa using h1
  have e10 : decide (xa.pr < f.pr) = false := decide_eq_false (by omega)
  have e20 : (xa.id != f.id) = false := by simpa using h3
  have e30 : decide (xa.ev < 1) = false := decide_eq_false (by omega)
  have e40 : decide (xa.ev > 400) = true := decide_eq_true (by omega)
  have e41 : decide (400 < xa.ev) = true := decide_eq_true (by omega)
  have HC2 : Hid (Cb ((w.alloc (.cells #[.int .i64 f.id, .int .i64 f.pr, .int .i64 f.ev, .bool f.pre, .string f.fr, .slice A n c] 25)).alloc (.cells #[.int .i64 xa.id, .int .i64 xa.pr, .int .i64 xa.ev, .slice A3 n3 c3] 39)) w.heap.size 25 [.int .i64 f.id, .int .i64 f.pr, .int .i64 f.ev, .bool f.pre, .string f.fr, .slice A n c]) := Lib.hid ((Cb.new w [.int .i64 f.id, .int .i64 f.pr, .int .i64 f.ev, .bool f.pre, .string f.fr, .slice A n c] 25).alloc _)
  have HC3 : Hid (Cb ((w.alloc (.cells #[.int .i64 f.id, .int .i64 f.pr, .int .i64 f.ev, .bool f.pre, .string f.fr, .slice A n c] 25)).alloc (.cells #[.int .i64 xa.id, .int .i64 xa.pr, .int .i64 xa.ev, .slice A3 n3 c3] 39)) (w.heap.size + 1) 39 [.int .i64 xa.id, .int .i64 xa.pr, .int .i64 xa.ev, .slice A3 n3 c3]) := Lib.hid (by
    have h1 := Cb.new (w.alloc (.cells #[.int .i64 f.id, .int .i64 f.pr, .int .i64 f.ev, .bool f.pre, .string f.fr, .slice A n c] 25)) [.int .i64 xa.id, .int .i64 xa.pr, .int .i64 xa.ev, .slice A3 n3 c3] 39
    rw [show (w.alloc (.cells #[.int .i64 f.id, .int .i64 f.pr, .int .i64 f.ev, .bool f.pre, .string f.fr, .slice A n c] 25)).heap.size = w.heap.size + 1 by simp] at h1
    exact h1)
  clear hS hb wa wb wc hbf wa3 wb3 wc3 hok h1 h2 h3 h4 h5
  go_enter Try.func5, Try.ntmps5
  go_wp2_with fail
  refine HN.out.mono ?_
  rintro e w1 ⟨B, va, rfl, hM1, hb1⟩
  have HB1 := Lib.hid (below_then HB0.out HB0.out.size hb1)
  obtain ⟨p0, p1, p2, p3, p4, p5⟩ := (HC2.out.below hb1).six
  obtain ⟨q0, q1, q2, q3⟩ := (HC3.out.below hb1).four
  clear hb1 hM1 p2 p3 p4 p5 q3
  go_wp2_with fail
  refine (alive_any _).mono ?_
  rintro e w9 ⟨rfl, hb9⟩
  go_wp2
  go_ret
  exact ⟨rfl, below_then HB1.out HB1.out.size hb9⟩

set_option maxHeartbeats 4000000 in
theorem waits_run (f : Cf) (A : Option Addr) (n c : Nat) (fr : ByteArray) (xa : Av) (A3 : Option Addr) (n3 c3 : Nat) (w : World) (hS : Strs w A n c f.ads) (hb : f.fr.size ≤ 140737488351232 ∧ n ≤ 8796093022208) (wa : (Lit.int .i64 f.id).wf = true) (wb : (Lit.int .i64 f.pr).wf = true) (wc : (Lit.int .i64 f.ev).wf = true) (hbf : fr.size ≤ 140737488351232) (wa3 : (Lit.int .i64 xa.id).wf = true) (wb3 : (Lit.int .i64 xa.pr).wf = true) (wc3 : (Lit.int .i64 xa.ev).wf = true) (hok : okN f = true) (h1 : ¬ f.pr = 255) (h2 : ¬ xa.pr < f.pr) (h3 : xa.id = f.id) (h4 : ¬ xa.ev < 1) (h5 : ¬ 400 < xa.ev) : Calls Try.prog 5 #[.agg #[.int .i64 f.id, .int .i64 f.pr, .int .i64 f.ev, .bool f.pre, .string f.fr, .slice A n c], .string fr, .agg #[.int .i64 xa.id, .int .i64 xa.pr, .int .i64 xa.ev, .slice A3 n3 c3]] w fun e w' => e = .returned (.bool true) ∧ Below w.heap.size w w' := by
  have HB0 : Hid (Below w.heap.size w ((w.alloc (.cells #[.int .i64 f.id, .int .i64 f.pr, .int .i64 f.ev, .bool f.pre, .string f.fr, .slice A n c] 25)).alloc (.cells #[.int .i64 xa.id, .int .i64 xa.pr, .int .i64 xa.ev, .slice A3 n3 c3] 39))) := Lib.hid (below_alloc (below_alloc (Below.refl _ _) _) _)
  have HN := Lib.hid (new_some (hS.below HB0.out) hb hok)
  have e00 : (f.pr == 255) = false := by simpa using h1
  have e10 : decide (xa.pr < f.pr) = false := decide_eq_false (by omega)
  have e20 : (xa.id != f.id) = false := by simpa using h3
  have e30 : decide (xa.ev < 1) = false := decide_eq_false (by omega)
  have e40 : decide (xa.ev > 400) = false := decide_eq_false (by omega)
  have e41 : decide (400 < xa.ev) = false := decide_eq_false (by omega)
  have HC2 : Hid (Cb ((w.alloc (.cells #[.int .i64 f.id, .int .i64 f.pr, .int .i64 f.ev, .bool f.pre, .string f.fr, .slice A n c] 25)).alloc (.cells #[.int .i64 xa.id, .int .i64 xa.pr, .int .i64 xa.ev, .slice A3 n3 c3] 39)) w.heap.size 25 [.int .i64 f.id, .int .i64 f.pr, .int .i64 f.ev, .bool f.pre, .string f.fr, .slice A n c]) := Lib.hid ((Cb.new w [.int .i64 f.id, .int .i64 f.pr, .int .i64 f.ev, .bool f.pre, .string f.fr, .slice A n c] 25).alloc _)
  have HC3 : Hid (Cb ((w.alloc (.cells #[.int .i64 f.id, .int .i64 f.pr, .int .i64 f.ev, .bool f.pre, .string f.fr, .slice A n c] 25)).alloc (.cells #[.int .i64 xa.id, .int .i64 xa.pr, .int .i64 xa.ev, .slice A3 n3 c3] 39)) (w.heap.size + 1) 39 [.int .i64 xa.id, .int .i64 xa.pr, .int .i64 xa.ev, .slice A3 n3 c3]) := Lib.hid (by
    have h1 := Cb.new (w.alloc (.cells #[.int .i64 f.id, .int .i64 f.pr, .int .i64 f.ev, .bool f.pre, .string f.fr, .slice A n c] 25)) [.int .i64 xa.id, .int .i64 xa.pr, .int .i64 xa.ev, .slice A3 n3 c3] 39
    rw [show (w.alloc (.cells #[.int .i64 f.id, .int .i64 f.pr, .int .i64 f.ev, .bool f.pre, .string f.fr, .slice A n c] 25)).heap.size = w.heap.size + 1 by simp] at h1
    exact h1)
  have hXs : ((w.alloc (.cells #[.int .i64 f.id, .int .i64 f.pr, .int .i64 f.ev, .bool f.pre, .string f.fr, .slice A n c] 25)).alloc (.cells #[.int .i64 xa.id, .int .i64 xa.pr, .int .i64 xa.ev, .slice A3 n3 c3] 39)).heap.size = w.heap.size + 2 := by simp
  have HXS := Lib.hid hXs
  have HOK := Lib.hid (okN_ok hok)
  have HH := Lib.hid (heard fr HOK.out h1 h2 h3 h4 h5)
  have HE : Hid (1 ≤ xa.ev ∧ xa.ev ≤ 400) := Lib.hid ⟨by omega, by omega⟩
  have HP : Hid (1 ≤ f.pr ∧ f.pr ≤ 255) := Lib.hid (okN_ok hok).pr
  have hsk := skew_bd f.pr xa.ev
  obtain ⟨N, hN⟩ : ∃ N : Nat, 3 * xa.ev + skewI f.pr xa.ev = (N : Int) := ⟨(3 * xa.ev + skewI f.pr xa.ev).toNat, by omega⟩
  have HNN := Lib.hid hN
  have HNB : Hid (1 ≤ N ∧ N ≤ 6000) := Lib.hid (by omega)
  have HW3 : Hid (wrap64 (3 * xa.ev) = 3 * xa.ev) := Lib.hid (by unfold wrap64; omega)
  have HW6 : Hid (((N : Int) == IntKind.i64.wrap (IntKind.i64.wrap (3 * xa.ev) + skewI f.pr xa.ev)) = true) := Lib.hid (by
    have h := HW3.out
    unfold wrap64 at h
    rw [beq_iff_eq, IntKind.wrap_i64, IntKind.wrap_i64]
    omega)
  have hpw : wrap64 (f.pr - 1) = f.pr - 1 := by have := HP.out; unfold wrap64; omega
  have HPW := Lib.hid hpw
  clear hS hb wa wb wc hbf wa3 wb3 wc3 hok h1 h2 h3 h4 h5 hXs hsk hN hpw
  go_enter Try.func5, Try.ntmps5
  go_wp2_with fail
  refine HN.out.mono ?_
  rintro e w1 ⟨B, va, rfl, hM1, hb1⟩
  have HM1 : Hid (Mm (w.heap.size + 2) w1 B (newM f)) := Lib.hid (by have h := hM1.mm; rwa [HXS.out] at h)
  have HB1 : Hid (Below (w.heap.size + 2) ((w.alloc (.cells #[.int .i64 f.id, .int .i64 f.pr, .int .i64 f.ev, .bool f.pre, .string f.fr, .slice A n c] 25)).alloc (.cells #[.int .i64 xa.id, .int .i64 xa.pr, .int .i64 xa.ev, .slice A3 n3 c3] 39)) w1) := Lib.hid (by have h := hb1; rwa [HXS.out] at h)
  obtain ⟨p0, p1, p2, p3, p4, p5⟩ := (HC2.out.below hb1).six
  obtain ⟨q0, q1, q2, q3⟩ := (HC3.out.below hb1).four
  clear hb1 hM1 p2 p3 p4 p5 q3
  go_wp2_with fail
  refine (start_any HM1.out (by simp [newM])).mono ?_
  rintro e w2 ⟨rfl, hm2, hk2⟩
  have HB2 := Lib.hid (HB1.out.trans (hk2.below (Nat.le_refl _) HM1.out.lo (by have := HB1.out.size; have := HXS.out; omega)))
  have HS2 : Hid (w.heap.size + 2 ≤ w2.heap.size) := Lib.hid (by have := HB2.out.size; have := HXS.out; omega)
  have HM2 := Lib.hid hm2
  obtain ⟨q0, q1, q2, q3⟩ := (HC3.out.low HB2.out (by omega)).four
  have HT2 := Lib.hid (take_any (A := A3) (n := n3) (c := c3) hm2 fr xa (by have := out_start (newM f); simp [newM] at this ⊢; omega))
  rw [HH.out] at HT2
  clear hm2 hk2 p0 p1
  go_wp2_with fail
  refine HT2.out.mono ?_
  rintro e w3 ⟨rfl, hm3, hk3⟩
  have HB3 := Lib.hid (HB2.out.trans (hk3.below (Nat.le_refl _) HM2.out.lo HS2.out))
  have HS3 : Hid (w.heap.size + 2 ≤ w3.heap.size) := Lib.hid (by have := HB3.out.size; have := HXS.out; omega)
  have HM3 := Lib.hid hm3
  obtain ⟨d1, d6, d7, d8⟩ := hm3.cells
  have HD3 := Lib.hid (down_any hm3.ok.pace d1 d7)
  rw [show 3 * (heardM f xa).pace + skewI (heardM f xa).c.pr (heardM f xa).pace = (N : Int) from HNN.out] at HD3
  clear hm3 hk3 d1 d6 d7 d8 q0 q1 q2 q3
  go_wp2_with fail
  refine HD3.out.mono ?_
  rintro e w' ⟨rfl, q, rfl⟩
  have HB4 := Lib.hid (below_drewN HB3.out q)
  have HM4 := Lib.hid (HM3.out.drewN q)
  have HS4 : Hid (w.heap.size + 2 ≤ (w3.drewN q).heap.size) := Lib.hid HS3.out
  generalize w3.drewN q = w4 at *
  obtain ⟨q0, q1, q2, q3⟩ := (HC3.out.low HB4.out (by omega)).four
  obtain ⟨w5, hst5, hcb5, hb5⟩ := box39 w4 xa.id xa.pr xa.ev A3 n3 c3
  obtain ⟨D, hD⟩ : ∃ D, D = w4.heap.size := ⟨_, rfl⟩
  have HB5 := Lib.hid (HB4.out.trans (hb5.mono HS4.out))
  have HB45 := Lib.hid hb5
  have HM5 := Lib.hid (HM4.out.below hb5)
  have HDB : Hid (B < D) := Lib.hid (by rw [hD]; exact HM4.out.lt)
  have HDL : Hid (w.heap.size + 2 ≤ D) := Lib.hid (by rw [hD]; exact HS4.out)
  have HC5 : Hid (Cb w5 D 39 [.int .i64 xa.id, .int .i64 xa.pr, .int .i64 xa.ev, .slice A3 n3 c3]) := Lib.hid (by rw [hD]; exact hcb5)
  obtain ⟨p0, p1, p2, p3, p4, p5⟩ := (HC2.out.low HB5.out (by omega)).six
  obtain ⟨g0, g1, g2, g3⟩ := hcb5.four
  have hf1 := hcb5.free 1
  have hsz5 := hcb5.lt
  clear hb5 hcb5 p0 p2 p3 p4 p5
  go_wp2_with fail
  rw [HPW.out]
  have HC6 : Hid (Cb (w5.setCell ⟨D, 1, none⟩ (.int .i64 (f.pr - 1))) D 39 [.int .i64 xa.id, .int .i64 (f.pr - 1), .int .i64 xa.ev, .slice A3 n3 c3]) := Lib.hid (HC5.out.setAt 1 _)
  have HO6 : Only (· = D) w5 (w5.setCell ⟨D, 1, none⟩ (.int .i64 (f.pr - 1))) := (Only.refl (· = D) w5).setCell (p := ⟨D, 1, none⟩) (.inl rfl) _
  have hb6 : Below w4.heap.size w4 (w5.setCell ⟨D, 1, none⟩ (.int .i64 (f.pr - 1))) := HB45.out.trans (HO6.below HB45.out.size fun i hi => by have h1 : i = D := hi; omega)
  have HB6 := Lib.hid (HB4.out.trans (hb6.mono HS4.out))
  have HM6 := Lib.hid (HM4.out.below hb6)
  rw [← hD]
  generalize w5.setCell ⟨D, 1, none⟩ (.int .i64 (f.pr - 1)) = w6 at *
  clear hb6 HO6 HB5 HM5 HC5 HB45 g0 g1 g2 g3 hf1 hsz5 hst5 p1 q0 q1 q2 q3 hD HB4 HM4 HS4 HN HM1 HB1 HM2 HB2 HM3 HB3 HT2 HD3 HS2 HS3
  generalize hdv : [Value.int .i64 xa.id, .int .i64 (f.pr - 1), .int .i64 xa.ev, .slice A3 n3 c3] = dv at HC6
  have HDV := Lib.hid hdv
  clear hdv
  go_wp2_with fail
  go_loopg [11] N (fun gg x wr => WtRel ((w.alloc (.cells #[.int .i64 f.id, .int .i64 f.pr, .int .i64 f.ev, .bool f.pre, .string f.fr, .slice A n c] 25)).alloc (.cells #[.int .i64 xa.id, .int .i64 xa.pr, .int .i64 xa.ev, .slice A3 n3 c3] 39)) (w.heap.size + 2) B D f xa dv N gg x wr)
  case atStart => exact ⟨0, by omega, by simp, HM6.out, HC6.out, HB6.out⟩
  case round =>
    obtain ⟨i, hi, rfl, hm, hc, hbl⟩ := hrel
    have HMi := Lib.hid hm
    have HCi := Lib.hid hc
    have HBi := Lib.hid hbl
    have HSi : Hid (w.heap.size + 2 ≤ wr.heap.size) := Lib.hid (by have := hbl.size; have := HXS.out; omega)
    clear hm hc hbl HC6 HB6 HM6
    by_cases hlt : i < N
    · have e9 : decide ((i : Int) + 1 ≤ (N : Int)) = true := decide_eq_true (by omega)
      have e9' : decide ((i : Int) < (N : Int)) = true := decide_eq_true (by omega)
      have hlt1 : (i : Int) + 1 ≤ (N : Int) := by omega
      have HAT := Lib.hid (heard_at HNN.out hlt)
      have HST : Hid ((ticksM i (heardM f xa)).st = 2) := Lib.hid (by rw [HAT.out]; rfl)
      have HOU : Hid ((ticksM i (heardM f xa)).out = []) := Lib.hid (by rw [HAT.out]; rfl)
      have HCC : Hid ((ticksM i (heardM f xa)).c = f) := Lib.hid (by rw [HAT.out]; rfl)
      have HTT : Hid (OkT (ticksM i (heardM f xa))) := Lib.hid (by rw [HAT.out]; exact ⟨fun h => by have h' : (2 : Int) = 1 := h; omega, fun _ => by show 1 ≤ (N : Int) - i; omega⟩)
      obtain ⟨d1, d6, d7, d8⟩ := HMi.out.cells
      rw [HST.out] at d6
      have HS7 := Lib.hid (state_any d6)
      obtain ⟨va6, vo6, l6, hS6⟩ := HMi.out
      obtain rfl : l6 = [] := by have := hS6.lst; rw [HOU.out] at this; simpa using this
      obtain ⟨ao6, co6, rfl, -, -⟩ := row_any hS6.row
      have HO6 := Lib.hid (out_any hS6)
      rw [show outM (ticksM i (heardM f xa)) = ticksM i (heardM f xa) by have h := HOU.out; generalize ticksM i (heardM f xa) = m at h ⊢; cases m; simp only at h; subst h; rfl] at HO6
      clear hS6 d1 d6 d7 d8
      go_wp2_with fail
      refine HS7.out.mono ?_
      rintro e w' ⟨rfl, rfl⟩
      go_wp2_with fail
      refine HO6.out.mono ?_
      rintro e w7 ⟨rfl, hm7, -, -, hk7⟩
      have HM7 := Lib.hid hm7.mm
      have HB7 := Lib.hid (HBi.out.trans (hk7.below (Nat.le_refl _) HMi.out.lo HSi.out))
      have HS7' : Hid (w.heap.size + 2 ≤ w7.heap.size) := Lib.hid (by have := HB7.out.size; have := HXS.out; omega)
      have HC7 := Lib.hid (hk7.cb HCi.out (by have := HDB.out; omega) (fun _ => by decide))
      obtain ⟨p0, p1, p2, p3, p4, p5⟩ := (HC2.out.low HB7.out (by omega)).six
      have hcd := HC7.out
      rw [← HDV.out] at hcd
      obtain ⟨g0, g1, g2, g3⟩ := hcd.four
      have HTk := Lib.hid (tick_any HM7.out HTT.out (by rw [HOU.out]; simp))
      have HRel : ∀ w8, Mm (w.heap.size + 2) w8 B (tickM (ticksM i (heardM f xa))) → Kp (w.heap.size + 2) B w7 w8 → Hid (WtRel ((w.alloc (.cells #[.int .i64 f.id, .int .i64 f.pr, .int .i64 f.ev, .bool f.pre, .string f.fr, .slice A n c] 25)).alloc (.cells #[.int .i64 xa.id, .int .i64 xa.pr, .int .i64 xa.ev, .slice A3 n3 c3] 39)) (w.heap.size + 2) B D f xa dv N (N - (i + 1)) (.int .i64 (((i : Int) + 1) + 1)) w8) := fun w8 h8 hk8 => Lib.hid ⟨i + 1, by omega, by congr 1, by rw [ticks_next]; exact h8, hk8.cb HC7.out (by have := HDB.out; omega) (fun _ => by decide), HB7.out.trans (hk8.below (Nat.le_refl _) HM7.out.lo HS7'.out)⟩
      have HW : Hid (Value.int .i64 (wrap64 ((i : Int) + 1 + 1)) = .int .i64 ((i : Int) + 1 + 1)) := Lib.hid (by congr 1; have := HNB.out; unfold wrap64; omega)
      clear hm7 hk7 hcd p0 p1 p2 p4 p5 HO6 HS7 HBi HMi HCi HSi
      rcases Bool.eq_false_or_eq_true f.pre with hpre | hpre
      · rw [hpre] at p3
        by_cases hp1 : 1 < f.pr
        · have e10 : decide (f.pr - 1 > 0) = true := decide_eq_true (by omega)
          have e10' : decide (0 < f.pr - 1) = true := decide_eq_true (by omega)
          have e10b : decide (1 < f.pr) = true := decide_eq_true (by omega)
          have hp1' : f.pr - 1 > 0 := by omega
          have HTA := Lib.hid (take_any (A := A3) (n := n3) (c := c3) HM7.out fr ⟨xa.id, f.pr - 1, xa.ev, xa.ads⟩ (by rw [HOU.out]; simp))
          rw [less_self (xa := ⟨xa.id, f.pr - 1, xa.ev, xa.ads⟩) fr rfl HST.out HCC.out hpre hp1] at HTA
          clear hpre
          go_wp2_with fail
          refine HTA.out.mono ?_
          rintro e w8 ⟨rfl, hm8, hk8⟩
          have HK8 := Lib.hid hk8
          have HM8 := Lib.hid hm8
          have HTk8 := Lib.hid (tick_any hm8 HTT.out (by rw [HOU.out]; simp))
          clear hm8 hk8
          go_wp2_with fail
          refine HTk8.out.mono ?_
          rintro e w9 ⟨rfl, hm9, hk9⟩
          have HR9 := HRel _ hm9 (HK8.out.trans hk9)
          clear hm9 hk9
          go_wp2
          go_roundg (N - (i + 1))
          case measure => omega
          case rel => rw [HW.out]; exact HR9.out
        · have e10 : decide (f.pr - 1 > 0) = false := decide_eq_false (by omega)
          have e10' : decide (0 < f.pr - 1) = false := decide_eq_false (by omega)
          have e10b : decide (1 < f.pr) = false := decide_eq_false (by omega)
          have hp1' : ¬ f.pr - 1 > 0 := by omega
          clear hpre
          go_wp2_with fail
          refine HTk.out.mono ?_
          rintro e w9 ⟨rfl, hm9, hk9⟩
          have HR9 := HRel _ hm9 hk9
          clear hm9 hk9
          go_wp2
          go_roundg (N - (i + 1))
          case measure => omega
          case rel => rw [HW.out]; exact HR9.out
      · rw [hpre] at p3
        clear hpre
        go_wp2_with fail
        refine HTk.out.mono ?_
        rintro e w9 ⟨rfl, hm9, hk9⟩
        have HR9 := HRel _ hm9 hk9
        clear hm9 hk9
        go_wp2
        go_roundg (N - (i + 1))
        case measure => omega
        case rel => rw [HW.out]; exact HR9.out
    · obtain rfl : i = N := by omega
      have e9 : decide ((i : Int) + 1 ≤ (i : Int)) = false := decide_eq_false (by omega)
      have e9' : decide ((i : Int) < (i : Int)) = false := decide_eq_false (by omega)
      have hlt1 : ¬ (i : Int) + 1 ≤ (i : Int) := by omega
      have HCT : Hid (WtS w B (leadM (heardM f xa)) [.int .i64 f.id, .int .i64 f.pr, .int .i64 f.ev, .bool f.pre, .string f.fr, .slice A n c] [.int .i64 xa.id, .int .i64 xa.pr, .int .i64 xa.ev, .slice A3 n3 c3] wr) := Lib.hid ⟨by have h := HMi.out; rwa [heard_end HNN.out HNB.out.1] at h, HC2.out.low HBi.out (by omega), HC3.out.low HBi.out (by omega), HB0.out.trans (HBi.out.mono (by omega))⟩
      have eW3 := HW3.out
      have eW6 := HW6.out
      clear HMi HCi HBi HSi
      go_wp2_with fail
      refine wp_region_held_drew (S := WtS w B (leadM (heardM f xa)) [.int .i64 f.id, .int .i64 f.pr, .int .i64 f.ev, .bool f.pre, .string f.fr, .slice A n c] [.int .i64 xa.id, .int .i64 xa.pr, .int .i64 xa.ev, .slice A3 n3 c3]) (by kernel_rfl) HCT.out.drew (fun hHeld => ?_)
      refine wpAnyH_ready (rs := [0]) (by kernel_rfl) (by simp) ?_
      refine AllReadyH.cons (o := ({ dst := some 93, op := Go.Op.call { callee := Go.Callee.value (Go.Operand.func 13), args := #[], argTypes := #[] }, type := 4, pos := _, after := #[], guard := none } : Oper)) rfl (fun K hK => ?_) AllReadyH.nil
      go_simp
      refine (alive_any _).mono ?_
      rintro e w9 ⟨rfl, hb9⟩
      go_wp2_with fail
      refine hK.out _ _ ?_ (fun hHeld => ?_)
      · exact hHeld.below hb9
      clear hK K
      try simp only [Act.put, List.setIfInBounds_toArray, List.set_cons_zero, List.set_cons_succ]
      clear hb9
      refine wpAnyH_take (i := 1) (oi := ({ dst := some 94, op := Go.Op.move (Go.Operand.tmp 93), type := 4, pos := _, after := #[{ on := 0, ground := Go.Ground.data }, { on := 0, ground := Go.Ground.chain }], guard := none } : Oper)) (v := ?_) rfl (by kernel_rfl) (by kernel_rfl) (by kernel_rfl) (fun _ _ _ h => h) (Or.inl ⟨by rfl, ?_⟩) (by assumption) ?_
      rotate_left
      · intro W' hSw
        try dsimp only at hSw
        go_simp
        try with_reducible rfl
      try simp only [Act.put, List.setIfInBounds_toArray, List.set_cons_zero, List.set_cons_succ]
      refine wpAnyH_take (i := 2) (oi := ({ dst := some 95, op := Go.Op.move (Go.Operand.tmp 9), type := 3, pos := _, after := #[{ on := 1, ground := Go.Ground.guard }], guard := some (1, true) } : Oper)) (v := ?_) rfl (by kernel_rfl) (by kernel_rfl) (by kernel_rfl) (fun _ _ _ h => h) (Or.inl ⟨by rfl, ?_⟩) (by assumption) ?_
      rotate_left
      · intro W' hSw
        try dsimp only at hSw
        go_simp
        try with_reducible rfl
      try simp only [Act.put, List.setIfInBounds_toArray, List.set_cons_zero, List.set_cons_succ]
      refine wpAnyH_take (i := 3) (oi := ({ dst := some 96, op := Go.Op.fieldAddr 39 (Go.Operand.tmp 5) 2, type := 0, pos := _, after := #[{ on := 1, ground := Go.Ground.guard }], guard := some (1, true) } : Oper)) (v := ?_) rfl (by kernel_rfl) (by kernel_rfl) (by kernel_rfl) (fun _ _ _ h => h) (Or.inl ⟨by rfl, ?_⟩) (by assumption) ?_
      rotate_left
      · intro W' hSw
        try dsimp only at hSw
        go_simp
        try with_reducible rfl
      try simp only [Act.put, List.setIfInBounds_toArray, List.set_cons_zero, List.set_cons_succ]
      refine wpAnyH_take (i := 4) (oi := ({ dst := some 97, op := Go.Op.load 3 (Go.Operand.tmp 96), type := 3, pos := _, after := #[{ on := 3, ground := Go.Ground.data }, { on := 1, ground := Go.Ground.guard }], guard := some (1, true) } : Oper)) (v := ?_) rfl (by kernel_rfl) (by kernel_rfl) (by kernel_rfl) (fun _ _ _ h => h) (Or.inl ⟨by rfl, ?_⟩) (by assumption) ?_
      rotate_left
      · intro W' hSw
        try dsimp only at hSw
        obtain ⟨q0, q1, q2, q3⟩ := hSw.c2.four
        go_simp
        try with_reducible rfl
      try simp only [Act.put, List.setIfInBounds_toArray, List.set_cons_zero, List.set_cons_succ]
      refine wpAnyH_take (i := 5) (oi := ({ dst := some 98, op := Go.Op.binOp Go.BinOp.mul 3 (Go.Operand.const (Go.Value.int Go.IntKind.i64 3)) (Go.Operand.tmp 97) 3, type := 3, pos := _, after := #[{ on := 4, ground := Go.Ground.data }, { on := 1, ground := Go.Ground.guard }], guard := some (1, true) } : Oper)) (v := ?_) rfl (by kernel_rfl) (by kernel_rfl) (by kernel_rfl) (fun _ _ _ h => h) (Or.inl ⟨by rfl, ?_⟩) (by assumption) ?_
      rotate_left
      · intro W' hSw
        try dsimp only at hSw
        go_simp
        try with_reducible rfl
      try simp only [Act.put, List.setIfInBounds_toArray, List.set_cons_zero, List.set_cons_succ]
      refine wpAnyH_take (i := 6) (oi := ({ dst := some 99, op := Go.Op.fieldAddr 25 (Go.Operand.tmp 3) 1, type := 0, pos := _, after := #[{ on := 1, ground := Go.Ground.guard }], guard := some (1, true) } : Oper)) (v := ?_) rfl (by kernel_rfl) (by kernel_rfl) (by kernel_rfl) (fun _ _ _ h => h) (Or.inl ⟨by rfl, ?_⟩) (by assumption) ?_
      rotate_left
      · intro W' hSw
        try dsimp only at hSw
        go_simp
        try with_reducible rfl
      try simp only [Act.put, List.setIfInBounds_toArray, List.set_cons_zero, List.set_cons_succ]
      refine wpAnyH_take (i := 7) (oi := ({ dst := some 100, op := Go.Op.load 3 (Go.Operand.tmp 99), type := 3, pos := _, after := #[{ on := 6, ground := Go.Ground.data }, { on := 1, ground := Go.Ground.guard }], guard := some (1, true) } : Oper)) (v := ?_) rfl (by kernel_rfl) (by kernel_rfl) (by kernel_rfl) (fun _ _ _ h => h) (Or.inl ⟨by rfl, ?_⟩) (by assumption) ?_
      rotate_left
      · intro W' hSw
        try dsimp only at hSw
        obtain ⟨p0, p1, p2, p3, p4, p5⟩ := hSw.c1.six
        go_simp
        try with_reducible rfl
      try simp only [Act.put, List.setIfInBounds_toArray, List.set_cons_zero, List.set_cons_succ]
      refine wpAnyH_take (i := 8) (oi := ({ dst := some 101, op := Go.Op.fieldAddr 39 (Go.Operand.tmp 5) 2, type := 0, pos := _, after := #[{ on := 1, ground := Go.Ground.guard }], guard := some (1, true) } : Oper)) (v := ?_) rfl (by kernel_rfl) (by kernel_rfl) (by kernel_rfl) (fun _ _ _ h => h) (Or.inl ⟨by rfl, ?_⟩) (by assumption) ?_
      rotate_left
      · intro W' hSw
        try dsimp only at hSw
        go_simp
        try with_reducible rfl
      try simp only [Act.put, List.setIfInBounds_toArray, List.set_cons_zero, List.set_cons_succ]
      refine wpAnyH_take (i := 9) (oi := ({ dst := some 102, op := Go.Op.load 3 (Go.Operand.tmp 101), type := 3, pos := _, after := #[{ on := 8, ground := Go.Ground.data }, { on := 1, ground := Go.Ground.guard }], guard := some (1, true) } : Oper)) (v := ?_) rfl (by kernel_rfl) (by kernel_rfl) (by kernel_rfl) (fun _ _ _ h => h) (Or.inl ⟨by rfl, ?_⟩) (by assumption) ?_
      rotate_left
      · intro W' hSw
        try dsimp only at hSw
        obtain ⟨q0, q1, q2, q3⟩ := hSw.c2.four
        go_simp
        try with_reducible rfl
      try simp only [Act.put, List.setIfInBounds_toArray, List.set_cons_zero, List.set_cons_succ]
      refine wpAnyH_ready (rs := [10]) (by kernel_rfl) (by simp) ?_
      refine AllReadyH.cons (o := ({ dst := some 103, op := Go.Op.call { callee := Go.Callee.value (Go.Operand.func 25), args := #[Go.Operand.tmp 100, Go.Operand.tmp 102], argTypes := #[3, 3] }, type := 3, pos := _, after := #[{ on := 7, ground := Go.Ground.data }, { on := 9, ground := Go.Ground.data }, { on := 1, ground := Go.Ground.chain }, { on := 1, ground := Go.Ground.guard }], guard := some (1, true) } : Oper)) rfl (fun K hK => ?_) AllReadyH.nil
      go_simp
      refine (rskew_any _ _ _).mono ?_
      rintro e w' ⟨rfl, rfl⟩
      go_wp2_with fail
      refine hK.out _ _ ?_ (fun hHeld => ?_)
      · exact hHeld
      clear hK K
      try simp only [Act.put, List.setIfInBounds_toArray, List.set_cons_zero, List.set_cons_succ]
      refine wpAnyH_take (i := 11) (oi := ({ dst := some 104, op := Go.Op.binOp Go.BinOp.add 3 (Go.Operand.tmp 98) (Go.Operand.tmp 103) 3, type := 3, pos := _, after := #[{ on := 5, ground := Go.Ground.data }, { on := 10, ground := Go.Ground.data }, { on := 1, ground := Go.Ground.guard }], guard := some (1, true) } : Oper)) (v := ?_) rfl (by kernel_rfl) (by kernel_rfl) (by kernel_rfl) (fun _ _ _ h => h) (Or.inl ⟨by rfl, ?_⟩) (by assumption) ?_
      rotate_left
      · intro W' hSw
        try dsimp only at hSw
        go_simp
        try with_reducible rfl
      try simp only [Act.put, List.setIfInBounds_toArray, List.set_cons_zero, List.set_cons_succ]
      refine wpAnyH_take (i := 12) (oi := ({ dst := some 105, op := Go.Op.binOp Go.BinOp.eql 3 (Go.Operand.tmp 95) (Go.Operand.tmp 104) 3, type := 4, pos := _, after := #[{ on := 2, ground := Go.Ground.data }, { on := 11, ground := Go.Ground.data }, { on := 1, ground := Go.Ground.guard }], guard := some (1, true) } : Oper)) (v := ?_) rfl (by kernel_rfl) (by kernel_rfl) (by kernel_rfl) (fun _ _ _ h => h) (Or.inl ⟨by rfl, ?_⟩) (by assumption) ?_
      rotate_left
      · intro W' hSw
        try dsimp only at hSw
        go_simp
        try with_reducible rfl
      try simp only [Act.put, List.setIfInBounds_toArray, List.set_cons_zero, List.set_cons_succ]
      refine wpAnyH_take (i := 13) (oi := ({ dst := some 106, op := Go.Op.pick (Go.Operand.tmp 94) (Go.Operand.tmp 105) (Go.Operand.const (Go.Value.bool false)), type := 4, pos := _, after := #[{ on := 1, ground := Go.Ground.data }, { on := 12, ground := Go.Ground.data }], guard := none } : Oper)) (v := ?_) rfl (by kernel_rfl) (by kernel_rfl) (by kernel_rfl) (fun _ _ _ h => h) (Or.inl ⟨by rfl, ?_⟩) (by assumption) ?_
      rotate_left
      · intro W' hSw
        try dsimp only at hSw
        go_simp
        try with_reducible rfl
      try simp only [Act.put, List.setIfInBounds_toArray, List.set_cons_zero, List.set_cons_succ]
      refine wpAnyH_take (i := 14) (oi := ({ dst := some 107, op := Go.Op.move (Go.Operand.tmp 106), type := 4, pos := _, after := #[{ on := 13, ground := Go.Ground.data }, { on := 10, ground := Go.Ground.chain }], guard := none } : Oper)) (v := ?_) rfl (by kernel_rfl) (by kernel_rfl) (by kernel_rfl) (fun _ _ _ h => h) (Or.inl ⟨by rfl, ?_⟩) (by assumption) ?_
      rotate_left
      · intro W' hSw
        try dsimp only at hSw
        go_simp
        try with_reducible rfl
      try simp only [Act.put, List.setIfInBounds_toArray, List.set_cons_zero, List.set_cons_succ]
      refine wpAnyH_take (i := 15) (oi := ({ dst := some 108, op := Go.Op.move (Go.Operand.tmp 7), type := 27, pos := _, after := #[{ on := 14, ground := Go.Ground.guard }], guard := some (14, true) } : Oper)) (v := ?_) rfl (by kernel_rfl) (by kernel_rfl) (by kernel_rfl) (fun _ _ _ h => h) (Or.inl ⟨by rfl, ?_⟩) (by assumption) ?_
      rotate_left
      · intro W' hSw
        try dsimp only at hSw
        go_simp
        try with_reducible rfl
      try simp only [Act.put, List.setIfInBounds_toArray, List.set_cons_zero, List.set_cons_succ]
      refine wpAnyH_ready (rs := [16]) (by kernel_rfl) (by simp) ?_
      refine AllReadyH.cons (o := ({ dst := some 109, op := Go.Op.call { callee := Go.Callee.value (Go.Operand.func 16), args := #[Go.Operand.tmp 108], argTypes := #[27] }, type := 3, pos := _, after := #[{ on := 15, ground := Go.Ground.data }, { on := 14, ground := Go.Ground.chain }, { on := 14, ground := Go.Ground.guard }], guard := some (14, true) } : Oper)) rfl (fun K hK => ?_) AllReadyH.nil
      go_simp
      refine (state_any hHeld.mm.cells.2.1).mono ?_
      rintro e w' ⟨rfl, rfl⟩
      go_wp2_with fail
      refine hK.out _ _ ?_ (fun hHeld => ?_)
      · exact hHeld
      clear hK K
      try simp only [Act.put, List.setIfInBounds_toArray, List.set_cons_zero, List.set_cons_succ]
      refine wpAnyH_take (i := 17) (oi := ({ dst := some 110, op := Go.Op.binOp Go.BinOp.eql 3 (Go.Operand.tmp 109) (Go.Operand.const (Go.Value.int Go.IntKind.i64 3)) 3, type := 4, pos := _, after := #[{ on := 16, ground := Go.Ground.data }, { on := 14, ground := Go.Ground.guard }], guard := some (14, true) } : Oper)) (v := ?_) rfl (by kernel_rfl) (by kernel_rfl) (by kernel_rfl) (fun _ _ _ h => h) (Or.inl ⟨by rfl, ?_⟩) (by assumption) ?_
      rotate_left
      · intro W' hSw
        try dsimp only at hSw
        go_simp
        try with_reducible rfl
      try simp only [Act.put, List.setIfInBounds_toArray, List.set_cons_zero, List.set_cons_succ]
      refine wpAnyH_take (i := 18) (oi := ({ dst := some 111, op := Go.Op.pick (Go.Operand.tmp 107) (Go.Operand.tmp 110) (Go.Operand.const (Go.Value.bool false)), type := 4, pos := _, after := #[{ on := 14, ground := Go.Ground.data }, { on := 17, ground := Go.Ground.data }], guard := none } : Oper)) (v := ?_) rfl (by kernel_rfl) (by kernel_rfl) (by kernel_rfl) (fun _ _ _ h => h) (Or.inl ⟨by rfl, ?_⟩) (by assumption) ?_
      rotate_left
      · intro W' hSw
        try dsimp only at hSw
        go_simp
        try with_reducible rfl
      try simp only [Act.put, List.setIfInBounds_toArray, List.set_cons_zero, List.set_cons_succ]
      refine wpAnyH_take (i := 19) (oi := ({ dst := some 6, op := Go.Op.assign (Go.Operand.tmp 111), type := 4, pos := _, after := #[{ on := 18, ground := Go.Ground.data }, { on := 16, ground := Go.Ground.chain }, { on := 0, ground := Go.Ground.phase }, { on := 1, ground := Go.Ground.phase }, { on := 2, ground := Go.Ground.phase }, { on := 3, ground := Go.Ground.phase }, { on := 4, ground := Go.Ground.phase }, { on := 5, ground := Go.Ground.phase }, { on := 6, ground := Go.Ground.phase }, { on := 7, ground := Go.Ground.phase }, { on := 8, ground := Go.Ground.phase }, { on := 9, ground := Go.Ground.phase }, { on := 10, ground := Go.Ground.phase }, { on := 11, ground := Go.Ground.phase }, { on := 12, ground := Go.Ground.phase }, { on := 13, ground := Go.Ground.phase }, { on := 14, ground := Go.Ground.phase }, { on := 15, ground := Go.Ground.phase }, { on := 16, ground := Go.Ground.phase }, { on := 17, ground := Go.Ground.phase }, { on := 18, ground := Go.Ground.phase }], guard := none } : Oper)) (v := ?_) rfl (by kernel_rfl) (by kernel_rfl) (by kernel_rfl) (fun _ _ _ h => h) (Or.inl ⟨by rfl, ?_⟩) (by assumption) ?_
      rotate_left
      · intro W' hSw
        try dsimp only at hSw
        go_simp
        try with_reducible rfl
      try simp only [Act.put, List.setIfInBounds_toArray, List.set_cons_zero, List.set_cons_succ]
      refine wpAnyH_done (by kernel_rfl) ?_ _
      go_wp2
      go_ret
      exact ⟨rfl, hHeld.low⟩


/-- VrrpWaits. -/
theorem waits_walk (f : Cf) (A : Option Addr) (n c : Nat) (fr : ByteArray) (xa : Av) (A3 : Option Addr) (n3 c3 : Nat) (w : World) (hS : Strs w A n c f.ads) (hb : f.fr.size ≤ 140737488351232 ∧ n ≤ 8796093022208) (wa : (Lit.int .i64 f.id).wf = true) (wb : (Lit.int .i64 f.pr).wf = true) (wc : (Lit.int .i64 f.ev).wf = true) (hbf : fr.size ≤ 140737488351232) (wa3 : (Lit.int .i64 xa.id).wf = true) (wb3 : (Lit.int .i64 xa.pr).wf = true) (wc3 : (Lit.int .i64 xa.ev).wf = true) : Calls Try.prog 5 #[.agg #[.int .i64 f.id, .int .i64 f.pr, .int .i64 f.ev, .bool f.pre, .string f.fr, .slice A n c], .string fr, .agg #[.int .i64 xa.id, .int .i64 xa.pr, .int .i64 xa.ev, .slice A3 n3 c3]] w fun e w' => e = .returned (.bool true) ∧ Below w.heap.size w w' := by
  cases hok : okN f
  · exact waits_no f A n c fr xa A3 n3 c3 w hS hb wa wb wc hbf wa3 wb3 wc3 hok
  by_cases h1 : f.pr = 255
  · exact waits_out1 f A n c fr xa A3 n3 c3 w hS hb wa wb wc hbf wa3 wb3 wc3 hok h1
  by_cases h2 : xa.pr < f.pr
  · exact waits_out2 f A n c fr xa A3 n3 c3 w hS hb wa wb wc hbf wa3 wb3 wc3 hok h1 h2
  by_cases h3 : xa.id = f.id
  case neg => exact waits_out3 f A n c fr xa A3 n3 c3 w hS hb wa wb wc hbf wa3 wb3 wc3 hok h1 h2 h3
  by_cases h4 : xa.ev < 1
  · exact waits_out4 f A n c fr xa A3 n3 c3 w hS hb wa wb wc hbf wa3 wb3 wc3 hok h1 h2 h3 h4
  by_cases h5 : 400 < xa.ev
  · exact waits_out5 f A n c fr xa A3 n3 c3 w hS hb wa wb wc hbf wa3 wb3 wc3 hok h1 h2 h3 h4 h5
  exact waits_run f A n c fr xa A3 n3 c3 w hS hb wa wb wc hbf wa3 wb3 wc3 hok h1 h2 h3 h4 h5
end Go.Proofs.Ytpcdaidgijkkbaa
