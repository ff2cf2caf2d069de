/-
  What VrrpOthers does.
-/
import Derived.Test.YtpcdaidgijkkbaaVlaw
namespace Go.Proofs.Ytpcdaidgijkkbaa
open Go.RowKit Go.Maps
set_option linter.unusedVariables false
set_option linter.unusedSimpArgs false
set_option maxRecDepth 40000
attribute [local go_sem ↓] bigS41


theorem does_id (m : Mc) (o : Oq) : (doM m o).c.id = m.c.id := by
  have ht : ∀ (k : Nat) (m : Mc), (ticksM k m).c.id = m.c.id := by
    intro k
    induction k with
    | zero => intro m; rfl
    | succ k ih =>
      intro m
      rw [ticksM, ih]
      unfold tickM
      split
      · rfl
      split
      · rfl
      split <;> rfl
  unfold doM
  split
  · unfold startM; split
    · split <;> rfl
    · rfl
  split
  · rfl
  split
  · exact ht _ _
  split
  · unfold takeM hearM meetM
    split
    · split
      · split
        · rfl
        split <;> rfl
      · split
        · split
          · rfl
          split <;> rfl
        · rfl
    · rfl
  split
  · unfold setM; split <;> rfl
  · rfl
theorem take_other {m : Mc} {a : Av} (f : ByteArray) (h : a.id ≠ m.c.id) : takeM m f a = m := by unfold takeM; rw [if_neg h]

def OthRel (X : World) (b B : Nat) (id : Int) (n : Nat) (gg : Nat) (x : Value) (wr : World) : Prop :=
  ∃ (i : Nat) (m : Mc), i + gg = n ∧ x = .int .i64 (i : Int) ∧ Mm b wr B m ∧ OkT m ∧ m.c.id = id ∧ m.out.length ≤ 4000 * i ∧ Below b X wr

set_option maxHeartbeats 2000000 in
theorem others_no (f : Cf) (A : Option Addr) (n c : Nat) (a1 : Option Addr) (n1 c1 : Nat) (l : List Oq) (xf : ByteArray) (xa : Av) (A3 : Option Addr) (n3 c3 : Nat) (w : World) (hS : Strs w A n c f.ads) (hb : f.fr.size ≤ 140737488351232 ∧ n ≤ 8796093022208) (wa : (Lit.int .i64 f.id).wf = true) (wb : (Lit.int .i64 f.pr).wf = true) (wc : (Lit.int .i64 f.ev).wf = true) (hsc : Scr w a1 n1 c1 l) (hok : okN f = false) : Calls Try.prog 9 #[.agg #[.int .i64 f.id, .int .i64 f.pr, .int .i64 f.ev, .bool f.pre, .string f.fr, .slice A n c], .slice a1 n1 c1, .agg #[.string xf, .int .i64 xa.id, .int .i64 xa.pr, .int .i64 xa.ev, .slice A3 n3 c3]] w fun e w' => e = .returned (.bool true) ∧ Below w.heap.size w w' := by
  have HB0 : Hid (Below w.heap.size w ((w.alloc (.cells #[.int .i64 f.id, .int .i64 f.pr, .int .i64 f.ev, .bool f.pre, .string f.fr, .slice A n c] 25)).alloc (.cells #[.string xf, .int .i64 xa.id, .int .i64 xa.pr, .int .i64 xa.ev, .slice A3 n3 c3] 63))) := Lib.hid (below_alloc (below_alloc (Below.refl _ _) _) _)
  have HN := Lib.hid (new_none (hS.below HB0.out) hb hok)
  clear hS hb wa wb wc hsc hok
  go_enter Try.func9, Try.ntmps9
  go_wp2_with fail
  refine HN.out.mono ?_
  rintro e w1 ⟨rfl, hb1⟩
  have HB1 := Lib.hid (below_then HB0.out HB0.out.size hb1)
  clear hb1
  go_wp2_with fail
  refine (alive_any _).mono ?_
  rintro e w9 ⟨rfl, hb9⟩
  go_wp2
  go_ret
  exact ⟨rfl, below_then HB1.out HB1.out.size hb9⟩

set_option maxHeartbeats 2000000 in
theorem others_long (f : Cf) (A : Option Addr) (n c : Nat) (a1 : Option Addr) (n1 c1 : Nat) (l : List Oq) (xf : ByteArray) (xa : Av) (A3 : Option Addr) (n3 c3 : Nat) (w : World) (hS : Strs w A n c f.ads) (hb : f.fr.size ≤ 140737488351232 ∧ n ≤ 8796093022208) (wa : (Lit.int .i64 f.id).wf = true) (wb : (Lit.int .i64 f.pr).wf = true) (wc : (Lit.int .i64 f.ev).wf = true) (hsc : Scr w a1 n1 c1 l) (hok : okN f = true) (hl : 300 < n1) : Calls Try.prog 9 #[.agg #[.int .i64 f.id, .int .i64 f.pr, .int .i64 f.ev, .bool f.pre, .string f.fr, .slice A n c], .slice a1 n1 c1, .agg #[.string xf, .int .i64 xa.id, .int .i64 xa.pr, .int .i64 xa.ev, .slice A3 n3 c3]] w fun e w' => e = .returned (.bool true) ∧ Below w.heap.size w w' := by
  have HB0 : Hid (Below w.heap.size w ((w.alloc (.cells #[.int .i64 f.id, .int .i64 f.pr, .int .i64 f.ev, .bool f.pre, .string f.fr, .slice A n c] 25)).alloc (.cells #[.string xf, .int .i64 xa.id, .int .i64 xa.pr, .int .i64 xa.ev, .slice A3 n3 c3] 63))) := Lib.hid (below_alloc (below_alloc (Below.refl _ _) _) _)
  have HN := Lib.hid (new_some (hS.below HB0.out) hb hok)
  have e1 : decide ((n1 : Int) > 300) = true := decide_eq_true (by omega)
  have e2 : decide (300 < (n1 : Int)) = true := decide_eq_true (by omega)
  clear hS hb wa wb wc hsc hok hl
  go_enter Try.func9, Try.ntmps9
  go_wp2_with fail
  refine HN.out.mono ?_
  rintro e w1 ⟨B, va, rfl, hM1, hb1⟩
  have HB1 := Lib.hid (below_then HB0.out HB0.out.size hb1)
  clear hb1 hM1
  go_wp2_with fail
  refine (alive_any _).mono ?_
  rintro e w9 ⟨rfl, hb9⟩
  go_wp2
  go_ret
  exact ⟨rfl, below_then HB1.out HB1.out.size hb9⟩

set_option maxHeartbeats 2000000 in
theorem others_own (f : Cf) (A : Option Addr) (n c : Nat) (a1 : Option Addr) (n1 c1 : Nat) (l : List Oq) (xf : ByteArray) (xa : Av) (A3 : Option Addr) (n3 c3 : Nat) (w : World) (hS : Strs w A n c f.ads) (hb : f.fr.size ≤ 140737488351232 ∧ n ≤ 8796093022208) (wa : (Lit.int .i64 f.id).wf = true) (wb : (Lit.int .i64 f.pr).wf = true) (wc : (Lit.int .i64 f.ev).wf = true) (hsc : Scr w a1 n1 c1 l) (hok : okN f = true) (hl : ¬ 300 < n1) (hid : xa.id = f.id) : Calls Try.prog 9 #[.agg #[.int .i64 f.id, .int .i64 f.pr, .int .i64 f.ev, .bool f.pre, .string f.fr, .slice A n c], .slice a1 n1 c1, .agg #[.string xf, .int .i64 xa.id, .int .i64 xa.pr, .int .i64 xa.ev, .slice A3 n3 c3]] w fun e w' => e = .returned (.bool true) ∧ Below w.heap.size w w' := by
  have HB0 : Hid (Below w.heap.size w ((w.alloc (.cells #[.int .i64 f.id, .int .i64 f.pr, .int .i64 f.ev, .bool f.pre, .string f.fr, .slice A n c] 25)).alloc (.cells #[.string xf, .int .i64 xa.id, .int .i64 xa.pr, .int .i64 xa.ev, .slice A3 n3 c3] 63))) := Lib.hid (below_alloc (below_alloc (Below.refl _ _) _) _)
  have HN := Lib.hid (new_some (hS.below HB0.out) hb hok)
  have e1 : decide ((n1 : Int) > 300) = false := decide_eq_false (by omega)
  have e2 : decide (300 < (n1 : Int)) = false := decide_eq_false (by omega)
  have e3 : (xa.id == f.id) = true := beq_iff_eq.2 hid
  have HC2 : Hid (Cb ((w.alloc (.cells #[.int .i64 f.id, .int .i64 f.pr, .int .i64 f.ev, .bool f.pre, .string f.fr, .slice A n c] 25)).alloc (.cells #[.string xf, .int .i64 xa.id, .int .i64 xa.pr, .int .i64 xa.ev, .slice A3 n3 c3] 63)) w.heap.size 25 [.int .i64 f.id, .int .i64 f.pr, .int .i64 f.ev, .bool f.pre, .string f.fr, .slice A n c]) := Lib.hid ((Cb.new w [.int .i64 f.id, .int .i64 f.pr, .int .i64 f.ev, .bool f.pre, .string f.fr, .slice A n c] 25).alloc _)
  have HC3 : Hid (Cb ((w.alloc (.cells #[.int .i64 f.id, .int .i64 f.pr, .int .i64 f.ev, .bool f.pre, .string f.fr, .slice A n c] 25)).alloc (.cells #[.string xf, .int .i64 xa.id, .int .i64 xa.pr, .int .i64 xa.ev, .slice A3 n3 c3] 63)) (w.heap.size + 1) 63 [.string xf, .int .i64 xa.id, .int .i64 xa.pr, .int .i64 xa.ev, .slice A3 n3 c3]) := Lib.hid (by
    have h1 := Cb.new (w.alloc (.cells #[.int .i64 f.id, .int .i64 f.pr, .int .i64 f.ev, .bool f.pre, .string f.fr, .slice A n c] 25)) [.string xf, .int .i64 xa.id, .int .i64 xa.pr, .int .i64 xa.ev, .slice A3 n3 c3] 63
    rw [show (w.alloc (.cells #[.int .i64 f.id, .int .i64 f.pr, .int .i64 f.ev, .bool f.pre, .string f.fr, .slice A n c] 25)).heap.size = w.heap.size + 1 by simp] at h1
    exact h1)
  clear hS hb wa wb wc hsc hok hl hid
  go_enter Try.func9, Try.ntmps9
  go_wp2_with fail
  refine HN.out.mono ?_
  rintro e w1 ⟨B, va, rfl, hM1, hb1⟩
  have HB1 := Lib.hid (below_then HB0.out HB0.out.size hb1)
  obtain ⟨p0, p1, p2, p3, p4, p5⟩ := (HC2.out.below hb1).six
  obtain ⟨q0, q1, q2, q3, q4⟩ := (HC3.out.below hb1).five
  clear hb1 hM1 p1 p2 p3 p4 p5 q0 q2 q3 q4
  go_wp2_with fail
  refine (alive_any _).mono ?_
  rintro e w9 ⟨rfl, hb9⟩
  go_wp2
  go_ret
  exact ⟨rfl, below_then HB1.out HB1.out.size hb9⟩

set_option maxHeartbeats 4000000 in
theorem others_run (f : Cf) (A : Option Addr) (n c : Nat) (a1 : Option Addr) (n1 c1 : Nat) (l : List Oq) (xf : ByteArray) (xa : Av) (A3 : Option Addr) (n3 c3 : Nat) (w : World) (hS : Strs w A n c f.ads) (hb : f.fr.size ≤ 140737488351232 ∧ n ≤ 8796093022208) (wa : (Lit.int .i64 f.id).wf = true) (wb : (Lit.int .i64 f.pr).wf = true) (wc : (Lit.int .i64 f.ev).wf = true) (hsc : Scr w a1 n1 c1 l) (hok : okN f = true) (hl : ¬ 300 < n1) (hid : xa.id ≠ f.id) : Calls Try.prog 9 #[.agg #[.int .i64 f.id, .int .i64 f.pr, .int .i64 f.ev, .bool f.pre, .string f.fr, .slice A n c], .slice a1 n1 c1, .agg #[.string xf, .int .i64 xa.id, .int .i64 xa.pr, .int .i64 xa.ev, .slice A3 n3 c3]] w fun e w' => e = .returned (.bool true) ∧ Below w.heap.size w w' := by
  have HB0 : Hid (Below w.heap.size w ((w.alloc (.cells #[.int .i64 f.id, .int .i64 f.pr, .int .i64 f.ev, .bool f.pre, .string f.fr, .slice A n c] 25)).alloc (.cells #[.string xf, .int .i64 xa.id, .int .i64 xa.pr, .int .i64 xa.ev, .slice A3 n3 c3] 63))) := Lib.hid (below_alloc (below_alloc (Below.refl _ _) _) _)
  have HN := Lib.hid (new_some (hS.below HB0.out) hb hok)
  have HSC := Lib.hid (hsc.below HB0.out)
  have HL := Lib.hid hl
  have HID := Lib.hid hid
  have e1 : decide ((n1 : Int) > 300) = false := decide_eq_false (by omega)
  have e2 : decide (300 < (n1 : Int)) = false := decide_eq_false (by omega)
  have e3 : (xa.id == f.id) = false := beq_eq_false_iff_ne.2 hid
  have HC2 : Hid (Cb ((w.alloc (.cells #[.int .i64 f.id, .int .i64 f.pr, .int .i64 f.ev, .bool f.pre, .string f.fr, .slice A n c] 25)).alloc (.cells #[.string xf, .int .i64 xa.id, .int .i64 xa.pr, .int .i64 xa.ev, .slice A3 n3 c3] 63)) w.heap.size 25 [.int .i64 f.id, .int .i64 f.pr, .int .i64 f.ev, .bool f.pre, .string f.fr, .slice A n c]) := Lib.hid ((Cb.new w [.int .i64 f.id, .int .i64 f.pr, .int .i64 f.ev, .bool f.pre, .string f.fr, .slice A n c] 25).alloc _)
  have HC3 : Hid (Cb ((w.alloc (.cells #[.int .i64 f.id, .int .i64 f.pr, .int .i64 f.ev, .bool f.pre, .string f.fr, .slice A n c] 25)).alloc (.cells #[.string xf, .int .i64 xa.id, .int .i64 xa.pr, .int .i64 xa.ev, .slice A3 n3 c3] 63)) (w.heap.size + 1) 63 [.string xf, .int .i64 xa.id, .int .i64 xa.pr, .int .i64 xa.ev, .slice A3 n3 c3]) := Lib.hid (by
    have h1 := Cb.new (w.alloc (.cells #[.int .i64 f.id, .int .i64 f.pr, .int .i64 f.ev, .bool f.pre, .string f.fr, .slice A n c] 25)) [.string xf, .int .i64 xa.id, .int .i64 xa.pr, .int .i64 xa.ev, .slice A3 n3 c3] 63
    rw [show (w.alloc (.cells #[.int .i64 f.id, .int .i64 f.pr, .int .i64 f.ev, .bool f.pre, .string f.fr, .slice A n c] 25)).heap.size = w.heap.size + 1 by simp] at h1
    exact h1)
  have hXs : ((w.alloc (.cells #[.int .i64 f.id, .int .i64 f.pr, .int .i64 f.ev, .bool f.pre, .string f.fr, .slice A n c] 25)).alloc (.cells #[.string xf, .int .i64 xa.id, .int .i64 xa.pr, .int .i64 xa.ev, .slice A3 n3 c3] 63)).heap.size = w.heap.size + 2 := by simp
  have HXS := Lib.hid hXs
  clear hS hb wa wb wc hsc hok hl hid hXs
  go_enter Try.func9, Try.ntmps9
  go_wp2_with fail
  refine HN.out.mono ?_
  rintro e w1 ⟨B, va, rfl, hM1, hb1⟩
  obtain ⟨p0, p1, p2, p3, p4, p5⟩ := (HC2.out.below hb1).six
  obtain ⟨q0, q1, q2, q3, q4⟩ := (HC3.out.below hb1).five
  have HM1 : Hid (Mm (w.heap.size + 2) w1 B (newM f)) := Lib.hid (by have h := hM1.mm; rwa [HXS.out] at h)
  have HB1 : Hid (Below (w.heap.size + 2) ((w.alloc (.cells #[.int .i64 f.id, .int .i64 f.pr, .int .i64 f.ev, .bool f.pre, .string f.fr, .slice A n c] 25)).alloc (.cells #[.string xf, .int .i64 xa.id, .int .i64 xa.pr, .int .i64 xa.ev, .slice A3 n3 c3] 63)) w1) := Lib.hid (by have h := hb1; rwa [HXS.out] at h)
  clear hb1 hM1 p1 p2 p3 p4 p5 q0 q2 q3 q4
  go_wp2_with fail
  go_loopg [41] n1 (fun gg x wr => OthRel ((w.alloc (.cells #[.int .i64 f.id, .int .i64 f.pr, .int .i64 f.ev, .bool f.pre, .string f.fr, .slice A n c] 25)).alloc (.cells #[.string xf, .int .i64 xa.id, .int .i64 xa.pr, .int .i64 xa.ev, .slice A3 n3 c3] 63)) (w.heap.size + 2) B f.id n1 gg x wr)
  case atStart => exact ⟨0, newM f, by omega, rfl, HM1.out, OkT.new f, rfl, by simp [newM], HB1.out⟩
  case round =>
    obtain ⟨i, m, hi, rfl, hm, hT, hmid, hlen, hbl⟩ := hrel
    have HMi := Lib.hid hm
    have HBi := Lib.hid hbl
    have HT := Lib.hid hT
    have HMI := Lib.hid hmid
    have HLE := Lib.hid hlen
    clear hm hbl hT hmid hlen p0 q1
    by_cases hlt : i < n1
    · have e3 : decide ((i : Int) < (n1 : Int)) = true := decide_eq_true (by omega)
      have hbX : Below ((w.alloc (.cells #[.int .i64 f.id, .int .i64 f.pr, .int .i64 f.ev, .bool f.pre, .string f.fr, .slice A n c] 25)).alloc (.cells #[.string xf, .int .i64 xa.id, .int .i64 xa.pr, .int .i64 xa.ev, .slice A3 n3 c3] 63)).heap.size ((w.alloc (.cells #[.int .i64 f.id, .int .i64 f.pr, .int .i64 f.ev, .bool f.pre, .string f.fr, .slice A n c] 25)).alloc (.cells #[.string xf, .int .i64 xa.id, .int .i64 xa.pr, .int .i64 xa.ev, .slice A3 n3 c3] 63)) wr := by rw [HXS.out]; exact HBi.out
      obtain ⟨b, off, A2, q2, k2, ha1, hbl2, e0, e1', e2', e3', e4, e5, e6⟩ := (HSC.out.below hbX).at hlt
      subst ha1
      have HLI : Hid (∃ o, o = l[i]!) := Lib.hid ⟨_, rfl⟩
      generalize l[i]! = o at *
      obtain ⟨kd, on, fr1, ai, ap, ae, ax⟩ := o
      simp only at e0 e1' e2' e3' e4 e5 e6
      obtain ⟨w5, hst5, hcb5, hb5⟩ := box41 wr kd on fr1 ai ap ae A2 q2 k2
      obtain ⟨g0, g1, g2, g3, g4, g5, g6⟩ := hcb5.seven
      have hsz : w.heap.size + 2 ≤ wr.heap.size := by rw [← HXS.out]; exact hbX.size
      have HB5 := Lib.hid (HBi.out.trans (hb5.mono hsz))
      have HM5 := Lib.hid (HMi.out.below hb5)
      have hlt1 : (i : Int) < (n1 : Int) := by omega
      have HW : Hid (Value.int .i64 (wrap64 ((i : Int) + 1)) = .int .i64 ((i + 1 : Nat) : Int)) := Lib.hid (by congr 1; have := HL.out; unfold wrap64; omega)
      have HS5 : Hid (w.heap.size + 2 ≤ w5.heap.size) := Lib.hid (Nat.le_trans hsz hb5.size)
      have HD := Lib.hid (does_any (A := A2) (n := q2) (c := k2) HM5.out HT.out (by have := HLE.out; have := HL.out; omega) ⟨kd, on, fr1, ai, ap, ae, ax⟩)
      have hls := hcb5.lt
      clear hb5 hcb5 hbX hsz
      go_wp2_with fail
      refine HD.out.mono ?_
      rintro e w6 ⟨rfl, hm6, hk6⟩
      go_wp2
      go_roundg (n1 - (i + 1))
      case measure => omega
      case rel => exact ⟨i + 1, _, by omega, HW.out, hm6, OkT.does HMi.out.ok HT.out _, by rw [does_id]; exact HMI.out, by have := out_does m ⟨kd, on, fr1, ai, ap, ae, ax⟩; have := HLE.out; omega, HB5.out.trans (hk6.below (Nat.le_refl _) HM5.out.lo HS5.out)⟩
    · have e3 : decide ((i : Int) < (n1 : Int)) = false := decide_eq_false (by omega)
      have hlt1 : ¬ (i : Int) < (n1 : Int) := by omega
      obtain ⟨va6, vo6, l6, hS6⟩ := HMi.out
      obtain ⟨ao, co, rfl, -, -⟩ := row_any hS6.row
      have HO6 := Lib.hid (out_any hS6)
      clear hS6
      go_wp2_with fail
      refine HO6.out.mono ?_
      rintro e w7 ⟨rfl, hm7, -, -, hk7⟩
      have HSi : w.heap.size + 2 ≤ wr.heap.size := by have := HBi.out.size; have := HXS.out; omega
      have HB7 := Lib.hid (HBi.out.trans (hk7.below (Nat.le_refl _) HMi.out.lo HSi))
      have HM7 := Lib.hid hm7
      obtain ⟨d1, d6, d7, d8⟩ := hm7.mm.cells
      obtain ⟨q0, q1, q2, q3, q4⟩ := (HC3.out.low HB7.out (by omega)).five
      have HS7 := Lib.hid (state_any d6)
      have HT7 := Lib.hid (wait_any d8)
      have HD7 := Lib.hid (down_any HM7.out.ok.pace d1 d7)
      have hne : xa.id ≠ (outM m).c.id := by show xa.id ≠ m.c.id; rw [HMI.out]; exact HID.out
      have HTK : ∀ q, Hid (Calls Try.prog 27 #[.pointer (some ⟨B, 0, none⟩), .string xf, .agg #[.int .i64 xa.id, .int .i64 xa.pr, .int .i64 xa.ev, .slice A3 n3 c3]] (w7.drewN q) fun e w' => e = .returned (.tuple #[]) ∧ Mm (w.heap.size + 2) w' B (outM m) ∧ Kp (w.heap.size + 2) B (w7.drewN q) w') := fun q => by
        have h1 := take_any (A := A3) (n := n3) (c := c3) (HM7.out.mm.drewN q) xf xa (by simp [outM])
        rw [take_other xf hne] at h1
        exact Lib.hid h1
      have HSZ7 : Hid (w.heap.size + 2 ≤ w7.heap.size) := Lib.hid (Nat.le_trans HSi hk7.size)
      clear hm7 hk7 d1 d6 d7 d8 hne HSi
      generalize hst : (outM m).st = st at *
      generalize hwt : (outM m).wt = wt at *
      generalize hdn : 3 * (outM m).pace + skewI (outM m).c.pr (outM m).pace = dn at *
      have HHS := Lib.hid (And.intro hst (And.intro hwt hdn))
      clear hst hwt hdn
      go_wp2_with fail
      refine HS7.out.mono ?_
      rintro e w' ⟨rfl, rfl⟩
      go_wp2_with fail
      refine HT7.out.mono ?_
      rintro e w' ⟨rfl, rfl⟩
      go_wp2_with fail
      refine HD7.out.mono ?_
      rintro e w8 ⟨rfl, q, rfl⟩
      go_wp2_with fail
      refine (HTK q).out.mono ?_
      rintro e w9 ⟨rfl, hm9, hk9⟩
      have HB9 := Lib.hid ((below_drewN HB7.out q).trans (hk9.below (Nat.le_refl _) HM7.out.lo HSZ7.out))
      have HS9 : Hid (w.heap.size + 2 ≤ w9.heap.size) := Lib.hid (Nat.le_trans HSZ7.out hk9.size)
      have HM9 := Lib.hid hm9
      clear hm9 hk9
      go_wp2_with fail
      refine (alive_any w9).mono ?_
      rintro e w10 ⟨rfl, hb10⟩
      have HM10 := Lib.hid (HM9.out.below hb10)
      have HB10 := Lib.hid (HB9.out.trans (hb10.mono HS9.out))
      have HS10 : Hid (w.heap.size + 2 ≤ w10.heap.size) := Lib.hid (Nat.le_trans HS9.out hb10.size)
      obtain ⟨d1, d6, d7, d8⟩ := HM10.out.cells
      have HSt := Lib.hid (state_any d6)
      have HWt := Lib.hid (wait_any d8)
      have HDn := Lib.hid (down_any HM10.out.ok.pace d1 d7)
      rw [HHS.out.1] at HSt
      rw [HHS.out.2.1] at HWt
      rw [HHS.out.2.2] at HDn
      have HO : ∀ q, Hid (Calls Try.prog 22 #[.pointer (some ⟨B, 0, none⟩)] (w10.drewN q) fun x w' => ∃ a k, x = .returned (.slice a 0 k) ∧ Kp (w.heap.size + 2) B (w10.drewN q) w') := fun q => by
        obtain ⟨va8, vo8, l8, hS8⟩ := HM10.out.drewN q
        obtain rfl : l8 = [] := by have := hS8.lst; simpa [outM] using this
        obtain ⟨ao8, co8, rfl, -, -⟩ := row_any hS8.row
        exact Lib.hid ((out_any hS8).mono fun e w' ⟨h1, _, _, _, h5⟩ => ⟨_, _, h1, h5⟩)
      clear hb10 d1 d6 d7 d8
      go_wp2_with fail
      refine HSt.out.mono ?_
      rintro e w' ⟨rfl, rfl⟩
      go_wp2_with fail
      refine HWt.out.mono ?_
      rintro e w' ⟨rfl, rfl⟩
      go_wp2_with fail
      refine HDn.out.mono ?_
      rintro e w11 ⟨rfl, q', rfl⟩
      go_wp2_with fail
      refine (HO q').out.mono ?_
      rintro e w12 ⟨a12, k12, rfl, hk12⟩
      go_wp2
      go_ret
      refine ⟨rfl, HB0.out.trans (((below_drewN HB10.out q').trans (hk12.below (Nat.le_refl _) HM10.out.lo HS10.out)).mono (by omega))⟩

/-- VrrpOthers. -/
theorem others_walk (f : Cf) (A : Option Addr) (n c : Nat) (a1 : Option Addr) (n1 c1 : Nat) (l : List Oq) (xf : ByteArray) (xa : Av) (A3 : Option Addr) (n3 c3 : Nat) (w : World) (hS : Strs w A n c f.ads) (hb : f.fr.size ≤ 140737488351232 ∧ n ≤ 8796093022208) (wa : (Lit.int .i64 f.id).wf = true) (wb : (Lit.int .i64 f.pr).wf = true) (wc : (Lit.int .i64 f.ev).wf = true) (hsc : Scr w a1 n1 c1 l) : Calls Try.prog 9 #[.agg #[.int .i64 f.id, .int .i64 f.pr, .int .i64 f.ev, .bool f.pre, .string f.fr, .slice A n c], .slice a1 n1 c1, .agg #[.string xf, .int .i64 xa.id, .int .i64 xa.pr, .int .i64 xa.ev, .slice A3 n3 c3]] w fun e w' => e = .returned (.bool true) ∧ Below w.heap.size w w' := by
  cases hok : okN f
  · exact others_no f A n c a1 n1 c1 l xf xa A3 n3 c3 w hS hb wa wb wc hsc hok
  · by_cases hl : 300 < n1
    · exact others_long f A n c a1 n1 c1 l xf xa A3 n3 c3 w hS hb wa wb wc hsc hok hl
    · by_cases hid : xa.id = f.id
      · exact others_own f A n c a1 n1 c1 l xf xa A3 n3 c3 w hS hb wa wb wc hsc hok hl hid
      · exact others_run f A n c a1 n1 c1 l xf xa A3 n3 c3 w hS hb wa wb wc hsc hok hl hid
end Go.Proofs.Ytpcdaidgijkkbaa
