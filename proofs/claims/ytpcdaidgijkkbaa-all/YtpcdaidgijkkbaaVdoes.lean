/-
  What the law's own does does: a call on a machine.
-/
import Derived.Test.YtpcdaidgijkkbaaVrskew
namespace Go.Proofs.Ytpcdaidgijkkbaa
open Go.RowKit Go.Maps
set_option linter.unusedVariables false
set_option linter.unusedSimpArgs false
set_option maxRecDepth 40000

def DRel (w : World) (base B : Nat) (cs : List Value) (m : Mc) (k : Nat) (gg : Nat) (x : Value) (wr : World) : Prop :=
  ∃ i : Nat, i + gg = k ∧ x = .int .i64 (i : Int) ∧ Mm base wr B (ticksM i m) ∧ Kp base B w wr ∧ Cb wr w.heap.size 41 cs ∧ w.heap.size < wr.heap.size
theorem howMany_le (n : Int) : howMany n ≤ 2000 := by unfold howMany; omega
section
variable {base B : Nat} {w : World} {m : Mc} {A : Option Addr} {n c : Nat} {kd on ai ap ae : Int} {fr : ByteArray}

set_option maxHeartbeats 2000000 in
theorem does0 (h : Mm base w B m) (ht : OkT m) (hlen : m.out.length ≤ 274877906944) (hk : kd = 0) :
    Calls Try.prog 15 #[.pointer (some ⟨B, 0, none⟩), .agg #[.int .i64 kd, .int .i64 on, .string fr, .int .i64 ai, .int .i64 ap, .int .i64 ae, .slice A n c]] w fun e w' => e = .returned (.tuple #[]) ∧ Mm base w' B (startM m) ∧ Kp base B w w' := by
  have hb0 : Below w.heap.size w (w.alloc (.cells #[.int .i64 kd, .int .i64 on, .string fr, .int .i64 ai, .int .i64 ap, .int .i64 ae, .slice A n c] 41)) := below_alloc (Below.refl _ _) _
  have h0 := h.below hb0
  have hlt := h.lt
  have hlo := h.lo
  have HC : Hid (Calls Try.prog 26 #[.pointer (some ⟨B, 0, none⟩)] (w.alloc (.cells #[.int .i64 kd, .int .i64 on, .string fr, .int .i64 ai, .int .i64 ap, .int .i64 ae, .slice A n c] 41)) fun e w' => e = .returned (.tuple #[]) ∧ Mm base w' B (startM m) ∧ Kp base B w w') :=
    Lib.hid ((start_any h0 (by omega)).mono fun e w' ⟨h1, h3, h4⟩ => ⟨h1, h3, (Kp.of_below hb0).trans h4⟩)
  clear hb0 ht hlen hlt hlo
  subst hk
  clear h h0
  go_enter Try.func15, Try.ntmps15
  go_wp2_with fail
  refine HC.out.mono ?_
  rintro e w1 ⟨rfl, hm⟩
  go_wp2
  first | go_end0 | ((try simp only [Exit.inBlock, Exit.then]); refine bodyPost_ret (results_none rfl _ _ _) rfl ?_)
  exact ⟨rfl, hm⟩

set_option maxHeartbeats 2000000 in
theorem does1 (h : Mm base w B m) (ht : OkT m) (hlen : m.out.length ≤ 274877906944) (hk : kd = 1) :
    Calls Try.prog 15 #[.pointer (some ⟨B, 0, none⟩), .agg #[.int .i64 kd, .int .i64 on, .string fr, .int .i64 ai, .int .i64 ap, .int .i64 ae, .slice A n c]] w fun e w' => e = .returned (.tuple #[]) ∧ Mm base w' B (stopM m) ∧ Kp base B w w' := by
  have hb0 : Below w.heap.size w (w.alloc (.cells #[.int .i64 kd, .int .i64 on, .string fr, .int .i64 ai, .int .i64 ap, .int .i64 ae, .slice A n c] 41)) := below_alloc (Below.refl _ _) _
  have h0 := h.below hb0
  have hlt := h.lt
  have hlo := h.lo
  have HC : Hid (Calls Try.prog 29 #[.pointer (some ⟨B, 0, none⟩)] (w.alloc (.cells #[.int .i64 kd, .int .i64 on, .string fr, .int .i64 ai, .int .i64 ap, .int .i64 ae, .slice A n c] 41)) fun e w' => e = .returned (.tuple #[]) ∧ Mm base w' B (stopM m) ∧ Kp base B w w') :=
    Lib.hid ((stop_any h0 (by omega)).mono fun e w' ⟨h1, h3, h4⟩ => ⟨h1, h3, (Kp.of_below hb0).trans h4⟩)
  clear hb0 ht hlen hlt hlo
  subst hk
  clear h h0
  go_enter Try.func15, Try.ntmps15
  go_wp2_with fail
  refine HC.out.mono ?_
  rintro e w1 ⟨rfl, hm⟩
  go_wp2
  first | go_end0 | ((try simp only [Exit.inBlock, Exit.then]); refine bodyPost_ret (results_none rfl _ _ _) rfl ?_)
  exact ⟨rfl, hm⟩

set_option maxHeartbeats 2000000 in
theorem does3 (h : Mm base w B m) (ht : OkT m) (hlen : m.out.length ≤ 274877906944) (hk : kd = 3) :
    Calls Try.prog 15 #[.pointer (some ⟨B, 0, none⟩), .agg #[.int .i64 kd, .int .i64 on, .string fr, .int .i64 ai, .int .i64 ap, .int .i64 ae, .slice A n c]] w fun e w' => e = .returned (.tuple #[]) ∧ Mm base w' B (takeM m fr ⟨ai, ap, ae, []⟩) ∧ Kp base B w w' := by
  have hb0 : Below w.heap.size w (w.alloc (.cells #[.int .i64 kd, .int .i64 on, .string fr, .int .i64 ai, .int .i64 ap, .int .i64 ae, .slice A n c] 41)) := below_alloc (Below.refl _ _) _
  have h0 := h.below hb0
  have hlt := h.lt
  have hlo := h.lo
  have HC : Hid (Calls Try.prog 27 #[.pointer (some ⟨B, 0, none⟩), .string fr, .agg #[.int .i64 ai, .int .i64 ap, .int .i64 ae, .slice A n c]] (w.alloc (.cells #[.int .i64 kd, .int .i64 on, .string fr, .int .i64 ai, .int .i64 ap, .int .i64 ae, .slice A n c] 41)) fun e w' => e = .returned (.tuple #[]) ∧ Mm base w' B (takeM m fr ⟨ai, ap, ae, []⟩) ∧ Kp base B w w') :=
    Lib.hid ((take_any h0 fr ⟨ai, ap, ae, []⟩ (by omega)).mono fun e w' ⟨h1, h3, h4⟩ => ⟨h1, h3, (Kp.of_below hb0).trans h4⟩)
  clear hb0 ht hlen hlt hlo
  subst hk
  clear h h0
  go_enter Try.func15, Try.ntmps15
  go_wp2_with fail
  refine HC.out.mono ?_
  rintro e w1 ⟨rfl, hm⟩
  go_wp2
  first | go_end0 | ((try simp only [Exit.inBlock, Exit.then]); refine bodyPost_ret (results_none rfl _ _ _) rfl ?_)
  exact ⟨rfl, hm⟩

set_option maxHeartbeats 2000000 in
theorem does4 (h : Mm base w B m) (ht : OkT m) (hlen : m.out.length ≤ 274877906944) (hk : kd = 4) :
    Calls Try.prog 15 #[.pointer (some ⟨B, 0, none⟩), .agg #[.int .i64 kd, .int .i64 on, .string fr, .int .i64 ai, .int .i64 ap, .int .i64 ae, .slice A n c]] w fun e w' => e = .returned (.tuple #[]) ∧ Mm base w' B (setM m on) ∧ Kp base B w w' := by
  have hb0 : Below w.heap.size w (w.alloc (.cells #[.int .i64 kd, .int .i64 on, .string fr, .int .i64 ai, .int .i64 ap, .int .i64 ae, .slice A n c] 41)) := below_alloc (Below.refl _ _) _
  have h0 := h.below hb0
  have hlt := h.lt
  have hlo := h.lo
  obtain ⟨va, vo, l, hS⟩ := h0
  have HC := Lib.hid (setp_any hS on)
  have HK0 := Lib.hid (Kp.of_below (base := base) (B := B) hb0)
  clear hb0 ht hlen hlt hlo hS
  subst hk
  clear h
  go_enter Try.func15, Try.ntmps15
  go_wp2_with fail
  refine HC.out.mono ?_
  rintro e w1 ⟨rfl, hm, hkp⟩
  go_wp2
  first | go_end0 | ((try simp only [Exit.inBlock, Exit.then]); refine bodyPost_ret (results_none rfl _ _ _) rfl ?_)
  exact ⟨rfl, hm.mm, HK0.out.trans hkp⟩

set_option maxHeartbeats 2000000 in
theorem does9 (h : Mm base w B m) (ht : OkT m) (hlen : m.out.length ≤ 274877906944) (h0' : kd ≠ 0) (h1' : kd ≠ 1) (h2' : kd ≠ 2) (h3' : kd ≠ 3) (h4' : kd ≠ 4) :
    Calls Try.prog 15 #[.pointer (some ⟨B, 0, none⟩), .agg #[.int .i64 kd, .int .i64 on, .string fr, .int .i64 ai, .int .i64 ap, .int .i64 ae, .slice A n c]] w fun e w' => e = .returned (.tuple #[]) ∧ Mm base w' B m ∧ Kp base B w w' := by
  have hb0 : Below w.heap.size w (w.alloc (.cells #[.int .i64 kd, .int .i64 on, .string fr, .int .i64 ai, .int .i64 ap, .int .i64 ae, .slice A n c] 41)) := below_alloc (Below.refl _ _) _
  have h0 := h.below hb0
  have hlt := h.lt
  have hlo := h.lo
  have HM := Lib.hid h0
  have HK0 := Lib.hid (Kp.of_below (base := base) (B := B) hb0)
  have e0 : (kd == 0) = false := beq_eq_false_iff_ne.2 h0'
  have e1 : (kd == 1) = false := beq_eq_false_iff_ne.2 h1'
  have e2 : (kd == 2) = false := beq_eq_false_iff_ne.2 h2'
  have e3 : (kd == 3) = false := beq_eq_false_iff_ne.2 h3'
  have e4 : (kd == 4) = false := beq_eq_false_iff_ne.2 h4'
  clear hb0 ht hlen hlt hlo h0' h1' h2' h3' h4'
  clear h h0
  go_enter Try.func15, Try.ntmps15
  go_wp2_with fail
  first | go_end0 | ((try simp only [Exit.inBlock, Exit.then]); refine bodyPost_ret (results_none rfl _ _ _) rfl ?_)
  exact ⟨rfl, HM.out, HK0.out⟩

set_option maxHeartbeats 2000000 in
theorem does2 (h : Mm base w B m) (ht : OkT m) (hlen : m.out.length ≤ 274877906944) (hk : kd = 2) :
    Calls Try.prog 15 #[.pointer (some ⟨B, 0, none⟩), .agg #[.int .i64 kd, .int .i64 on, .string fr, .int .i64 ai, .int .i64 ap, .int .i64 ae, .slice A n c]] w fun e w' => e = .returned (.tuple #[]) ∧ Mm base w' B (ticksM (howMany on) m) ∧ Kp base B w w' := by
  have hb0 : Below w.heap.size w (w.alloc (.cells #[.int .i64 kd, .int .i64 on, .string fr, .int .i64 ai, .int .i64 ap, .int .i64 ae, .slice A n c] 41)) := below_alloc (Below.refl _ _) _
  have h0 := h.below hb0
  have hlt := h.lt
  have hlo := h.lo
  subst hk
  have HM0 := Lib.hid h0
  have HK0 := Lib.hid (Kp.of_below (base := base) (B := B) hb0)
  have HC0 : Hid (Cb (w.alloc (.cells #[.int .i64 2, .int .i64 on, .string fr, .int .i64 ai, .int .i64 ap, .int .i64 ae, .slice A n c] 41)) w.heap.size 41 [.int .i64 2, .int .i64 on, .string fr, .int .i64 ai, .int .i64 ap, .int .i64 ae, .slice A n c]) := Lib.hid (Cb.new w [.int .i64 2, .int .i64 on, .string fr, .int .i64 ai, .int .i64 ap, .int .i64 ae, .slice A n c] 41)
  have HOK := Lib.hid h.ok
  clear hb0
  have hK2 := howMany_le on
  have hkk : howMany on = min on.toNat 2000 := by unfold howMany; omega
  generalize howMany on = k at *
  have HKK := Lib.hid hkk
  clear hkk
  clear h h0
  go_enter Try.func15, Try.ntmps15
  go_wp2_with fail
  go_loopg [4] k (fun gg x wr => DRel w base B [.int .i64 2, .int .i64 on, .string fr, .int .i64 ai, .int .i64 ap, .int .i64 ae, .slice A n c] m k gg x wr)
  case atStart => exact ⟨0, by omega, rfl, HM0.out, HK0.out, HC0.out, by simp⟩
  case round =>
    obtain ⟨i, hi, rfl, hm, hkp, hcb, hls⟩ := hrel
    have d1 : wr.cell? ⟨w.heap.size, 1, none⟩ = some (.int .i64 on) := hcb.cell 1
    have HMi := Lib.hid hm
    have HKi := Lib.hid hkp
    have HCi := Lib.hid hcb
    by_cases hlt2 : i < k
    · have e1 : decide ((i : Int) < on) = true := decide_eq_true (by have := HKK.out; omega)
      have e2 : decide ((i : Int) < 2000) = true := decide_eq_true (by have := HKK.out; omega)
      have hout : (ticksM i m).out.length ≤ 549755813888 := by have := out_ticks i m; omega
      have HTk := Lib.hid (tick_any hm (OkT.ticks i HOK.out ht) hout)
      clear hm hkp hcb hout
      go_wp2_with fail
      refine HTk.out.mono ?_
      rintro e w3 ⟨rfl, hm3, hk3⟩
      have hcb3 := hk3.cb HCi.out (by omega) (fun _ => by decide)
      have hsz := hk3.size
      go_wp2
      go_roundg (k - (i + 1))
      case measure => omega
      case rel => exact ⟨i + 1, by omega, by simp, by rw [ticks_next]; exact hm3, HKi.out.trans hk3, hcb3, by omega⟩
    · obtain rfl : i = k := by omega
      clear hm hkp hcb
      by_cases h1 : (i : Int) < on
      · have e1 : decide ((i : Int) < on) = true := decide_eq_true h1
        have e2 : decide ((i : Int) < 2000) = false := decide_eq_false (by have := HKK.out; omega)
        go_wp2
        first | go_end0 | ((try simp only [Exit.inBlock, Exit.then]); refine bodyPost_ret (results_none rfl _ _ _) rfl ?_)
        exact ⟨rfl, HMi.out, HKi.out⟩
      · have e1 : decide ((i : Int) < on) = false := decide_eq_false h1
        go_wp2
        first | go_end0 | ((try simp only [Exit.inBlock, Exit.then]); refine bodyPost_ret (results_none rfl _ _ _) rfl ?_)
        exact ⟨rfl, HMi.out, HKi.out⟩

/-- A call on a machine. -/
theorem does_any (h : Mm base w B m) (ht : OkT m) (hlen : m.out.length ≤ 274877906944) (o : Oq) :
    Calls Try.prog 15 #[.pointer (some ⟨B, 0, none⟩), .agg #[.int .i64 o.kind, .int .i64 o.n, .string o.fr, .int .i64 o.a.id, .int .i64 o.a.pr, .int .i64 o.a.ev, .slice A n c]] w fun e w' => e = .returned (.tuple #[]) ∧ Mm base w' B (doM m o) ∧ Kp base B w w' := by
  unfold doM
  by_cases h0 : o.kind = 0
  · rw [if_pos h0]; exact does0 h ht hlen h0
  rw [if_neg h0]
  by_cases h1 : o.kind = 1
  · rw [if_pos h1]; exact does1 h ht hlen h1
  rw [if_neg h1]
  by_cases h2 : o.kind = 2
  · rw [if_pos h2]; exact does2 h ht hlen h2
  rw [if_neg h2]
  by_cases h3 : o.kind = 3
  · rw [if_pos h3]; exact does3 h ht hlen h3
  rw [if_neg h3]
  by_cases h4 : o.kind = 4
  · rw [if_pos h4]; exact does4 h ht hlen h4
  rw [if_neg h4]
  exact does9 h ht hlen h0 h1 h2 h3 h4
end
end Go.Proofs.Ytpcdaidgijkkbaa
