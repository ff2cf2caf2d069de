/-
  What may be amiss with a packet, one by one, and what the closures of advert.checks tell.
-/
import Derived.Test.YthhomfchoomelaaAsmall
namespace Go.Proofs.Ythhomfchoomelaa
open Go.RowKit
set_option linter.unusedVariables false
set_option maxRecDepth 10000

def am1 (p l : Int) : Bool := decide (l ≠ 255 ∨ p ≠ 112)
def am2 (f t s : ByteArray) : Bool := !alikeB f t || decide (s.size < 8)
def am3 (s : ByteArray) : Bool := decide (byteAt (bts s) 0 / 16 ≠ 3)
def am4 (s : ByteArray) : Bool := decide (byteAt (bts s) 0 % 16 ≠ 1)
def am5 (f s : ByteArray) : Bool := decide (¬ (1 ≤ byteAt (bts s) 3 ∧ byteAt (bts s) 3 ≤ 8) ∨ (s.size : Int) ≠ 8 + byteAt (bts s) 3 * f.size)
def am6 (f t s : ByteArray) : Bool := decide (fd (tot (psx f t 112 s.size ++ bts s)) ≠ 65535)
def am7 (s : ByteArray) : Bool := decide (byteAt (bts s) 1 < 1 ∨ ¬ (1 ≤ twoAt (bts s) 4 ∧ twoAt (bts s) 4 ≤ 4095))
/-- What is amiss first. -/
def amiss (f t : ByteArray) (p l : Int) (s : ByteArray) : Int :=
  if am1 p l then 65 else if am2 f t s then 60 else if am3 s then 61 else if am4 s then 62 else if am5 f s then 63 else if am6 f t s then 64 else if am7 s then 66 else 0

/-- A body in a box. -/
def BoxS (W : World) (N : Nat) (s : ByteArray) : Prop := W.cell? ⟨N, 0, none⟩ = some (.string s)

set_option maxHeartbeats 400000 in
theorem clo1_at {W : World} {bp : Nat} {f t : ByteArray} {p l : Int} {s : ByteArray} {r : Bool} (hB : Boxed W bp f t p l s) (hr : am1 p l = r) :
    Calls Try.prog 44 #[.pointer (some ⟨bp, 0, none⟩)] W fun e w' => e = .returned (.bool r) ∧ Hid (Below W.heap.size W w') := by
  obtain ⟨x0, x1, x2, x3, x4⟩ := hB
  subst hr
  by_cases h : l = 255
  · have h1 : (l != 255) = false := by simpa using h
    go_enter Try.func44, Try.ntmps44
    go_wp2
    go_ret
    exact ⟨ret_bool (by rw [Bool.eq_iff_iff]; simp [am1, h]), Lib.hid (Below.refl _ _)⟩
  · have h1 : (l != 255) = true := by simpa using h
    go_enter Try.func44, Try.ntmps44
    go_wp2
    go_ret
    exact ⟨ret_bool (by rw [Bool.eq_iff_iff]; simp [am1, h]), Lib.hid (Below.refl _ _)⟩

set_option maxHeartbeats 400000 in
theorem clo2_at {W : World} {bp bb : Nat} {f t : ByteArray} {p l : Int} {s : ByteArray} {r : Bool} (hB : Boxed W bp f t p l s) (hS : BoxS W bb s) (hf : f.size ≤ 140737488351232) (ht : t.size ≤ 140737488351232) (hs : s.size ≤ 140737488351232) (hr : am2 f t s = r) :
    Calls Try.prog 45 #[.pointer (some ⟨bp, 0, none⟩), .pointer (some ⟨bb, 0, none⟩)] W fun e w' => e = .returned (.bool r) ∧ Hid (Below W.heap.size W w') := by
  obtain ⟨x0, x1, x2, x3, x4⟩ := hB
  unfold BoxS at hS
  subst hr
  have hq := right_any f W hf
  rcases h : rightB f with _ | _
  · rw [h] at hq
    have HQ := Lib.hid hq
    have HR := Lib.hid h
    clear hq h
    go_enter Try.func45, Try.ntmps45
    go_wp2_with (go_at_call 17; refine HQ.out.mono ?_; rintro e w' ⟨rfl, rfl⟩)
    go_ret
    exact ⟨ret_bool (by have := HR.out; simp [am2, alikeB, this]), Lib.hid (Below.refl _ _)⟩
  · rw [h] at hq
    have HQ := Lib.hid hq
    have HR := Lib.hid h
    clear hq h
    by_cases h2 : f.size = t.size
    · have e2 : ((f.size : Int) != (t.size : Int)) = false := by simp; omega
      go_enter Try.func45, Try.ntmps45
      go_wp2_with (go_at_call 17; refine HQ.out.mono ?_; rintro e w' ⟨rfl, rfl⟩)
      go_ret
      exact ⟨ret_bool (by have := HR.out; rw [Bool.eq_iff_iff]; simp [am2, alikeB, this, h2]; try omega), Lib.hid (Below.refl _ _)⟩
    · have e2 : ((f.size : Int) != (t.size : Int)) = true := by simp; omega
      go_enter Try.func45, Try.ntmps45
      go_wp2_with (go_at_call 17; refine HQ.out.mono ?_; rintro e w' ⟨rfl, rfl⟩)
      go_ret
      exact ⟨ret_bool (by have := HR.out; simp [am2, alikeB, this, h2]), Lib.hid (Below.refl _ _)⟩

theorem and_15 (x : Int) (h : 0 ≤ x ∧ x ≤ 255) : bits BinOp.and IntKind.u8 x 15 = x % 16 := by
  obtain ⟨n, rfl⟩ := Int.eq_ofNat_of_zero_le h.1
  have hn : n < 256 := by omega
  have key : ∀ m : Fin 256, bits BinOp.and IntKind.u8 ((m.val : Nat) : Int) 15 = ((m.val : Nat) : Int) % 16 := by decide +kernel
  exact key ⟨n, hn⟩

set_option maxHeartbeats 400000 in
theorem clo3_at {W : World} {bb : Nat} {s : ByteArray} {r : Bool} (hS : BoxS W bb s) (hs : 0 < s.size) (hr : am3 s = r) :
    Calls Try.prog 46 #[.pointer (some ⟨bb, 0, none⟩)] W fun e w' => e = .returned (.bool r) ∧ Hid (Below W.heap.size W w') := by
  unfold BoxS at hS
  subst hr
  have i0 : (0 : Int) < (s.size : Int) := by omega
  have b0 := byte_le s[0]
  have HE := Lib.hid (byteAt_text s 0 hs)
  go_enter Try.func46, Try.ntmps46
  go_wp2
  go_ret
  exact ⟨ret_bool (by rw [Bool.eq_iff_iff]; simp [am3, HE.out]; try omega), Lib.hid (Below.refl _ _)⟩

set_option maxHeartbeats 400000 in
theorem clo4_at {W : World} {bb : Nat} {s : ByteArray} {r : Bool} (hS : BoxS W bb s) (hs : 0 < s.size) (hr : am4 s = r) :
    Calls Try.prog 47 #[.pointer (some ⟨bb, 0, none⟩)] W fun e w' => e = .returned (.bool r) ∧ Hid (Below W.heap.size W w') := by
  unfold BoxS at hS
  subst hr
  have i0 : (0 : Int) < (s.size : Int) := by omega
  have b0 := byte_le s[0]
  have ha := and_15 _ b0
  have HE := Lib.hid (byteAt_text s 0 hs)
  go_enter Try.func47, Try.ntmps47
  go_wp2
  go_ret
  exact ⟨ret_bool (by rw [Bool.eq_iff_iff]; simp [am4, HE.out]; try omega), Lib.hid (Below.refl _ _)⟩

set_option maxHeartbeats 400000 in
theorem clo5_at {W : World} {bp bb : Nat} {f t : ByteArray} {p l : Int} {s : ByteArray} {r : Bool} (hB : Boxed W bp f t p l s) (hS : BoxS W bb s) (hf : f.size ≤ 16) (hs : s.size ≤ 140737488351232) (hs8 : 8 ≤ s.size) (hr : am5 f s = r) :
    Calls Try.prog 48 #[.pointer (some ⟨bb, 0, none⟩), .pointer (some ⟨bp, 0, none⟩)] W fun e w' => e = .returned (.bool r) ∧ Hid (Below W.heap.size W w') := by
  obtain ⟨x0, x1, x2, x3, x4⟩ := hB
  unfold BoxS at hS
  subst hr
  have i0 : (3 : Int) < (s.size : Int) := by omega
  obtain ⟨x, hx⟩ : ∃ x : Int, (s[3].toNat : Int) = x := ⟨_, rfl⟩
  have b0 := byte_le s[3]
  rw [hx] at b0
  have HE : Hid (byteAt (bts s) 3 = x) := Lib.hid (by rw [byteAt_text s 3 (by omega), hx])
  have w0 : IntKind.i64.wrap x = x := by rw [IntKind.wrap_i64]; omega
  rcases hm : mayCountB x with _ | _
  · have HM := Lib.hid hm
    clear hm
    go_enter Try.func48, Try.ntmps48
    go_wp2_with (go_at_call 31; refine (mayCount_at HM.out).mono ?_; rintro e w' ⟨rfl, rfl⟩)
    go_ret
    exact ⟨ret_bool (by have := HM.out; simp [mayCountB] at this; simp [am5, HE.out]; omega), Lib.hid (Below.refl _ _)⟩
  · have HM := Lib.hid hm
    have hm2 : 1 ≤ x ∧ x ≤ 8 := by simpa [mayCountB] using hm
    have hz : 0 ≤ x * (f.size : Int) ∧ x * (f.size : Int) ≤ 128 := by
      refine ⟨Int.mul_nonneg (by omega) (by omega), ?_⟩
      have h1 : x * (f.size : Int) ≤ 8 * (f.size : Int) := Int.mul_le_mul_of_nonneg_right hm2.2 (by omega)
      omega
    obtain ⟨z, hzz⟩ : ∃ z, z = x * (f.size : Int) := ⟨_, rfl⟩
    have hw : IntKind.i64.wrap (x * (f.size : Int)) = z := by rw [IntKind.wrap_i64, hzz]; omega
    rw [← hzz] at hz
    have HZ := Lib.hid hzz
    clear hm hm2 hzz
    go_enter Try.func48, Try.ntmps48
    go_wp2_with (go_at_call 31; refine (mayCount_at HM.out).mono ?_; rintro e w' ⟨rfl, rfl⟩)
    go_ret
    exact ⟨ret_bool (by have := HM.out; simp [mayCountB] at this; rw [Bool.eq_iff_iff]; simp [am5, HE.out, ← HZ.out]; try omega), Lib.hid (Below.refl _ _)⟩

set_option maxHeartbeats 400000 in
theorem clo7_at {W : World} {bb : Nat} {s : ByteArray} {r : Bool} (hS : BoxS W bb s) (hs : 8 ≤ s.size) (hr : am7 s = r) :
    Calls Try.prog 51 #[.pointer (some ⟨bb, 0, none⟩)] W fun e w' => e = .returned (.bool r) ∧ Hid (Below W.heap.size W w') := by
  unfold BoxS at hS
  subst hr
  have i0 : (1 : Int) < (s.size : Int) := by omega
  obtain ⟨x, hx⟩ : ∃ x : Int, (s[1].toNat : Int) = x := ⟨_, rfl⟩
  have b0 := byte_le s[1]
  rw [hx] at b0
  have HE : Hid (byteAt (bts s) 1 = x) := Lib.hid (by rw [byteAt_text s 1 (by omega), hx])
  have w0 : IntKind.i64.wrap x = x := by rw [IntKind.wrap_i64]; omega
  obtain ⟨v, hv⟩ : ∃ v, twoAt (bts s) 4 = v := ⟨_, rfl⟩
  have HV := Lib.hid hv
  clear hv
  have h6 : 6 ≤ s.size := by omega
  rcases hm : mayIdB x with _ | _
  · have HM := Lib.hid hm
    clear hm
    go_enter Try.func51, Try.ntmps51
    go_wp2_with (go_at_call 18; refine (mayId_at HM.out).mono ?_; rintro e w' ⟨rfl, rfl⟩)
    go_ret
    exact ⟨ret_bool (by have := HM.out; simp [mayIdB] at this; simp [am7, HE.out]; omega), Lib.hid (Below.refl _ _)⟩
  · rcases hm2 : mayEveryB v with _ | _
    · have HM := Lib.hid hm
      have HM2 := Lib.hid hm2
      clear hm hm2
      go_enter Try.func51, Try.ntmps51
      go_wp2_with (first | (go_at_call 18; refine (mayId_at HM.out).mono ?_; rintro e w' ⟨rfl, rfl⟩) | (go_at_call 29; refine (every_at h6 HV.out).mono ?_; rintro e w' ⟨rfl, q, rfl⟩) | (go_at_call 20; refine (mayEvery_at HM2.out).mono ?_; rintro e w' ⟨rfl, rfl⟩))
      go_ret
      exact ⟨ret_bool (by have := HM2.out; simp [mayEveryB] at this; simp [am7, HE.out, HV.out]; omega), Lib.hid (below_drewN (Below.refl _ _) _)⟩
    · have HM := Lib.hid hm
      have HM2 := Lib.hid hm2
      clear hm hm2
      go_enter Try.func51, Try.ntmps51
      go_wp2_with (first | (go_at_call 18; refine (mayId_at HM.out).mono ?_; rintro e w' ⟨rfl, rfl⟩) | (go_at_call 29; refine (every_at h6 HV.out).mono ?_; rintro e w' ⟨rfl, q, rfl⟩) | (go_at_call 20; refine (mayEvery_at HM2.out).mono ?_; rintro e w' ⟨rfl, rfl⟩))
      go_ret
      exact ⟨ret_bool (by have h1 := HM2.out; have h2 := HM.out; simp [mayEveryB] at h1; simp [mayIdB] at h2; simp [am7, HE.out, HV.out]; omega), Lib.hid (below_drewN (Below.refl _ _) _)⟩

end Go.Proofs.Ythhomfchoomelaa
