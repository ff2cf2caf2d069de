/-
  What the small functions of ports do: hasPorts, isPort, mayFlag, isFour, bothFour, bothSix, two, Turn.
-/
import Derived.Test.YtomcniakffipfaaDoorPlib
namespace Go.Proofs.YtomcniakffipfaaDoor
open Go.RowKit
set_option linter.unusedVariables false
set_option maxRecDepth 10000

def portsB (p : Int) : Bool := decide (p = 6 ∨ p = 17)
set_option maxHeartbeats 400000 in
/-- ports.hasPorts. -/
theorem hasPorts_at {p : Int} {r : Bool} {w : World} (hr : portsB p = r) :
    Calls Tryd.prog 24 #[.int .i64 p] w fun e w' => e = .returned (.bool r) ∧ w = w' := by
  subst hr
  by_cases h : p = 6
  · subst h
    go_enter Tryd.func24, Tryd.ntmps24
    go_wp2
    go_ret
    exact ⟨rfl, rfl⟩
  · have h1 : (p == 6) = false := by simpa using h
    go_enter Tryd.func24, Tryd.ntmps24
    go_wp2
    go_ret
    exact ⟨ret_bool (by rw [Bool.eq_iff_iff]; simp [portsB]; try omega), rfl⟩

def portB (p : Int) : Bool := decide (0 ≤ p ∧ p ≤ 65535)
set_option maxHeartbeats 400000 in
/-- ports.isPort. -/
theorem isPort_at {p : Int} {r : Bool} {w : World} (hr : portB p = r) :
    Calls Tryd.prog 25 #[.int .i64 p] w fun e w' => e = .returned (.bool r) ∧ w = w' := by
  subst hr
  by_cases h : 0 ≤ p
  · have h1 : decide (0 ≤ p) = true := by simpa using h
    go_enter Tryd.func25, Tryd.ntmps25
    go_wp2
    go_ret
    exact ⟨ret_bool (by simp [portB, h]), rfl⟩
  · have h1 : decide (0 ≤ p) = false := by simpa using h
    go_enter Tryd.func25, Tryd.ntmps25
    go_wp2
    go_ret
    exact ⟨ret_bool (by rw [Bool.eq_iff_iff]; simp [portB]; try omega), rfl⟩

def flagB (p l : Int) : Bool := decide (if p = 17 then l = 0 else 0 ≤ l ∧ l ≤ 63)
set_option maxHeartbeats 400000 in
/-- ports.mayFlag. -/
theorem mayFlag_at {p a b l k : Int} {r : Bool} {w : World} (hr : flagB p l = r) :
    Calls Tryd.prog 26 #[.agg #[.int .i64 p, .int .i64 a, .int .i64 b, .int .i64 l, .int .i64 k]] w fun e w' => e = .returned (.bool r) ∧ Below w.heap.size w w' := by
  subst hr
  by_cases h : p = 17
  · subst h
    go_enter Tryd.func26, Tryd.ntmps26
    go_wp2
    go_ret
    exact ⟨ret_bool (by rw [Bool.eq_iff_iff]; simp [flagB]; try omega), (Below.refl _ _).alloc (Nat.le_refl _) _⟩
  · have h1 : (p == 17) = false := by simpa using h
    by_cases h2 : 0 ≤ l
    · have h3 : decide (0 ≤ l) = true := by simpa using h2
      go_enter Tryd.func26, Tryd.ntmps26
      go_wp2
      go_ret
      exact ⟨ret_bool (by rw [Bool.eq_iff_iff]; simp [flagB, h]; try omega), (Below.refl _ _).alloc (Nat.le_refl _) _⟩
    · have h3 : decide (0 ≤ l) = false := by simpa using h2
      go_enter Tryd.func26, Tryd.ntmps26
      go_wp2
      go_ret
      exact ⟨ret_bool (by rw [Bool.eq_iff_iff]; simp [flagB, h]; try omega), (Below.refl _ _).alloc (Nat.le_refl _) _⟩

set_option maxHeartbeats 400000 in
/-- ports.isFour. -/
theorem isFour_at {s : ByteArray} {r : Bool} {w : World} (hs : s.size ≤ 140737488351232) (hr : decide (s.size = 4) = r) :
    Calls Tryd.prog 55 #[.string s] w fun e w' => e = .returned (.bool r) ∧ w = w' := by
  subst hr
  have hq := right_any s w hs
  rcases h : rightB s with _ | _
  · rw [h] at hq
    have HQ := Lib.hid hq
    have HR := Lib.hid h
    clear hq h
    go_enter Tryd.func55, Tryd.ntmps55
    go_wp2_with (go_at_call 49; refine HQ.out.mono ?_; rintro e w' ⟨rfl, rfl⟩)
    go_ret
    exact ⟨ret_bool (by have := HR.out; simp [rightB] at this; simp; omega), rfl⟩
  · rw [h] at hq
    have HQ := Lib.hid hq
    have HR := Lib.hid h
    have HS := Lib.hid (six_any s w hs)
    clear hq h
    go_enter Tryd.func55, Tryd.ntmps55
    go_wp2_with (first | (go_at_call 49; refine HQ.out.mono ?_; rintro e w' ⟨rfl, rfl⟩) | (go_at_call 9; refine HS.out.mono ?_; rintro e w' ⟨rfl, rfl⟩))
    go_ret
    exact ⟨ret_bool (by have := HR.out; simp [rightB] at this; rw [Bool.eq_iff_iff]; simp; omega), rfl⟩

def four2 (f t : ByteArray) : Bool := decide (f.size = 4 ∧ t.size = 4)
def six2 (f t : ByteArray) : Bool := decide (f.size = 16 ∧ t.size = 16)
set_option maxHeartbeats 400000 in
/-- ports.bothFour. -/
theorem bothFour_at {f t : ByteArray} {p l : Int} {s : ByteArray} {r : Bool} {w : World} (hf : f.size ≤ 140737488351232) (ht : t.size ≤ 140737488351232) (hr : four2 f t = r) :
    Calls Tryd.prog 39 #[.agg #[.string f, .string t, .int .i64 p, .int .i64 l, .string s]] w fun e w' => e = .returned (.bool r) ∧ Below w.heap.size w w' := by
  subst hr
  rcases h : decide (f.size = 4) with _ | _
  · have H := Lib.hid h
    clear h
    go_enter Tryd.func39, Tryd.ntmps39
    go_wp2_with (go_at_call 55; refine (isFour_at hf H.out).mono ?_; rintro e w' ⟨rfl, rfl⟩)
    go_ret
    exact ⟨ret_bool (by have := H.out; simp at this; simp [four2, this]), (Below.refl _ _).alloc (Nat.le_refl _) _⟩
  · have H := Lib.hid h
    clear h
    go_enter Tryd.func39, Tryd.ntmps39
    go_wp2_with fail
    refine (isFour_at hf H.out).mono ?_
    rintro e w' ⟨rfl, rfl⟩
    go_wp2_with fail
    refine (isFour_at ht rfl).mono ?_
    rintro e w' ⟨rfl, rfl⟩
    go_wp2
    go_ret
    exact ⟨ret_bool (by have := H.out; simp at this; simp [four2, this]), (Below.refl _ _).alloc (Nat.le_refl _) _⟩
set_option maxHeartbeats 400000 in
/-- ports.bothSix. -/
theorem bothSix_at {f t : ByteArray} {p l : Int} {s : ByteArray} {r : Bool} {w : World} (hf : f.size ≤ 140737488351232) (ht : t.size ≤ 140737488351232) (hr : six2 f t = r) :
    Calls Tryd.prog 40 #[.agg #[.string f, .string t, .int .i64 p, .int .i64 l, .string s]] w fun e w' => e = .returned (.bool r) ∧ Below w.heap.size w w' := by
  subst hr
  rcases h : decide (f.size = 16) with _ | _
  · have H := Lib.hid h
    clear h
    go_enter Tryd.func40, Tryd.ntmps40
    go_wp2_with (go_at_call 9; refine (six_at hf H.out).mono ?_; rintro e w' ⟨rfl, rfl⟩)
    go_ret
    exact ⟨ret_bool (by have := H.out; simp at this; simp [six2, this]), (Below.refl _ _).alloc (Nat.le_refl _) _⟩
  · have H := Lib.hid h
    clear h
    go_enter Tryd.func40, Tryd.ntmps40
    go_wp2_with fail
    refine (six_at hf H.out).mono ?_
    rintro e w' ⟨rfl, rfl⟩
    go_wp2_with fail
    refine (six_at ht rfl).mono ?_
    rintro e w' ⟨rfl, rfl⟩
    go_wp2
    go_ret
    exact ⟨ret_bool (by have := H.out; simp at this; simp [six2, this]), (Below.refl _ _).alloc (Nat.le_refl _) _⟩

/-- One byte of a text, 0 where there is none. -/
def byteAt (bs : List Int) (k : Nat) : Int := bs[k]?.getD 0
/-- Two of them, as a number. -/
def twoAt (bs : List Int) (k : Nat) : Int := byteAt bs k * 256 + byteAt bs (k + 1)
theorem byteAt_bd {bs : List Int} (h : Byt bs) (k : Nat) : 0 ≤ byteAt bs k ∧ byteAt bs k ≤ 255 := h.get k
theorem twoAt_bd {bs : List Int} (h : Byt bs) (k : Nat) : 0 ≤ twoAt bs k ∧ twoAt bs k ≤ 65535 := by
  have h1 := byteAt_bd h k
  have h2 := byteAt_bd h (k + 1)
  unfold twoAt
  omega
theorem byteAt_text (s : ByteArray) (k : Nat) (h : k < s.size) : byteAt (bts s) k = (s[k].toNat : Int) := by
  have hl : k < (bts s).length := by rw [bts_len]; exact h
  rw [byteAt, List.getElem?_eq_getElem hl]
  simp [bts]
  rfl

set_option maxHeartbeats 400000 in
/-- ports.two. -/
theorem two_at {s : ByteArray} {k : Nat} {x : Int} {w : World} (hs : s.size ≤ 140737488351232) (hk : k + 1 < s.size) (hx : twoAt (bts s) k = x) :
    Calls Tryd.prog 54 #[.string s, .int .i64 (k : Int)] w fun e w' => e = .returned (.int .i64 x) ∧ ∃ q, w' = w.drewN q := by
  have e1 := byteAt_text s k (by omega)
  have e2 := byteAt_text s (k + 1) hk
  have hx' : (s[k].toNat : Int) * 256 + (s[k + 1].toNat : Int) = x := by rw [← hx, twoAt, e1, e2]
  have ho := or_type (s[k].toNat : Int) (s[k + 1].toNat : Int) (byte_le _) (byte_le _)
  have b1 := byte_le s[k]
  have b2 := byte_le s[k + 1]
  have HX := Lib.hid hx'
  clear e1 e2 hx hx'
  have i1 : (k : Int) < (s.size : Int) := by omega
  have i2 : (k : Int) + 1 < (s.size : Int) := by omega
  have i3 : (0 : Int) ≤ (k : Int) + 1 := by omega
  have w1 : IntKind.i64.wrap ((k : Int) + 1) = (k : Int) + 1 := by rw [IntKind.wrap_i64]; omega
  have w2 : IntKind.i64.wrap (s[k].toNat : Int) = (s[k].toNat : Int) := by rw [IntKind.wrap_i64]; omega
  have w3 : IntKind.i64.wrap ((s[k].toNat : Int) * 256) = (s[k].toNat : Int) * 256 := by rw [IntKind.wrap_i64]; omega
  have w4 : IntKind.i64.wrap (s[k + 1].toNat : Int) = (s[k + 1].toNat : Int) := by rw [IntKind.wrap_i64]; omega
  go_enter Tryd.func54, Tryd.ntmps54
  go_wp2_with fail
  go_quiet (fail)
  go_wp2
  go_ret
  exact ⟨ret_int HX.out, _, rfl⟩

set_option maxHeartbeats 400000 in
/-- ports.Turn. -/
theorem turn_any (f t : ByteArray) (p a b : Int) (w : World) :
    Calls Tryd.prog 14 #[.agg #[.int .i64 p, .string f, .string t, .int .i64 a, .int .i64 b]] w fun e w' => e = .returned (.agg #[.int .i64 p, .string t, .string f, .int .i64 b, .int .i64 a]) ∧ Below w.heap.size w w' := by
  go_enter Tryd.func14, Tryd.ntmps14
  go_wp2
  exact bodyPost_ret (v := .agg #[.int .i64 p, .string t, .string f, .int .i64 b, .int .i64 a]) (by simp [results, Tryd.results14, go_sem]) rfl ⟨rfl, ((Below.refl _ _).alloc (Nat.le_refl _) _).alloc (by simp) _⟩

end Go.Proofs.YtomcniakffipfaaDoor
