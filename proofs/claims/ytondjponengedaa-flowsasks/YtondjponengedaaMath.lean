/-
  The plain arithmetic of SipHash-2-4: a number turned left, a round, what some bytes say, the whole. Nothing of the program stands here.
-/
import Derived.Below
import Derived.Laws.BitsAllLaws
import Derived.Laws.BitsLemmas
import Derived.Laws.Bits64
namespace Go.Proofs.Ytondjponengedaa

/-- Each is a byte. -/
def Byt (l : List Int) : Prop := ∀ x ∈ l, 0 ≤ x ∧ x ≤ 255

theorem Byt.nil : Byt [] := fun _ h => by simp at h
theorem Byt.cons {a : Int} {l : List Int} (h : 0 ≤ a ∧ a ≤ 255) (hl : Byt l) : Byt (a :: l) := fun x hx => by
  rcases List.mem_cons.1 hx with rfl | hx
  · exact h
  · exact hl x hx
theorem Byt.append {l m : List Int} (hl : Byt l) (hm : Byt m) : Byt (l ++ m) := fun x hx => by
  rcases List.mem_append.1 hx with hx | hx
  · exact hl x hx
  · exact hm x hx
theorem Byt.drop {l : List Int} (hl : Byt l) (k : Nat) : Byt (l.drop k) := fun x hx => hl x (List.mem_of_mem_drop hx)
theorem Byt.take {l : List Int} (hl : Byt l) (k : Nat) : Byt (l.take k) := fun x hx => hl x (List.mem_of_mem_take hx)
theorem Byt.get {l : List Int} (hl : Byt l) (k : Nat) : 0 ≤ l[k]?.getD 0 ∧ l[k]?.getD 0 ≤ 255 := by
  rcases h : l[k]? with _ | x
  · simp
  · simpa using hl x (List.mem_of_getElem? h)

/-- It is a number of 64 bits. -/
def U (n : Int) : Prop := 0 ≤ n ∧ n ≤ 18446744073709551615

/-- A sum without what goes beyond. -/
def ad (a b : Int) : Int := (a + b) % 18446744073709551616
def xr (a b : Int) : Int := bits BinOp.xor IntKind.u64 a b
theorem ad_u (a b : Int) : U (ad a b) := by unfold U ad; omega
theorem xr_u (a b : Int) : U (xr a b) := by
  have h : xr a b = _ % 18446744073709551616 := IntKind.wrap_u64 _
  unfold U
  rw [h]; omega

/-- A number turned left by one bit. -/
def st (n : Int) : Int := (n * 2 % 18446744073709551616 + n / 9223372036854775808) % 18446744073709551616
def rl (n : Int) : Nat → Int
  | 0 => n
  | k + 1 => st (rl n k)
theorem st_u (n : Int) : U (st n) := by unfold U st; omega
theorem rl_u {n : Int} (h : U n) : ∀ k, U (rl n k)
  | 0 => h
  | _ + 1 => st_u _

theorem st_split (m t u : Int) (ht : t = 0 ∨ t = 1) (hu : 0 ≤ u ∧ u < 9223372036854775808) (h : m = t * 9223372036854775808 + u) : st m = 2 * u + t := by
  have e1 : m * 2 % 18446744073709551616 = 2 * u := by rcases ht with rfl | rfl <;> omega
  have e2 : m / 9223372036854775808 = t := by rcases ht with rfl | rfl <;> omega
  unfold st
  rw [e1, e2]
  rcases ht with rfl | rfl <;> omega
theorem rl_q0 (q r : Int) (hq : 0 ≤ q ∧ q < 1) (_ : 0 ≤ r ∧ r < 18446744073709551616) : rl (q * 18446744073709551616 + r) 0 = r * 1 + q := by show q * _ + r = _; omega
theorem rl_q1 (q r : Int) (hq : 0 ≤ q ∧ q < 2) (hr : 0 ≤ r ∧ r < 9223372036854775808) : rl (q * 9223372036854775808 + r) 1 = r * 2 + q := by
  have h := rl_q0 (q / 2) (q % 2 * 9223372036854775808 + r) (by omega) (by omega)
  rw [show q / 2 * 18446744073709551616 + (q % 2 * 9223372036854775808 + r) = q * 9223372036854775808 + r by omega] at h
  show st (rl _ 0) = _
  rw [h, st_split _ (q % 2) (r * 1 + q / 2) (by omega) (by omega) (by omega)]
  omega
theorem rl_q2 (q r : Int) (hq : 0 ≤ q ∧ q < 4) (hr : 0 ≤ r ∧ r < 4611686018427387904) : rl (q * 4611686018427387904 + r) 2 = r * 4 + q := by
  have h := rl_q1 (q / 2) (q % 2 * 4611686018427387904 + r) (by omega) (by omega)
  rw [show q / 2 * 9223372036854775808 + (q % 2 * 4611686018427387904 + r) = q * 4611686018427387904 + r by omega] at h
  show st (rl _ 1) = _
  rw [h, st_split _ (q % 2) (r * 2 + q / 2) (by omega) (by omega) (by omega)]
  omega
theorem rl_q3 (q r : Int) (hq : 0 ≤ q ∧ q < 8) (hr : 0 ≤ r ∧ r < 2305843009213693952) : rl (q * 2305843009213693952 + r) 3 = r * 8 + q := by
  have h := rl_q2 (q / 2) (q % 2 * 2305843009213693952 + r) (by omega) (by omega)
  rw [show q / 2 * 4611686018427387904 + (q % 2 * 2305843009213693952 + r) = q * 2305843009213693952 + r by omega] at h
  show st (rl _ 2) = _
  rw [h, st_split _ (q % 2) (r * 4 + q / 2) (by omega) (by omega) (by omega)]
  omega
theorem rl_q4 (q r : Int) (hq : 0 ≤ q ∧ q < 16) (hr : 0 ≤ r ∧ r < 1152921504606846976) : rl (q * 1152921504606846976 + r) 4 = r * 16 + q := by
  have h := rl_q3 (q / 2) (q % 2 * 1152921504606846976 + r) (by omega) (by omega)
  rw [show q / 2 * 2305843009213693952 + (q % 2 * 1152921504606846976 + r) = q * 1152921504606846976 + r by omega] at h
  show st (rl _ 3) = _
  rw [h, st_split _ (q % 2) (r * 8 + q / 2) (by omega) (by omega) (by omega)]
  omega
theorem rl_q5 (q r : Int) (hq : 0 ≤ q ∧ q < 32) (hr : 0 ≤ r ∧ r < 576460752303423488) : rl (q * 576460752303423488 + r) 5 = r * 32 + q := by
  have h := rl_q4 (q / 2) (q % 2 * 576460752303423488 + r) (by omega) (by omega)
  rw [show q / 2 * 1152921504606846976 + (q % 2 * 576460752303423488 + r) = q * 576460752303423488 + r by omega] at h
  show st (rl _ 4) = _
  rw [h, st_split _ (q % 2) (r * 16 + q / 2) (by omega) (by omega) (by omega)]
  omega
theorem rl_q6 (q r : Int) (hq : 0 ≤ q ∧ q < 64) (hr : 0 ≤ r ∧ r < 288230376151711744) : rl (q * 288230376151711744 + r) 6 = r * 64 + q := by
  have h := rl_q5 (q / 2) (q % 2 * 288230376151711744 + r) (by omega) (by omega)
  rw [show q / 2 * 576460752303423488 + (q % 2 * 288230376151711744 + r) = q * 288230376151711744 + r by omega] at h
  show st (rl _ 5) = _
  rw [h, st_split _ (q % 2) (r * 32 + q / 2) (by omega) (by omega) (by omega)]
  omega
theorem rl_q7 (q r : Int) (hq : 0 ≤ q ∧ q < 128) (hr : 0 ≤ r ∧ r < 144115188075855872) : rl (q * 144115188075855872 + r) 7 = r * 128 + q := by
  have h := rl_q6 (q / 2) (q % 2 * 144115188075855872 + r) (by omega) (by omega)
  rw [show q / 2 * 288230376151711744 + (q % 2 * 144115188075855872 + r) = q * 144115188075855872 + r by omega] at h
  show st (rl _ 6) = _
  rw [h, st_split _ (q % 2) (r * 64 + q / 2) (by omega) (by omega) (by omega)]
  omega
theorem rl_q8 (q r : Int) (hq : 0 ≤ q ∧ q < 256) (hr : 0 ≤ r ∧ r < 72057594037927936) : rl (q * 72057594037927936 + r) 8 = r * 256 + q := by
  have h := rl_q7 (q / 2) (q % 2 * 72057594037927936 + r) (by omega) (by omega)
  rw [show q / 2 * 144115188075855872 + (q % 2 * 72057594037927936 + r) = q * 72057594037927936 + r by omega] at h
  show st (rl _ 7) = _
  rw [h, st_split _ (q % 2) (r * 128 + q / 2) (by omega) (by omega) (by omega)]
  omega
theorem rl_q9 (q r : Int) (hq : 0 ≤ q ∧ q < 512) (hr : 0 ≤ r ∧ r < 36028797018963968) : rl (q * 36028797018963968 + r) 9 = r * 512 + q := by
  have h := rl_q8 (q / 2) (q % 2 * 36028797018963968 + r) (by omega) (by omega)
  rw [show q / 2 * 72057594037927936 + (q % 2 * 36028797018963968 + r) = q * 36028797018963968 + r by omega] at h
  show st (rl _ 8) = _
  rw [h, st_split _ (q % 2) (r * 256 + q / 2) (by omega) (by omega) (by omega)]
  omega
theorem rl_q10 (q r : Int) (hq : 0 ≤ q ∧ q < 1024) (hr : 0 ≤ r ∧ r < 18014398509481984) : rl (q * 18014398509481984 + r) 10 = r * 1024 + q := by
  have h := rl_q9 (q / 2) (q % 2 * 18014398509481984 + r) (by omega) (by omega)
  rw [show q / 2 * 36028797018963968 + (q % 2 * 18014398509481984 + r) = q * 18014398509481984 + r by omega] at h
  show st (rl _ 9) = _
  rw [h, st_split _ (q % 2) (r * 512 + q / 2) (by omega) (by omega) (by omega)]
  omega
theorem rl_q11 (q r : Int) (hq : 0 ≤ q ∧ q < 2048) (hr : 0 ≤ r ∧ r < 9007199254740992) : rl (q * 9007199254740992 + r) 11 = r * 2048 + q := by
  have h := rl_q10 (q / 2) (q % 2 * 9007199254740992 + r) (by omega) (by omega)
  rw [show q / 2 * 18014398509481984 + (q % 2 * 9007199254740992 + r) = q * 9007199254740992 + r by omega] at h
  show st (rl _ 10) = _
  rw [h, st_split _ (q % 2) (r * 1024 + q / 2) (by omega) (by omega) (by omega)]
  omega
theorem rl_q12 (q r : Int) (hq : 0 ≤ q ∧ q < 4096) (hr : 0 ≤ r ∧ r < 4503599627370496) : rl (q * 4503599627370496 + r) 12 = r * 4096 + q := by
  have h := rl_q11 (q / 2) (q % 2 * 4503599627370496 + r) (by omega) (by omega)
  rw [show q / 2 * 9007199254740992 + (q % 2 * 4503599627370496 + r) = q * 4503599627370496 + r by omega] at h
  show st (rl _ 11) = _
  rw [h, st_split _ (q % 2) (r * 2048 + q / 2) (by omega) (by omega) (by omega)]
  omega
theorem rl_q13 (q r : Int) (hq : 0 ≤ q ∧ q < 8192) (hr : 0 ≤ r ∧ r < 2251799813685248) : rl (q * 2251799813685248 + r) 13 = r * 8192 + q := by
  have h := rl_q12 (q / 2) (q % 2 * 2251799813685248 + r) (by omega) (by omega)
  rw [show q / 2 * 4503599627370496 + (q % 2 * 2251799813685248 + r) = q * 2251799813685248 + r by omega] at h
  show st (rl _ 12) = _
  rw [h, st_split _ (q % 2) (r * 4096 + q / 2) (by omega) (by omega) (by omega)]
  omega
theorem rl_q14 (q r : Int) (hq : 0 ≤ q ∧ q < 16384) (hr : 0 ≤ r ∧ r < 1125899906842624) : rl (q * 1125899906842624 + r) 14 = r * 16384 + q := by
  have h := rl_q13 (q / 2) (q % 2 * 1125899906842624 + r) (by omega) (by omega)
  rw [show q / 2 * 2251799813685248 + (q % 2 * 1125899906842624 + r) = q * 1125899906842624 + r by omega] at h
  show st (rl _ 13) = _
  rw [h, st_split _ (q % 2) (r * 8192 + q / 2) (by omega) (by omega) (by omega)]
  omega
theorem rl_q15 (q r : Int) (hq : 0 ≤ q ∧ q < 32768) (hr : 0 ≤ r ∧ r < 562949953421312) : rl (q * 562949953421312 + r) 15 = r * 32768 + q := by
  have h := rl_q14 (q / 2) (q % 2 * 562949953421312 + r) (by omega) (by omega)
  rw [show q / 2 * 1125899906842624 + (q % 2 * 562949953421312 + r) = q * 562949953421312 + r by omega] at h
  show st (rl _ 14) = _
  rw [h, st_split _ (q % 2) (r * 16384 + q / 2) (by omega) (by omega) (by omega)]
  omega
theorem rl_q16 (q r : Int) (hq : 0 ≤ q ∧ q < 65536) (hr : 0 ≤ r ∧ r < 281474976710656) : rl (q * 281474976710656 + r) 16 = r * 65536 + q := by
  have h := rl_q15 (q / 2) (q % 2 * 281474976710656 + r) (by omega) (by omega)
  rw [show q / 2 * 562949953421312 + (q % 2 * 281474976710656 + r) = q * 281474976710656 + r by omega] at h
  show st (rl _ 15) = _
  rw [h, st_split _ (q % 2) (r * 32768 + q / 2) (by omega) (by omega) (by omega)]
  omega
theorem rl_q17 (q r : Int) (hq : 0 ≤ q ∧ q < 131072) (hr : 0 ≤ r ∧ r < 140737488355328) : rl (q * 140737488355328 + r) 17 = r * 131072 + q := by
  have h := rl_q16 (q / 2) (q % 2 * 140737488355328 + r) (by omega) (by omega)
  rw [show q / 2 * 281474976710656 + (q % 2 * 140737488355328 + r) = q * 140737488355328 + r by omega] at h
  show st (rl _ 16) = _
  rw [h, st_split _ (q % 2) (r * 65536 + q / 2) (by omega) (by omega) (by omega)]
  omega
theorem rl_q18 (q r : Int) (hq : 0 ≤ q ∧ q < 262144) (hr : 0 ≤ r ∧ r < 70368744177664) : rl (q * 70368744177664 + r) 18 = r * 262144 + q := by
  have h := rl_q17 (q / 2) (q % 2 * 70368744177664 + r) (by omega) (by omega)
  rw [show q / 2 * 140737488355328 + (q % 2 * 70368744177664 + r) = q * 70368744177664 + r by omega] at h
  show st (rl _ 17) = _
  rw [h, st_split _ (q % 2) (r * 131072 + q / 2) (by omega) (by omega) (by omega)]
  omega
theorem rl_q19 (q r : Int) (hq : 0 ≤ q ∧ q < 524288) (hr : 0 ≤ r ∧ r < 35184372088832) : rl (q * 35184372088832 + r) 19 = r * 524288 + q := by
  have h := rl_q18 (q / 2) (q % 2 * 35184372088832 + r) (by omega) (by omega)
  rw [show q / 2 * 70368744177664 + (q % 2 * 35184372088832 + r) = q * 35184372088832 + r by omega] at h
  show st (rl _ 18) = _
  rw [h, st_split _ (q % 2) (r * 262144 + q / 2) (by omega) (by omega) (by omega)]
  omega
theorem rl_q20 (q r : Int) (hq : 0 ≤ q ∧ q < 1048576) (hr : 0 ≤ r ∧ r < 17592186044416) : rl (q * 17592186044416 + r) 20 = r * 1048576 + q := by
  have h := rl_q19 (q / 2) (q % 2 * 17592186044416 + r) (by omega) (by omega)
  rw [show q / 2 * 35184372088832 + (q % 2 * 17592186044416 + r) = q * 17592186044416 + r by omega] at h
  show st (rl _ 19) = _
  rw [h, st_split _ (q % 2) (r * 524288 + q / 2) (by omega) (by omega) (by omega)]
  omega
theorem rl_q21 (q r : Int) (hq : 0 ≤ q ∧ q < 2097152) (hr : 0 ≤ r ∧ r < 8796093022208) : rl (q * 8796093022208 + r) 21 = r * 2097152 + q := by
  have h := rl_q20 (q / 2) (q % 2 * 8796093022208 + r) (by omega) (by omega)
  rw [show q / 2 * 17592186044416 + (q % 2 * 8796093022208 + r) = q * 8796093022208 + r by omega] at h
  show st (rl _ 20) = _
  rw [h, st_split _ (q % 2) (r * 1048576 + q / 2) (by omega) (by omega) (by omega)]
  omega
theorem rl_q22 (q r : Int) (hq : 0 ≤ q ∧ q < 4194304) (hr : 0 ≤ r ∧ r < 4398046511104) : rl (q * 4398046511104 + r) 22 = r * 4194304 + q := by
  have h := rl_q21 (q / 2) (q % 2 * 4398046511104 + r) (by omega) (by omega)
  rw [show q / 2 * 8796093022208 + (q % 2 * 4398046511104 + r) = q * 4398046511104 + r by omega] at h
  show st (rl _ 21) = _
  rw [h, st_split _ (q % 2) (r * 2097152 + q / 2) (by omega) (by omega) (by omega)]
  omega
theorem rl_q23 (q r : Int) (hq : 0 ≤ q ∧ q < 8388608) (hr : 0 ≤ r ∧ r < 2199023255552) : rl (q * 2199023255552 + r) 23 = r * 8388608 + q := by
  have h := rl_q22 (q / 2) (q % 2 * 2199023255552 + r) (by omega) (by omega)
  rw [show q / 2 * 4398046511104 + (q % 2 * 2199023255552 + r) = q * 2199023255552 + r by omega] at h
  show st (rl _ 22) = _
  rw [h, st_split _ (q % 2) (r * 4194304 + q / 2) (by omega) (by omega) (by omega)]
  omega
theorem rl_q24 (q r : Int) (hq : 0 ≤ q ∧ q < 16777216) (hr : 0 ≤ r ∧ r < 1099511627776) : rl (q * 1099511627776 + r) 24 = r * 16777216 + q := by
  have h := rl_q23 (q / 2) (q % 2 * 1099511627776 + r) (by omega) (by omega)
  rw [show q / 2 * 2199023255552 + (q % 2 * 1099511627776 + r) = q * 1099511627776 + r by omega] at h
  show st (rl _ 23) = _
  rw [h, st_split _ (q % 2) (r * 8388608 + q / 2) (by omega) (by omega) (by omega)]
  omega
theorem rl_q25 (q r : Int) (hq : 0 ≤ q ∧ q < 33554432) (hr : 0 ≤ r ∧ r < 549755813888) : rl (q * 549755813888 + r) 25 = r * 33554432 + q := by
  have h := rl_q24 (q / 2) (q % 2 * 549755813888 + r) (by omega) (by omega)
  rw [show q / 2 * 1099511627776 + (q % 2 * 549755813888 + r) = q * 549755813888 + r by omega] at h
  show st (rl _ 24) = _
  rw [h, st_split _ (q % 2) (r * 16777216 + q / 2) (by omega) (by omega) (by omega)]
  omega
theorem rl_q26 (q r : Int) (hq : 0 ≤ q ∧ q < 67108864) (hr : 0 ≤ r ∧ r < 274877906944) : rl (q * 274877906944 + r) 26 = r * 67108864 + q := by
  have h := rl_q25 (q / 2) (q % 2 * 274877906944 + r) (by omega) (by omega)
  rw [show q / 2 * 549755813888 + (q % 2 * 274877906944 + r) = q * 274877906944 + r by omega] at h
  show st (rl _ 25) = _
  rw [h, st_split _ (q % 2) (r * 33554432 + q / 2) (by omega) (by omega) (by omega)]
  omega
theorem rl_q27 (q r : Int) (hq : 0 ≤ q ∧ q < 134217728) (hr : 0 ≤ r ∧ r < 137438953472) : rl (q * 137438953472 + r) 27 = r * 134217728 + q := by
  have h := rl_q26 (q / 2) (q % 2 * 137438953472 + r) (by omega) (by omega)
  rw [show q / 2 * 274877906944 + (q % 2 * 137438953472 + r) = q * 137438953472 + r by omega] at h
  show st (rl _ 26) = _
  rw [h, st_split _ (q % 2) (r * 67108864 + q / 2) (by omega) (by omega) (by omega)]
  omega
theorem rl_q28 (q r : Int) (hq : 0 ≤ q ∧ q < 268435456) (hr : 0 ≤ r ∧ r < 68719476736) : rl (q * 68719476736 + r) 28 = r * 268435456 + q := by
  have h := rl_q27 (q / 2) (q % 2 * 68719476736 + r) (by omega) (by omega)
  rw [show q / 2 * 137438953472 + (q % 2 * 68719476736 + r) = q * 68719476736 + r by omega] at h
  show st (rl _ 27) = _
  rw [h, st_split _ (q % 2) (r * 134217728 + q / 2) (by omega) (by omega) (by omega)]
  omega
theorem rl_q29 (q r : Int) (hq : 0 ≤ q ∧ q < 536870912) (hr : 0 ≤ r ∧ r < 34359738368) : rl (q * 34359738368 + r) 29 = r * 536870912 + q := by
  have h := rl_q28 (q / 2) (q % 2 * 34359738368 + r) (by omega) (by omega)
  rw [show q / 2 * 68719476736 + (q % 2 * 34359738368 + r) = q * 34359738368 + r by omega] at h
  show st (rl _ 28) = _
  rw [h, st_split _ (q % 2) (r * 268435456 + q / 2) (by omega) (by omega) (by omega)]
  omega
theorem rl_q30 (q r : Int) (hq : 0 ≤ q ∧ q < 1073741824) (hr : 0 ≤ r ∧ r < 17179869184) : rl (q * 17179869184 + r) 30 = r * 1073741824 + q := by
  have h := rl_q29 (q / 2) (q % 2 * 17179869184 + r) (by omega) (by omega)
  rw [show q / 2 * 34359738368 + (q % 2 * 17179869184 + r) = q * 17179869184 + r by omega] at h
  show st (rl _ 29) = _
  rw [h, st_split _ (q % 2) (r * 536870912 + q / 2) (by omega) (by omega) (by omega)]
  omega
theorem rl_q31 (q r : Int) (hq : 0 ≤ q ∧ q < 2147483648) (hr : 0 ≤ r ∧ r < 8589934592) : rl (q * 8589934592 + r) 31 = r * 2147483648 + q := by
  have h := rl_q30 (q / 2) (q % 2 * 8589934592 + r) (by omega) (by omega)
  rw [show q / 2 * 17179869184 + (q % 2 * 8589934592 + r) = q * 8589934592 + r by omega] at h
  show st (rl _ 30) = _
  rw [h, st_split _ (q % 2) (r * 1073741824 + q / 2) (by omega) (by omega) (by omega)]
  omega
theorem rl_q32 (q r : Int) (hq : 0 ≤ q ∧ q < 4294967296) (hr : 0 ≤ r ∧ r < 4294967296) : rl (q * 4294967296 + r) 32 = r * 4294967296 + q := by
  have h := rl_q31 (q / 2) (q % 2 * 4294967296 + r) (by omega) (by omega)
  rw [show q / 2 * 8589934592 + (q % 2 * 4294967296 + r) = q * 4294967296 + r by omega] at h
  show st (rl _ 31) = _
  rw [h, st_split _ (q % 2) (r * 2147483648 + q / 2) (by omega) (by omega) (by omega)]
  omega
theorem rl_c13 (n : Int) (h : U n) : rl n 13 = n * 8192 % 18446744073709551616 + n / 2251799813685248 := by
  unfold U at h
  obtain ⟨q, r, hq, hr, rfl⟩ : ∃ q r : Int, (0 ≤ q ∧ q < 8192) ∧ (0 ≤ r ∧ r < 2251799813685248) ∧ n = q * 2251799813685248 + r := ⟨n / 2251799813685248, n % 2251799813685248, by omega, by omega, by omega⟩
  rw [rl_q13 q r hq hr]
  have e1 : (q * 2251799813685248 + r) * 8192 % 18446744073709551616 = r * 8192 := by omega
  have e2 : (q * 2251799813685248 + r) / 2251799813685248 = q := by omega
  rw [e1, e2]
theorem rl_c16 (n : Int) (h : U n) : rl n 16 = n * 65536 % 18446744073709551616 + n / 281474976710656 := by
  unfold U at h
  obtain ⟨q, r, hq, hr, rfl⟩ : ∃ q r : Int, (0 ≤ q ∧ q < 65536) ∧ (0 ≤ r ∧ r < 281474976710656) ∧ n = q * 281474976710656 + r := ⟨n / 281474976710656, n % 281474976710656, by omega, by omega, by omega⟩
  rw [rl_q16 q r hq hr]
  have e1 : (q * 281474976710656 + r) * 65536 % 18446744073709551616 = r * 65536 := by omega
  have e2 : (q * 281474976710656 + r) / 281474976710656 = q := by omega
  rw [e1, e2]
theorem rl_c17 (n : Int) (h : U n) : rl n 17 = n * 131072 % 18446744073709551616 + n / 140737488355328 := by
  unfold U at h
  obtain ⟨q, r, hq, hr, rfl⟩ : ∃ q r : Int, (0 ≤ q ∧ q < 131072) ∧ (0 ≤ r ∧ r < 140737488355328) ∧ n = q * 140737488355328 + r := ⟨n / 140737488355328, n % 140737488355328, by omega, by omega, by omega⟩
  rw [rl_q17 q r hq hr]
  have e1 : (q * 140737488355328 + r) * 131072 % 18446744073709551616 = r * 131072 := by omega
  have e2 : (q * 140737488355328 + r) / 140737488355328 = q := by omega
  rw [e1, e2]
theorem rl_c21 (n : Int) (h : U n) : rl n 21 = n * 2097152 % 18446744073709551616 + n / 8796093022208 := by
  unfold U at h
  obtain ⟨q, r, hq, hr, rfl⟩ : ∃ q r : Int, (0 ≤ q ∧ q < 2097152) ∧ (0 ≤ r ∧ r < 8796093022208) ∧ n = q * 8796093022208 + r := ⟨n / 8796093022208, n % 8796093022208, by omega, by omega, by omega⟩
  rw [rl_q21 q r hq hr]
  have e1 : (q * 8796093022208 + r) * 2097152 % 18446744073709551616 = r * 2097152 := by omega
  have e2 : (q * 8796093022208 + r) / 8796093022208 = q := by omega
  rw [e1, e2]
theorem rl_c32 (n : Int) (h : U n) : rl n 32 = n * 4294967296 % 18446744073709551616 + n / 4294967296 := by
  unfold U at h
  obtain ⟨q, r, hq, hr, rfl⟩ : ∃ q r : Int, (0 ≤ q ∧ q < 4294967296) ∧ (0 ≤ r ∧ r < 4294967296) ∧ n = q * 4294967296 + r := ⟨n / 4294967296, n % 4294967296, by omega, by omega, by omega⟩
  rw [rl_q32 q r hq hr]
  have e1 : (q * 4294967296 + r) * 4294967296 % 18446744073709551616 = r * 4294967296 := by omega
  have e2 : (q * 4294967296 + r) / 4294967296 = q := by omega
  rw [e1, e2]

theorem rl_zero (n : Int) : rl n 0 = n := rfl
theorem rl_succ (n : Int) (k : Nat) : rl n (k + 1) = st (rl n k) := rfl
attribute [irreducible] rl

theorem pow_cast : ∀ k : Nat, ((256 ^ k : Nat) : Int) = (256 : Int) ^ k
  | 0 => rfl
  | k + 1 => by rw [Nat.pow_succ, Int.pow_succ, Int.natCast_mul, pow_cast k]; rfl
theorem pow_le {k m : Nat} (h : k ≤ m) : (256 : Int) ^ k ≤ 256 ^ m := by
  rw [← pow_cast, ← pow_cast]
  exact Int.ofNat_le.2 (Nat.pow_le_pow_right (by decide) h)
theorem pow_pos (k : Nat) : (0 : Int) < 256 ^ k := by
  rw [← pow_cast]
  exact Int.ofNat_lt.2 (Nat.pow_pos (by decide))

/-- The four numbers. -/
structure V4 where
  a : Int
  b : Int
  c : Int
  d : Int

def V4.Ok (v : V4) : Prop := U v.a ∧ U v.b ∧ U v.c ∧ U v.d

/-- A round. -/
def rnd (v : V4) : V4 :=
  let a1 := ad v.a v.b
  let b1 := xr (rl v.b 13) a1
  let a2 := rl a1 32
  let c1 := ad v.c v.d
  let d1 := xr (rl v.d 16) c1
  let a3 := ad a2 d1
  let d2 := xr (rl d1 21) a3
  let c2 := ad c1 b1
  let b2 := xr (rl b1 17) c2
  let c3 := rl c2 32
  ⟨a3, b2, c3, d2⟩

theorem rnd_ok {v : V4} : (rnd v).Ok := ⟨ad_u _ _, xr_u _ _, rl_u (ad_u _ _) _, xr_u _ _⟩

/-- Some rounds. -/
def rnds : Nat → V4 → V4
  | 0, v => v
  | k + 1, v => rnd (rnds k v)
theorem rnds_ok {v : V4} (h : v.Ok) : ∀ k, (rnds k v).Ok
  | 0 => h
  | _ + 1 => rnd_ok

/-- A number is taken in. -/
def tak (v : V4) (m : Int) : V4 :=
  let r := rnds 2 ⟨v.a, v.b, v.c, xr v.d m⟩
  ⟨xr r.a m, r.b, r.c, r.d⟩
theorem tak_ok {v : V4} (m : Int) : (tak v m).Ok := ⟨xr_u _ _, rnd_ok.2.1, rnd_ok.2.2.1, rnd_ok.2.2.2⟩

/-- The end. -/
def fin (v : V4) : Int :=
  let r := rnds 4 ⟨v.a, v.b, xr v.c 255, v.d⟩
  xr (xr (xr r.a r.b) r.c) r.d

/-- What bytes say, the lowest first. -/
def num : List Int → Int
  | [] => 0
  | b :: r => b + 256 * num r

theorem num_bd : ∀ (l : List Int), Byt l → 0 ≤ num l ∧ num l < 256 ^ l.length
  | [], _ => by simp [num]
  | b :: r, h => by
    have h1 := h b (by simp)
    have h2 := num_bd r (fun x hx => h x (by simp [hx]))
    simp only [num, List.length_cons, Int.pow_succ]
    omega
theorem num_snoc : ∀ (l : List Int) (b : Int), num (l ++ [b]) = num l + b * 256 ^ l.length
  | [], b => by simp [num]
  | c :: r, b => by
    have := num_snoc r b
    simp only [List.cons_append, num, this, List.length_cons, Int.pow_succ]
    rw [Int.mul_add, ← Int.mul_assoc 256 b, Int.mul_comm 256 b, Int.mul_assoc b, Int.mul_comm 256 (256 ^ r.length), Int.add_assoc]
theorem num_u (l : List Int) (h : Byt l) (hl : l.length ≤ 8) : U (num l) := by
  have h1 := num_bd l h
  have h2 : (256 : Int) ^ l.length ≤ 256 ^ 8 := pow_le hl
  have h3 : (256 : Int) ^ 8 = 18446744073709551616 := by decide
  unfold U; omega
theorem num_56 (l : List Int) (h : Byt l) (hl : l.length ≤ 7) : 0 ≤ num l ∧ num l < 72057594037927936 := by
  have h1 := num_bd l h
  have h2 : (256 : Int) ^ l.length ≤ 256 ^ 7 := pow_le hl
  have h3 : (256 : Int) ^ 7 = 72057594037927936 := by decide
  omega

/-- The last number. -/
def lst (l : List Int) (n : Nat) : Int := num l + (n : Int) % 256 * 72057594037927936
theorem lst_u (l : List Int) (h : Byt l) (hl : l.length ≤ 7) (n : Nat) : U (lst l n) := by
  have := num_56 l h hl
  unfold U lst; omega

/-- All bytes are taken in: n is how many there are in all. -/
def ins (n : Nat) (v : V4) (l : List Int) : V4 :=
  if 8 ≤ l.length then ins n (tak v (num (l.take 8))) (l.drop 8) else tak v (lst l n)
termination_by l.length
decreasing_by simp; omega

theorem ins_more {n : Nat} {v : V4} {l : List Int} (h : 8 ≤ l.length) : ins n v l = ins n (tak v (num (l.take 8))) (l.drop 8) := by
  rw [ins, if_pos h]
theorem ins_last {n : Nat} {v : V4} {l : List Int} (h : ¬ 8 ≤ l.length) : ins n v l = tak v (lst l n) := by
  rw [ins, if_neg h]

/-- What a hash begins with. -/
def beg (k : List Int) : V4 :=
  ⟨xr 8317987319222330741 (num (k.take 8)), xr 7237128888997146477 (num (k.drop 8)), xr 7816392313619706465 (num (k.take 8)), xr 8387220255154660723 (num (k.drop 8))⟩
theorem beg_ok (k : List Int) : (beg k).Ok := ⟨xr_u _ _, xr_u _ _, xr_u _ _, xr_u _ _⟩

/-- The hash. -/
def hsh (k l : List Int) : Int := fin (ins l.length (beg k) l)
theorem fin_u (v : V4) : U (fin v) := xr_u _ _
theorem hsh_u (k l : List Int) : U (hsh k l) := xr_u _ _

/-- All bits turned. -/
def trn (k : List Int) : List Int := k.map (255 - ·)
theorem trn_len (k : List Int) : (trn k).length = k.length := by simp [trn]
theorem trn_byt {k : List Int} (h : Byt k) : Byt (trn k) := by
  intro x hx
  simp only [trn, List.mem_map] at hx
  obtain ⟨y, hy, rfl⟩ := hx
  have := h y hy
  omega
theorem trn_trn (k : List Int) : trn (trn k) = k := by
  simp only [trn, List.map_map]
  conv => rhs; rw [← List.map_id k]
  apply List.map_congr_left
  intro x _
  show 255 - (255 - x) = x
  omega

/-- A number's bytes, the lowest first. -/
def byts (n : Int) : Nat → List Int
  | 0 => []
  | k + 1 => byts n k ++ [n / 256 ^ k % 256]
theorem byts_len (n : Int) : ∀ k, (byts n k).length = k
  | 0 => rfl
  | k + 1 => by simp [byts, byts_len n k]
theorem byts_byt (n : Int) : ∀ k, Byt (byts n k)
  | 0 => Byt.nil
  | k + 1 => (byts_byt n k).append (Byt.cons (by omega) Byt.nil)
theorem num_byts (n : Int) (hn : 0 ≤ n) : ∀ k, num (byts n k) = n % 256 ^ k
  | 0 => by simp [byts, num]
  | k + 1 => by
    have h := num_byts n hn k
    obtain ⟨m, rfl⟩ := Int.eq_ofNat_of_zero_le hn
    rw [byts, num_snoc, h, byts_len, ← pow_cast, ← pow_cast]
    have := Nat.mod_mul (x := m) (a := 256 ^ k) (b := 256)
    rw [Nat.pow_succ, ← Int.natCast_ediv, show (256 : Int) = ((256 : Nat) : Int) from rfl, ← Int.natCast_emod, ← Int.natCast_emod, ← Int.natCast_emod, ← Int.natCast_mul, ← Int.natCast_add, this, Nat.mul_comm (256 ^ k)]

end Go.Proofs.Ytondjponengedaa