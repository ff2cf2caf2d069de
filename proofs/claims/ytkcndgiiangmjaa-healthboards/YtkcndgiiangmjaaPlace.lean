/-
  wheel.place, Now, Len, When: what is only read.
-/
import Derived.Test.YtkcndgiiangmjaaWh
namespace Go.Proofs.Ytkcndgiiangmjaa
open Go.RowKit
set_option linter.unusedVariables false
set_option linter.unusedSimpArgs false
set_option maxRecDepth 10000

def PRel (R : Nat) (gg : Nat) (s1 s5 s6 : Value) : Prop :=
  ∃ f a n j : Nat, f = gg ∧ f + j = 6 ∧ s1 = .int .i64 a ∧ s5 = .int .i64 ((64 * j : Nat) : Int) ∧ s6 = .int .i64 n ∧ n ≤ a ∧ a < 64 ^ (f + 1) ∧ 64 * j + plf f a n = R

theorem tdiv64 (a : Nat) : ((a : Int)).tdiv 64 = ((a / 64 : Nat) : Int) := rfl
theorem tmod64 (a : Nat) : ((a : Int)).tmod 64 = ((a % 64 : Nat) : Int) := rfl
theorem pow_small (f : Nat) (h : f ≤ 6) : 64 ^ (f + 1) ≤ 4398046511104 := Nat.le_trans (Nat.pow_le_pow_right (by decide) (show f + 1 ≤ 7 by omega)) (by decide)

set_option maxHeartbeats 1000000 in
theorem place_any {w : World} {F : Nat → Prop} {B now at_ : Nat} {L T : List Tm} (h : Wh w F B now L T) (hn : now ≤ 1099511627776) (ha : at_ ≤ 1099511627776) :
    Calls Try.prog 41 #[.pointer (some ⟨B, 0, none⟩), .int .i64 at_] w fun e w' => e = .returned (.int .i64 (pl now at_)) ∧ ∃ q, w' = w.drewN q := by
  obtain ⟨M, sl, h⟩ := h
  have c0 := h.cells.1
  clear h
  obtain ⟨R, hR⟩ : ∃ R, pl now at_ = R := ⟨_, rfl⟩
  have HR : Hid (plf 6 (max at_ now) now = R) := Lib.hid hR
  rw [hR]
  clear hR
  obtain ⟨m, hm⟩ : ∃ m, m = max at_ now := ⟨_, rfl⟩
  have hmax : (if at_ < now then (now : Int) else (at_ : Int)) = (m : Int) := by rw [hm]; split <;> omega
  rw [← hm] at HR
  have hm1 : now ≤ m := by omega
  have hm2 : m ≤ 1099511627776 := by omega
  clear hm
  go_enter Try.func41, Try.ntmps41
  go_wp2_with fail
  go_region
  clear hmax
  go_wp2
  go_loopg [1, 5, 6] 6 (fun gg s1 s5 s6 wr => Hid (PRel R gg s1 s5 s6) ∧ wr = w.drew)
  case atStart => exact ⟨Lib.hid ⟨6, m, now, 0, rfl, rfl, rfl, rfl, rfl, hm1, by omega, by rw [Nat.mul_zero, Nat.zero_add]; exact HR.out⟩, rfl⟩
  case round =>
    obtain ⟨hrel, rfl⟩ := hrel
    obtain ⟨f, a, n, j, rfl, hfj, rfl, rfl, rfl, hna, haf, hR⟩ := hrel.out
    clear hrel
    have hab := Nat.lt_of_lt_of_le haf (pow_small f (by omega))
    have q1 := tdiv64 a
    have q2 := tdiv64 n
    have q3 := tmod64 a
    by_cases he : a / 64 = n / 64
    · have hR2 : 64 * j + a % 64 = R := by
        rcases f with _ | f
        · simpa [plf] using hR
        · rw [plf, if_pos he] at hR; exact hR
      have HR2 := Lib.hid hR2
      clear hR hR2 haf
      have hne : (((a / 64 : Nat) : Int) != ((n / 64 : Nat) : Int)) = false := by simp [he]
      go_wp2
      go_ret
      exact ⟨ret_int (by have := HR2.out; omega), 1, rfl⟩
    · rcases f with _ | f
      · exfalso; omega
      · rw [plf, if_neg he] at hR
        have HR2 := Lib.hid hR
        have haf2 : a / 64 < 64 ^ (f + 1) := by rw [Nat.pow_succ] at haf; omega
        have HA := Lib.hid haf2
        clear hR haf haf2
        have hne : ¬ ((a : Int) / 64 = (n : Int) / 64) := by omega
        go_wp2
        go_roundg f
        case measure => omega
        case rel =>
          refine ⟨Lib.hid ⟨f, a / 64, n / 64, j + 1, rfl, by omega, by go_num, by go_num, by go_num, by omega, HA.out, by have := HR2.out; omega⟩, rfl⟩

theorem Tms.look {w : World} {M : Nat} {T : List Tm} (h : Tms w M T) {x : Int} (hx : -9223372036854775808 ≤ x ∧ x ≤ 9223372036854775807) :
    (Instr.lookup 82 (.map (some M)) (.int .i64 x) true).run Try.prog w = .ok (.tuple #[.int .i64 (((look T x).getD 0 : Nat) : Int), .bool (look T x).isSome]) w := by
  obtain ⟨D, h1, h2, h3⟩ := h
  obtain ⟨e1, e2⟩ := h3 x (wf_id hx)
  obtain ⟨v, ps, hr, hv⟩ := h1.look_ok keyed3 Try.underlying82 (Try.zeroValue3 w) (plainElem_int Try.underlying3 (wf_id (by omega))) (Maps.keyOf_int_mk Try.underlying3 (wf_id hx))
  rw [e2] at hv
  obtain ⟨a, rfl, h4, h5⟩ := plainElem_int_inv Try.underlying3 hv
  simp at h4
  rw [hr, e1, h4.1]


end Go.Proofs.Ytkcndgiiangmjaa
