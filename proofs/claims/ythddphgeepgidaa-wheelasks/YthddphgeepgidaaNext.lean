/-
  wheel.Next: the least time.
-/
import Derived.Test.YthddphgeepgidaaPlace
namespace Go.Proofs.Ythddphgeepgidaa
open Go.RowKit
set_option linter.unusedVariables false
set_option linter.unusedSimpArgs false
set_option maxRecDepth 10000

def nx : List Tm → Nat
  | [] => 0
  | t :: _ => t.at_
def nb : List Tm → Bool
  | [] => false
  | _ :: _ => true

set_option maxHeartbeats 1000000 in
theorem next_any {w : World} {F : Nat → Prop} {B now : Nat} {L T : List Tm} (h : Wh w F B now L T) (hf : Fit L) (hn : now ≤ 1099511627776) :
    Calls Try.prog 20 #[.pointer (some ⟨B, 0, none⟩)] w fun e w' => e = .returned (.tuple #[.int .i64 (nx L), .bool (nb L)]) ∧ w = w' := by
  obtain ⟨M, sl, h⟩ := h
  have H := Lib.hid h
  have HFit := Lib.hid hf
  obtain ⟨p, hp⟩ : ∃ p, nx L = p := ⟨_, rfl⟩
  obtain ⟨q, hq⟩ : ∃ q, nb L = q := ⟨_, rfl⟩
  have HPQ := Lib.hid (And.intro hp hq)
  rw [hp, hq]
  clear h hf hp hq
  go_enter Try.func20, Try.ntmps20
  go_wp2
  go_loopg [5, 11] 448 (fun gg s5 s11 wr => ∃ k : Nat, k + gg = 448 ∧ s11 = .int .i64 k ∧ Hid (firsts now L k = []) ∧ wr = w)
  case atStart => exact ⟨0, by omega, rfl, Lib.hid (firsts_zero now L), rfl⟩
  case round =>
    obtain ⟨k, hk, rfl, h0, rfl⟩ := hrel
    by_cases hlt : k < 448
    · have hltz : (k : Int) < 448 := by omega
      have c2 := H.out.cells.2.2 k hlt
      have hrow := H.out.row k hlt
      obtain ⟨a, c, e, hnc, hcm⟩ := row_any hrow
      have HSL := Lib.hid e
      rw [e] at c2 hrow
      cases hs : slot now L k with
      | nil =>
        rw [hs] at c2 hrow hnc
        simp only [List.length_nil] at c2
        have HS := Lib.hid hs
        clear hrow e hs
        go_wp2
        go_roundg (448 - (k + 1))
        case measure => omega
        case rel =>
          exact ⟨k + 1, by omega, by go_num, Lib.hid (by rw [firsts_next HFit.out hn, h0.out, HS.out]; rfl), rfl⟩
      | cons t r =>
        rw [hs] at c2 hrow hnc
        obtain ⟨r', hL⟩ := next_head HFit.out hn h0.out hs
        have hp : t.at_ = p := by have := HPQ.out.1; rw [hL] at this; exact this
        have hq : true = q := by have := HPQ.out.2; rw [hL] at this; exact this
        obtain ⟨g, c', e2, _⟩ := row_slice hrow (by simp)
        simp at e2
        obtain ⟨rfl, rfl⟩ := e2
        obtain ⟨d0, d1⟩ := trow_at hrow (i := 0) (by simp)
        simp only [List.getElem!_cons_zero, Nat.zero_mul, Nat.zero_add] at d0 d1
        rw [hp] at d1
        subst hq
        simp only [List.length_cons] at c2
        have hpos : ((r.length + 1 : Nat) : Int) > 0 := by omega
        generalize r.length + 1 = n at c2 hpos
        clear hrow e hs hL hp HPQ hnc
        go_wp2
        try rw [Exit.noGoto_ret]
        go_ret2
        exact ⟨rfl, rfl⟩
    · obtain rfl : k = 448 := by omega
      have hL := h0.out
      rw [firsts_all] at hL
      have hp : 0 = p := by have := HPQ.out.1; rw [hL] at this; exact this
      have hq : false = q := by have := HPQ.out.2; rw [hL] at this; exact this
      subst hp
      subst hq
      clear hL HPQ
      go_wp2
      go_ret2
      exact ⟨rfl, rfl⟩

end Go.Proofs.Ythddphgeepgidaa
