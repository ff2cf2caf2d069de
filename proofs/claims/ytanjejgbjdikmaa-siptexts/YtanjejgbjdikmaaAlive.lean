/-
  What the statements' own alive does.
-/
import Derived.Test.YtanjejgbjdikmaaTxt
import Derived.Test.YtanjejgbjdikmaaNbr
namespace Go.Proofs.Ytanjejgbjdikmaa
open Go.RowKit
set_option maxRecDepth 10000

def k16 : List Int := [0, 1, 2, 3, 4, 5, 6, 7, 8, 9, 10, 11, 12, 13, 14, 15]
theorem k16_key : Key k16 := ⟨rfl, fun x hx => by simp [k16] at hx; omega⟩
theorem hsh_none : hsh k16 [] = 8246050544436514353 := by
  unfold hsh
  rw [ins_last (by simp)]
  kernel_rfl
theorem hsh_zero : hsh k16 [0] = 8428550223375919101 := by
  unfold hsh
  rw [ins_last (by simp)]
  kernel_rfl
theorem nk_258 : nk 258 = [2, 1, 0, 0, 0, 0, 0, 0, 0, 0, 0, 0, 0, 0, 0, 0] := by kernel_rfl

/-- The first j bytes laid. -/
def kTo (j : Nat) : List Int := k16.take j ++ List.replicate (16 - j) 0
theorem kTo_len (j : Nat) (hj : j ≤ 16) : (kTo j).length = 16 := by simp [kTo, k16]; omega
theorem k16_at : ∀ j : Fin 16, k16[j.val]? = some (j.val : Int) := by decide
theorem kTo_set (j : Nat) (hj : j < 16) : (kTo j).set j (j : Int) = kTo (j + 1) := by
  have e : 16 - j = (16 - (j + 1)) + 1 := by omega
  have hl : (k16.take j).length = j := by simp [k16]; omega
  have hx := k16_at ⟨j, hj⟩
  simp only at hx
  simp only [kTo]
  rw [List.set_append_right _ _ (by omega), hl, Nat.sub_self, e, List.replicate_succ, List.set_cons_zero, List.take_add_one, hx, List.append_assoc]
  rfl

/-- What holds ahead of each byte. -/
def ARel (w : World) (gg : Nat) (i : Value) (wr : World) : Prop :=
  ∃ j : Nat, j + gg = 16 ∧ i = .int .i64 j ∧ Below w.heap.size w wr ∧ Ar wr w.heap.size (cel (kTo j))

/-- A key's second byte. -/
@[local go_sem] theorem key_second (k0 k1 k2 k3 k4 k5 k6 k7 k8 k9 k10 k11 k12 k13 k14 k15 : Int) (w : World) : (Instr.index 33 (.agg #[.int .u8 k0, .int .u8 k1, .int .u8 k2, .int .u8 k3, .int .u8 k4, .int .u8 k5, .int .u8 k6, .int .u8 k7, .int .u8 k8, .int .u8 k9, .int .u8 k10, .int .u8 k11, .int .u8 k12, .int .u8 k13, .int .u8 k14, .int .u8 k15]) (.int .i64 1)).run Try.prog w = .ok (.int .u8 k1) w := by
  obtain ⟨i, hi, -, hs, -⟩ := info_parts info5
  simp [Instr.index, run_underlying Try.underlying33, asIntOf, part, isAgg, run_underlying Try.underlying5, sizeOf, typeInfo, hi, hs, go_sem]

set_option maxHeartbeats 2000000 in
/-- outriderlaw07.alive. -/
theorem alive_any (w : World) : Calls Try.prog 8 #[] w fun e w' => e = .returned (.bool true) ∧ Below w.heap.size w w' := by
  have H1 : Hid (∀ w, Calls Try.prog 9 #[.agg #[.int .u8 0, .int .u8 1, .int .u8 2, .int .u8 3, .int .u8 4, .int .u8 5, .int .u8 6, .int .u8 7, .int .u8 8, .int .u8 9, .int .u8 10, .int .u8 11, .int .u8 12, .int .u8 13, .int .u8 14, .int .u8 15], .slice none 0 0] w fun e w' => e = .returned (.int .u64 8246050544436514353) ∧ Below w.heap.size w w') := Lib.hid fun w => by
    have := sum_any k16 none 0 0 [] w k16_key (Part.gone rfl) (by omega)
    rwa [hsh_none] at this
  have H2 : Hid (∀ (A : Option Addr) (w : World), Part w ⟨A, 1, 1, [0]⟩ → Calls Try.prog 9 #[.agg #[.int .u8 0, .int .u8 1, .int .u8 2, .int .u8 3, .int .u8 4, .int .u8 5, .int .u8 6, .int .u8 7, .int .u8 8, .int .u8 9, .int .u8 10, .int .u8 11, .int .u8 12, .int .u8 13, .int .u8 14, .int .u8 15], .slice A 1 1] w fun e w' => e = .returned (.int .u64 8428550223375919101) ∧ Below w.heap.size w w') := Lib.hid fun A w hp => by
    have := sum_any k16 A 1 1 [0] w k16_key hp (by omega)
    rwa [hsh_zero] at this
  have H3 : Hid (∀ w, Calls Try.prog 14 #[.int .u64 258] w fun e w' => e = .returned (.agg #[.int .u8 2, .int .u8 1, .int .u8 0, .int .u8 0, .int .u8 0, .int .u8 0, .int .u8 0, .int .u8 0, .int .u8 0, .int .u8 0, .int .u8 0, .int .u8 0, .int .u8 0, .int .u8 0, .int .u8 0, .int .u8 0]) ∧ Below w.heap.size w w') := Lib.hid fun w => by
    have := Number_any 258 w (by unfold U; omega)
    rwa [nk_258] at this
  have hst : Hid (ARel w 16 (.int .i64 0) (w.alloc (.cells #[.int .u8 0, .int .u8 0, .int .u8 0, .int .u8 0, .int .u8 0, .int .u8 0, .int .u8 0, .int .u8 0, .int .u8 0, .int .u8 0, .int .u8 0, .int .u8 0, .int .u8 0, .int .u8 0, .int .u8 0, .int .u8 0] 33))) := Lib.hid ⟨0, by omega, rfl, (Below.refl _ _).alloc (Nat.le_refl _) _, ar_new w (List.replicate 16 0) 33⟩
  go_enter Try.func8, Try.ntmps8
  go_wp2
  go_loopg [3] 16 (fun gg i wr => ARel w gg i wr)
  case atStart => exact hst.out
  case round =>
    clear hst
    obtain ⟨j, hj, rfl, hb, hc⟩ := hrel
    have HB := Lib.hid hb
    have HC := Lib.hid hc
    clear hb hc
    rcases gk with _ | og
    · have hkl : ¬ (j : Int) < 16 := by omega
      obtain rfl : j = 16 := by omega
      have HC : Hid (Ar wr w.heap.size (cel [0, 1, 2, 3, 4, 5, 6, 7, 8, 9, 10, 11, 12, 13, 14, 15])) := HC
      obtain ⟨c0, c1, c2, c3, c4, c5, c6, c7, c8, c9, c10, c11, c12, c13, c14, c15⟩ := ar16 HC.out
      go_wp2_with fail
      refine (H1.out _).mono ?_
      rintro e w1 ⟨rfl, hb1⟩
      have HC1 := Lib.hid (HC.out.below hb1)
      have HB1 := Lib.hid (below_then HB.out HB.out.size hb1)
      clear hb1 c0 c1 c2 c3 c4 c5 c6 c7 c8 c9 c10 c11 c12 c13 c14 c15
      obtain ⟨d0, d1, d2, d3, d4, d5, d6, d7, d8, d9, d10, d11, d12, d13, d14, d15⟩ := ar16 HC1.out
      have HP : Hid (Part (w1.alloc (.cells #[.int .u8 0] 5)) ⟨some ⟨w1.heap.size, 0, none⟩, 1, 1, [0]⟩) := Lib.hid (part_row (heap_top w1 _ 5 0) (fun x hx => by simp at hx; omega) 1 rfl)
      go_wp2_with fail
      refine (H2.out _ _ HP.out).mono ?_
      rintro e w2 ⟨rfl, hb2⟩
      have HB2 := Lib.hid (below_then (HB1.out.alloc HB1.out.size (.cells #[.int .u8 0] 5)) (by have := HB1.out.size; simp; omega) hb2)
      clear hb2
      go_wp2_with fail
      refine (H3.out _).mono ?_
      rintro e w3 ⟨rfl, hb3⟩
      go_wp2
      try rw [Exit.noGoto_ret]
      go_ret
      exact ⟨rfl, below_then HB2.out HB2.out.size hb3⟩
    · have hkl : (j : Int) < 16 := by omega
      obtain ⟨c0, f0⟩ := ar_byte HC.out j (by rw [kTo_len j (by omega)]; omega)
      have HS := Lib.hid (ar_set HC.out j (by rw [kTo_len j (by omega)]; omega) (j : Int))
      rw [kTo_set j (by omega)] at HS
      go_wp2
      go_roundg og
      case measure => omega
      case rel => exact ⟨j + 1, by omega, by simp, HB.out.setCell (Nat.le_refl _) _, HS.out⟩

end Go.Proofs.Ytanjejgbjdikmaa
