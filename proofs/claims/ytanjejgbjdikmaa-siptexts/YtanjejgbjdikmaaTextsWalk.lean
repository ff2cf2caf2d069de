/-
  What the function of SipTexts does, whatever key, text and number it is given.
-/
import Derived.Test.YtanjejgbjdikmaaNumsWalk
import Derived.Test.YtanjejgbjdikmaaRtwo
namespace Go.Proofs.Ytanjejgbjdikmaa
open Go.RowKit
set_option linter.unusedVariables false
set_option maxRecDepth 10000

set_option maxHeartbeats 4000000 in
theorem texts_long (k : List Int) (s : ByteArray) (n : Int) (w : World) (hk : Key k) (hs : s.size ≤ 140737488351232) (hn : U n) (hl : 20000 < s.size) : Calls Try.prog 4 #[kv k, .string s, .int .u64 n] w fun e w' => e = .returned (.bool true) ∧ Below w.heap.size w w' := by
  obtain ⟨k0, k1, k2, k3, k4, k5, k6, k7, k8, k9, k10, k11, k12, k13, k14, k15, rfl⟩ := hk.letters
  have hli : (20000 : Int) < (s.size : Int) := by omega
  rw [kv_lit]
  clear hk hn
  go_enter Try.func4, Try.ntmps4
  go_wp2_with fail
  refine (alive_any _).mono ?_
  rintro e w1 ⟨rfl, hb1⟩
  go_wp2
  go_ret
  exact ⟨rfl, below_then ((Below.refl _ _).alloc (Nat.le_refl _) _) (by simp) hb1⟩

set_option maxHeartbeats 4000000 in
theorem texts_short (k : List Int) (s : ByteArray) (n : Int) (w : World) (hk : Key k) (hs : s.size ≤ 140737488351232) (hn : U n) (hl : ¬ 20000 < s.size) : Calls Try.prog 4 #[kv k, .string s, .int .u64 n] w fun e w' => e = .returned (.bool true) ∧ Below w.heap.size w w' := by
  have hli : ¬ (20000 : Int) < (s.size : Int) := by omega
  have H1 := Lib.hid (fun w => two_any k s w hk hs)
  have H2 := Lib.hid (fun w => rtwo_any k s w hk hs)
  have H3 := Lib.hid (fun w => text_any k s w hk hs)
  have H4 := Lib.hid (fun w => Number_any n w hn)
  have H5 := Lib.hid (fun w => rNumber_any n w hn)
  have HE := fun w => key_eq (nk n) (nk n) w (nk_key n).1 (nk_key n).1
  simp only [beq_self_eq_true] at HE
  obtain ⟨p0, p1, p2, p3, p4, p5, p6, p7, hp⟩ := list8 (byts n 8) (byts_len n 8)
  have ea : kv (nk n) = .agg #[.int .u8 p0, .int .u8 p1, .int .u8 p2, .int .u8 p3, .int .u8 p4, .int .u8 p5, .int .u8 p6, .int .u8 p7, .int .u8 0, .int .u8 0, .int .u8 0, .int .u8 0, .int .u8 0, .int .u8 0, .int .u8 0, .int .u8 0] := by unfold nk; rw [hp]; rfl
  rw [ea] at HE H4 H5
  obtain ⟨x, hx⟩ : ∃ x, hsh k (bts s) = x := ⟨_, rfl⟩
  obtain ⟨y, hy⟩ : ∃ x, hsh (trn k) (bts s) = x := ⟨_, rfl⟩
  rw [hx, hy] at H1 H2
  rw [hx] at H3
  clear ea hp hx hy hn
  obtain ⟨k0, k1, k2, k3, k4, k5, k6, k7, k8, k9, k10, k11, k12, k13, k14, k15, rfl⟩ := hk.letters
  rw [kv_lit] at H1 H2 H3 ⊢
  have HH : Hid (Ar (w.alloc (.cells #[.int .u8 k0, .int .u8 k1, .int .u8 k2, .int .u8 k3, .int .u8 k4, .int .u8 k5, .int .u8 k6, .int .u8 k7, .int .u8 k8, .int .u8 k9, .int .u8 k10, .int .u8 k11, .int .u8 k12, .int .u8 k13, .int .u8 k14, .int .u8 k15] 22)) w.heap.size (cel [k0, k1, k2, k3, k4, k5, k6, k7, k8, k9, k10, k11, k12, k13, k14, k15])) := Lib.hid (ar_new w [k0, k1, k2, k3, k4, k5, k6, k7, k8, k9, k10, k11, k12, k13, k14, k15] 22)
  clear hk
  go_enter Try.func4, Try.ntmps4
  go_wp2_with fail
  refine (H1.out _).mono ?_
  rintro e w1 ⟨rfl, hb1⟩
  have HA1 := Lib.hid (HH.out.below hb1)
  have HB1 : Hid (Below w.heap.size w w1) := Lib.hid (below_then ((Below.refl _ _).alloc (Nat.le_refl _) _) (by simp) hb1)
  clear hb1
  obtain ⟨c0, c1, c2, c3, c4, c5, c6, c7, c8, c9, c10, c11, c12, c13, c14, c15⟩ := ar16 HA1.out
  go_wp2_with fail
  refine (H2.out _).mono ?_
  rintro e w2 ⟨rfl, hb2⟩
  have HA2 := Lib.hid (HA1.out.below hb2)
  have HB2 := Lib.hid (below_then HB1.out HB1.out.size hb2)
  clear hb2 c0 c1 c2 c3 c4 c5 c6 c7 c8 c9 c10 c11 c12 c13 c14 c15
  go_wp2_with fail
  refine (alive_any _).mono ?_
  rintro e w3 ⟨rfl, hb3⟩
  have HA3 := Lib.hid (HA2.out.below hb3)
  have HB3 := Lib.hid (below_then HB2.out HB2.out.size hb3)
  clear hb3
  obtain ⟨d0, d1, d2, d3, d4, d5, d6, d7, d8, d9, d10, d11, d12, d13, d14, d15⟩ := ar16 HA3.out
  go_wp2_with fail
  refine (H3.out _).mono ?_
  rintro e w4 ⟨rfl, hb4⟩
  have HB4 := Lib.hid (below_then HB3.out HB3.out.size hb4)
  clear hb4 d0 d1 d2 d3 d4 d5 d6 d7 d8 d9 d10 d11 d12 d13 d14 d15
  go_wp2_with fail
  refine (H4.out _).mono ?_
  rintro e w5 ⟨rfl, hb5⟩
  have HB5 := Lib.hid (below_then HB4.out HB4.out.size hb5)
  clear hb5
  go_wp2_with fail
  refine (H5.out _).mono ?_
  rintro e w6 ⟨rfl, hb6⟩
  have HB6 := Lib.hid (below_then HB5.out HB5.out.size hb6)
  clear hb6
  go_wp2
  go_ret
  exact ⟨by simp, HB6.out⟩

theorem texts_walk (k : List Int) (s : ByteArray) (n : Int) (w : World) (hk : Key k) (hs : s.size ≤ 140737488351232) (hn : U n) : Calls Try.prog 4 #[kv k, .string s, .int .u64 n] w fun e w' => e = .returned (.bool true) ∧ Below w.heap.size w w' := by
  by_cases hl : 20000 < s.size
  · exact texts_long k s n w hk hs hn hl
  · exact texts_short k s n w hk hs hn hl

end Go.Proofs.Ytanjejgbjdikmaa
