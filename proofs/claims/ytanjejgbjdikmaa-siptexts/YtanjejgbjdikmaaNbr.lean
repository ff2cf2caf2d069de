/-
  What sip.Number and the reference's Number do: a number's bytes, the lowest first, and eight bytes 0.
-/
import Derived.Test.YtanjejgbjdikmaaTrn
namespace Go.Proofs.Ytanjejgbjdikmaa
open Go.RowKit

/-- A number's key. -/
def nk (n : Int) : List Int := byts n 8 ++ [0, 0, 0, 0, 0, 0, 0, 0]
theorem nk_key (n : Int) : Key (nk n) := ⟨by simp [nk, byts_len], (byts_byt n 8).append (fun x hx => by simp at hx; omega)⟩
/-- Its first j bytes, bytes 0 behind. -/
def nkTo (n : Int) (j : Nat) : List Int := byts n j ++ List.replicate (16 - j) 0
theorem nkTo_len (n : Int) (j : Nat) (hj : j ≤ 16) : (nkTo n j).length = 16 := by simp [nkTo, byts_len]; omega
theorem nkTo_zero (n : Int) : nkTo n 0 = List.replicate 16 0 := rfl
theorem nkTo_all (n : Int) : nkTo n 8 = nk n := rfl
theorem nkTo_set (n : Int) (j : Nat) (hj : j < 16) : (nkTo n j).set j (n / 256 ^ j % 256) = nkTo n (j + 1) := by
  have e : 16 - j = (16 - (j + 1)) + 1 := by omega
  simp only [nkTo, byts]
  rw [List.set_append_right _ _ (by rw [byts_len]; omega), byts_len, Nat.sub_self, e, List.replicate_succ, List.set_cons_zero, List.append_assoc]
  rfl

/-- What holds ahead of each byte. -/
def NRel (w : World) (n : Int) (gg : Nat) (i : Value) (wr : World) : Prop :=
  ∃ j : Nat, j + gg = 8 ∧ i = .int .i64 j ∧ Below w.heap.size w wr ∧ w.heap.size + 1 < wr.heap.size ∧ Ar wr (w.heap.size + 1) (cel (nkTo n j)) ∧ Ar wr w.heap.size (cel (List.replicate 16 0))


set_option maxHeartbeats 2000000 in
/-- sip.Number. -/
theorem Number_any (n : Int) (w : World) (hn : U n) : Calls Try.prog 14 #[.int .u64 n] w fun e w' => e = .returned (kv (nk n)) ∧ Below w.heap.size w w' := by
  have hst : Hid (NRel w n 8 (.int .i64 0) ((w.alloc (.cells (cel (List.replicate 16 0)).toArray 33)).alloc (.cells (cel (List.replicate 16 0)).toArray 33))) :=
    Lib.hid ⟨0, by omega, rfl, ((Below.refl _ _).alloc (Nat.le_refl _) _).alloc (by simp) _, by simp, by
      have := ar_new (w.alloc (.cells (cel (List.replicate 16 0)).toArray 33)) (List.replicate 16 0) 33
      rwa [World.size_alloc] at this, (ar_new w _ 33).alloc _⟩
  simp only [cel, List.map_cons, List.map_nil, List.replicate] at hst
  have HN := Lib.hid hn
  unfold U at hn
  go_enter Try.func14, Try.ntmps14
  go_wp2
  go_loopg [5] 8 (fun gg i wr => NRel w n gg i wr)
  case atStart => exact hst.out
  case round =>
    clear hst
    obtain ⟨j, hj, rfl, hb, hz, hc, hu⟩ := hrel
    have HB := Lib.hid hb
    have HC := Lib.hid hc
    have HU := Lib.hid hu
    clear hb hc hu
    rcases gk with _ | og
    · have hkl : ¬ (j : Int) < 8 := by omega
      obtain rfl : j = 8 := by omega
      rw [nkTo_all] at HC
      obtain ⟨t, ht⟩ : ∃ t, nk n = t := ⟨_, rfl⟩
      have hkt := nk_key n
      rw [ht] at HC hkt
      have HT := Lib.hid ht
      clear ht
      obtain ⟨t0, t1, t2, t3, t4, t5, t6, t7, t8, t9, t10, t11, t12, t13, t14, t15, rfl⟩ := hkt.letters
      have c0 := (ar_byte HC.out 0 (by simp)).1
      have c1 := (ar_byte HC.out 1 (by simp)).1
      have c2 := (ar_byte HC.out 2 (by simp)).1
      have c3 := (ar_byte HC.out 3 (by simp)).1
      have c4 := (ar_byte HC.out 4 (by simp)).1
      have c5 := (ar_byte HC.out 5 (by simp)).1
      have c6 := (ar_byte HC.out 6 (by simp)).1
      have c7 := (ar_byte HC.out 7 (by simp)).1
      have c8 := (ar_byte HC.out 8 (by simp)).1
      have c9 := (ar_byte HC.out 9 (by simp)).1
      have c10 := (ar_byte HC.out 10 (by simp)).1
      have c11 := (ar_byte HC.out 11 (by simp)).1
      have c12 := (ar_byte HC.out 12 (by simp)).1
      have c13 := (ar_byte HC.out 13 (by simp)).1
      have c14 := (ar_byte HC.out 14 (by simp)).1
      have c15 := (ar_byte HC.out 15 (by simp)).1
      simp only [List.getElem?_cons_zero, List.getElem?_cons_succ, Option.getD_some] at c0 c1 c2 c3 c4 c5 c6 c7 c8 c9 c10 c11 c12 c13 c14 c15
      obtain ⟨d0, f0⟩ := ar_byte HU.out 0 (by simp)
      obtain ⟨d1, f1⟩ := ar_byte HU.out 1 (by simp)
      obtain ⟨d2, f2⟩ := ar_byte HU.out 2 (by simp)
      obtain ⟨d3, f3⟩ := ar_byte HU.out 3 (by simp)
      obtain ⟨d4, f4⟩ := ar_byte HU.out 4 (by simp)
      obtain ⟨d5, f5⟩ := ar_byte HU.out 5 (by simp)
      obtain ⟨d6, f6⟩ := ar_byte HU.out 6 (by simp)
      obtain ⟨d7, f7⟩ := ar_byte HU.out 7 (by simp)
      obtain ⟨d8, f8⟩ := ar_byte HU.out 8 (by simp)
      obtain ⟨d9, f9⟩ := ar_byte HU.out 9 (by simp)
      obtain ⟨d10, f10⟩ := ar_byte HU.out 10 (by simp)
      obtain ⟨d11, f11⟩ := ar_byte HU.out 11 (by simp)
      obtain ⟨d12, f12⟩ := ar_byte HU.out 12 (by simp)
      obtain ⟨d13, f13⟩ := ar_byte HU.out 13 (by simp)
      obtain ⟨d14, f14⟩ := ar_byte HU.out 14 (by simp)
      obtain ⟨d15, f15⟩ := ar_byte HU.out 15 (by simp)
      go_wp2
      try rw [Exit.noGoto_ret]
      rw [HT.out, kv_lit]
      exact bodyPost_ret (v := .agg #[.int .u8 t0, .int .u8 t1, .int .u8 t2, .int .u8 t3, .int .u8 t4, .int .u8 t5, .int .u8 t6, .int .u8 t7, .int .u8 t8, .int .u8 t9, .int .u8 t10, .int .u8 t11, .int .u8 t12, .int .u8 t13, .int .u8 t14, .int .u8 t15]) (by simp [results, Try.results14, go_sem, d0, d1, d2, d3, d4, d5, d6, d7, d8, d9, d10, d11, d12, d13, d14, d15]) rfl ⟨rfl, below_put16 HB.out (Nat.le_refl _) [t0, t1, t2, t3, t4, t5, t6, t7, t8, t9, t10, t11, t12, t13, t14, t15]⟩
    · have hkl : (j : Int) < 8 := by omega
      obtain ⟨c0, f0⟩ := ar_byte HC.out j (by rw [nkTo_len n j (by omega)]; omega)
      have HS := Lib.hid (ar_set HC.out j (by rw [nkTo_len n j (by omega)]; omega) (n / 256 ^ j % 256))
      rw [nkTo_set n j (by omega)] at HS
      have hp : (2 : Int) ^ (8 * j) = 256 ^ j := by rw [Int.pow_mul]; rfl
      go_wp2
      go_roundg og
      case measure => omega
      case rel =>
        exact ⟨j + 1, by omega, by simp, HB.out.setCell (Nat.le_succ _) _, by simpa using hz, HS.out, HU.out.other (by simp) _⟩

set_option maxHeartbeats 2000000 in
/-- outriderref07.Number. -/
theorem rNumber_any (n : Int) (w : World) (hn : U n) : Calls Try.prog 15 #[.int .u64 n] w fun e w' => e = .returned (kv (nk n)) ∧ Below w.heap.size w w' := by
  have hst : Hid (NRel w n 8 (.int .i64 0) ((w.alloc (.cells (cel (List.replicate 16 0)).toArray 22)).alloc (.cells (cel (List.replicate 16 0)).toArray 22))) :=
    Lib.hid ⟨0, by omega, rfl, ((Below.refl _ _).alloc (Nat.le_refl _) _).alloc (by simp) _, by simp, by
      have := ar_new (w.alloc (.cells (cel (List.replicate 16 0)).toArray 22)) (List.replicate 16 0) 22
      rwa [World.size_alloc] at this, (ar_new w _ 22).alloc _⟩
  simp only [cel, List.map_cons, List.map_nil, List.replicate] at hst
  have HN := Lib.hid hn
  unfold U at hn
  go_enter Try.func15, Try.ntmps15
  go_wp2
  go_loopg [0, 4] 8 (fun gg v i wr => v = .int .u64 (n / 256 ^ (8 - gg)) ∧ NRel w n gg i wr)
  case atStart => exact ⟨by simp, hst.out⟩
  case round =>
    clear hst
    obtain ⟨rfl, j, hj, rfl, hb, hz, hc, hu⟩ := hrel
    have HB := Lib.hid hb
    have HC := Lib.hid hc
    have HU := Lib.hid hu
    clear hb hc hu
    rcases gk with _ | og
    · have hkl : ¬ (j : Int) < 8 := by omega
      obtain rfl : j = 8 := by omega
      rw [nkTo_all] at HC
      obtain ⟨t, ht⟩ : ∃ t, nk n = t := ⟨_, rfl⟩
      have hkt := nk_key n
      rw [ht] at HC hkt
      have HT := Lib.hid ht
      clear ht
      obtain ⟨t0, t1, t2, t3, t4, t5, t6, t7, t8, t9, t10, t11, t12, t13, t14, t15, rfl⟩ := hkt.letters
      have c0 := (ar_byte HC.out 0 (by simp)).1
      have c1 := (ar_byte HC.out 1 (by simp)).1
      have c2 := (ar_byte HC.out 2 (by simp)).1
      have c3 := (ar_byte HC.out 3 (by simp)).1
      have c4 := (ar_byte HC.out 4 (by simp)).1
      have c5 := (ar_byte HC.out 5 (by simp)).1
      have c6 := (ar_byte HC.out 6 (by simp)).1
      have c7 := (ar_byte HC.out 7 (by simp)).1
      have c8 := (ar_byte HC.out 8 (by simp)).1
      have c9 := (ar_byte HC.out 9 (by simp)).1
      have c10 := (ar_byte HC.out 10 (by simp)).1
      have c11 := (ar_byte HC.out 11 (by simp)).1
      have c12 := (ar_byte HC.out 12 (by simp)).1
      have c13 := (ar_byte HC.out 13 (by simp)).1
      have c14 := (ar_byte HC.out 14 (by simp)).1
      have c15 := (ar_byte HC.out 15 (by simp)).1
      simp only [List.getElem?_cons_zero, List.getElem?_cons_succ, Option.getD_some] at c0 c1 c2 c3 c4 c5 c6 c7 c8 c9 c10 c11 c12 c13 c14 c15
      obtain ⟨d0, f0⟩ := ar_byte HU.out 0 (by simp)
      obtain ⟨d1, f1⟩ := ar_byte HU.out 1 (by simp)
      obtain ⟨d2, f2⟩ := ar_byte HU.out 2 (by simp)
      obtain ⟨d3, f3⟩ := ar_byte HU.out 3 (by simp)
      obtain ⟨d4, f4⟩ := ar_byte HU.out 4 (by simp)
      obtain ⟨d5, f5⟩ := ar_byte HU.out 5 (by simp)
      obtain ⟨d6, f6⟩ := ar_byte HU.out 6 (by simp)
      obtain ⟨d7, f7⟩ := ar_byte HU.out 7 (by simp)
      obtain ⟨d8, f8⟩ := ar_byte HU.out 8 (by simp)
      obtain ⟨d9, f9⟩ := ar_byte HU.out 9 (by simp)
      obtain ⟨d10, f10⟩ := ar_byte HU.out 10 (by simp)
      obtain ⟨d11, f11⟩ := ar_byte HU.out 11 (by simp)
      obtain ⟨d12, f12⟩ := ar_byte HU.out 12 (by simp)
      obtain ⟨d13, f13⟩ := ar_byte HU.out 13 (by simp)
      obtain ⟨d14, f14⟩ := ar_byte HU.out 14 (by simp)
      obtain ⟨d15, f15⟩ := ar_byte HU.out 15 (by simp)
      go_wp2
      try rw [Exit.noGoto_ret]
      rw [HT.out, kv_lit]
      exact bodyPost_ret (v := .agg #[.int .u8 t0, .int .u8 t1, .int .u8 t2, .int .u8 t3, .int .u8 t4, .int .u8 t5, .int .u8 t6, .int .u8 t7, .int .u8 t8, .int .u8 t9, .int .u8 t10, .int .u8 t11, .int .u8 t12, .int .u8 t13, .int .u8 t14, .int .u8 t15]) (by simp [results, Try.results15, go_sem, d0, d1, d2, d3, d4, d5, d6, d7, d8, d9, d10, d11, d12, d13, d14, d15]) rfl ⟨rfl, below_put16 HB.out (Nat.le_refl _) [t0, t1, t2, t3, t4, t5, t6, t7, t8, t9, t10, t11, t12, t13, t14, t15]⟩
    · have hkl : (j : Int) < 8 := by omega
      obtain ⟨c0, f0⟩ := ar_byte HC.out j (by rw [nkTo_len n j (by omega)]; omega)
      have HS := Lib.hid (ar_set HC.out j (by rw [nkTo_len n j (by omega)]; omega) (n / 256 ^ j % 256))
      rw [nkTo_set n j (by omega)] at HS
      have hp : (2 : Int) ^ (8 * j) = 256 ^ j := by rw [Int.pow_mul]; rfl
      have e8 : 8 - (og + 1) = j := by omega
      rw [e8]
      obtain ⟨m, hm⟩ : ∃ m, n / 256 ^ j = m := ⟨_, rfl⟩
      rw [hm] at HS ⊢
      have HM := Lib.hid hm
      have hm0 : 0 ≤ m := by rw [← hm]; exact Int.ediv_nonneg hn.1 (Int.le_of_lt (pow_pos j))
      clear hm hp
      go_wp2
      go_roundg og
      case measure => omega
      case rel =>
        refine ⟨?_, j + 1, by omega, by simp, HB.out.setCell (Nat.le_succ _) _, by simpa using hz, HS.out, HU.out.other (by simp) _⟩
        have e7 : 8 - og = j + 1 := by omega
        have hm1 : m ≤ n := by rw [← HM.out]; exact Int.ediv_le_self _ hn.1
        rw [e7, Int.pow_succ, ← Int.ediv_ediv_of_nonneg (by exact Int.le_of_lt (pow_pos j)), HM.out, IntKind.wrap_u64, Int.tdiv_eq_ediv_of_nonneg hm0, Int.emod_eq_of_lt (by omega) (by omega)]

end Go.Proofs.Ytanjejgbjdikmaa
