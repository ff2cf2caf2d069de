/-
  What the function of SipTurned does, whatever key and text it is given.
-/
import Derived.Test.YtanjejgbjdikmaaFrame
namespace Go.Proofs.Ytanjejgbjdikmaa
open Go.RowKit
set_option linter.unusedVariables false
set_option maxRecDepth 10000

/-- What holds ahead of each byte that is turned. -/
def URel (w : World) (k : List Int) (gg : Nat) (i : Value) (wr : World) : Prop :=
  ∃ j : Nat, j + gg = 16 ∧ i = .int .i64 j ∧ Below w.heap.size w wr ∧ Ar wr (w.heap.size + 1) (cel (trnTo k j)) ∧ Ar wr w.heap.size (cel k)

set_option maxHeartbeats 4000000 in
theorem turned_long (k : List Int) (s : ByteArray) (w : World) (hk : Key k) (hs : s.size ≤ 140737488351232) (hl : 20000 < s.size) : Calls Try.prog 7 #[kv k, .string s] w fun e w' => e = .returned (.bool true) ∧ Below w.heap.size w w' := by
  obtain ⟨k0, k1, k2, k3, k4, k5, k6, k7, k8, k9, k10, k11, k12, k13, k14, k15, rfl⟩ := hk.letters
  have hli : (20000 : Int) < (s.size : Int) := by omega
  rw [kv_lit]
  clear hk
  go_enter Try.func7, Try.ntmps7
  go_wp2_with fail
  refine (alive_any _).mono ?_
  rintro e w1 ⟨rfl, hb1⟩
  go_wp2
  go_ret
  exact ⟨rfl, below_then ((Below.refl _ _).alloc (Nat.le_refl _) _) (by simp) hb1⟩

set_option maxHeartbeats 4000000 in
theorem turned_short (k : List Int) (s : ByteArray) (w : World) (hk : Key k) (hs : s.size ≤ 140737488351232) (hl : ¬ 20000 < s.size) : Calls Try.prog 7 #[kv k, .string s] w fun e w' => e = .returned (.bool true) ∧ Below w.heap.size w w' := by
  have hli : ¬ (20000 : Int) < (s.size : Int) := by omega
  have HK := Lib.hid hk
  have hkt : Key (trn k) := ⟨by rw [trn_len]; exact hk.1, trn_byt hk.2⟩
  have H1 := Lib.hid (fun w => two_any k s w hk hs)
  have H2 := Lib.hid (fun w => two_any (trn k) s w hkt hs)
  rw [trn_trn] at H2
  obtain ⟨x, hx⟩ : ∃ x, hsh k (bts s) = x := ⟨_, rfl⟩
  obtain ⟨y, hy⟩ : ∃ x, hsh (trn k) (bts s) = x := ⟨_, rfl⟩
  rw [hx, hy] at H1 H2
  have hst : Hid (URel w k 16 (.int .i64 0) ((w.alloc (.cells (cel k).toArray 22)).alloc (.cells (cel k).toArray 22))) :=
    Lib.hid ⟨0, by omega, rfl, ((Below.refl _ _).alloc (Nat.le_refl _) _).alloc (by simp) _, by
      rw [trnTo_zero]
      have := ar_new (w.alloc (.cells (cel k).toArray 22)) k 22
      rwa [World.size_alloc] at this, (ar_new w k 22).alloc _⟩
  obtain ⟨t, ht⟩ : ∃ t, trn k = t := ⟨_, rfl⟩
  have HT : Hid (trnTo k 16 = t) := Lib.hid (by rw [trnTo_all k 16 (by rw [hk.1]; omega), ht])
  rw [ht] at hkt H2
  obtain ⟨t0, t1, t2, t3, t4, t5, t6, t7, t8, t9, t10, t11, t12, t13, t14, t15, rfl⟩ := hkt.letters
  obtain ⟨k0, k1, k2, k3, k4, k5, k6, k7, k8, k9, k10, k11, k12, k13, k14, k15, hl⟩ := hk.letters
  have hst' := hst
  have HKL := Lib.hid hl
  rw [hl] at hst'
  simp only [cel, List.map_cons, List.map_nil] at hst'
  rw [hl] at H1 ⊢
  rw [kv_lit] at H1 H2 ⊢
  clear hk hx hy hkt hst ht hl
  go_enter Try.func7, Try.ntmps7
  go_wp2
  go_loopg [16] 16 (fun gg i wr => URel w k gg i wr)
  case atStart =>
    rw [HKL.out]
    exact hst'.out
  case round =>
    clear hst'
    obtain ⟨j, hj, rfl, hb, hc, hu⟩ := hrel
    have HB := Lib.hid hb
    have HC := Lib.hid hc
    have HU := Lib.hid hu
    clear hb hc hu
    rcases gk with _ | og
    · have hkl : ¬ (j : Int) < 16 := by omega
      obtain rfl : j = 16 := by omega
      rw [HT.out] at HC
      rw [HKL.out] at HU
      obtain ⟨c0, c1, c2, c3, c4, c5, c6, c7, c8, c9, c10, c11, c12, c13, c14, c15⟩ := ar16 HU.out
      go_wp2_with fail
      refine (H1.out _).mono ?_
      rintro e w1 ⟨rfl, hb1⟩
      have HC1 := Lib.hid (HC.out.below hb1)
      have HB1 := Lib.hid (below_then HB.out HB.out.size hb1)
      clear hb1 c0 c1 c2 c3 c4 c5 c6 c7 c8 c9 c10 c11 c12 c13 c14 c15
      obtain ⟨d0, d1, d2, d3, d4, d5, d6, d7, d8, d9, d10, d11, d12, d13, d14, d15⟩ := ar16 HC1.out
      go_wp2_with fail
      refine (H2.out _).mono ?_
      rintro e w2 ⟨rfl, hb2⟩
      have HB2 := Lib.hid (below_then HB1.out HB1.out.size hb2)
      clear hb2 d0 d1 d2 d3 d4 d5 d6 d7 d8 d9 d10 d11 d12 d13 d14 d15
      go_wp2_with fail
      refine (alive_any _).mono ?_
      rintro e w3 ⟨rfl, hb3⟩
      have HB3 := Lib.hid (below_then HB2.out HB2.out.size hb3)
      clear hb3
      go_wp2
      try rw [Exit.noGoto_ret]
      go_ret
      exact ⟨by simp, HB3.out⟩
    · have hkl : (j : Int) < 16 := by omega
      have hlen : k.length = 16 := HK.out.1
      obtain ⟨c0, f0⟩ := ar_byte HC.out j (by rw [trnTo_len k j (by omega)]; omega)
      rw [trnTo_at k j (by omega)] at c0
      have HS := Lib.hid (ar_set HC.out j (by rw [trnTo_len k j (by omega)]; omega) (255 - k[j]?.getD 0))
      rw [trnTo_set k j (by omega)] at HS
      obtain ⟨x, hx⟩ : ∃ x, k[j]?.getD 0 = x := ⟨_, rfl⟩
      have hx0 := HK.out.2.get j
      rw [hx] at HS c0 hx0
      clear hx
      go_wp2
      go_roundg og
      case measure => omega
      case rel =>
        exact ⟨j + 1, by omega, by simp, HB.out.setCell (Nat.le_succ _) _, HS.out, HU.out.other (by simp) _⟩

theorem turned_walk (k : List Int) (s : ByteArray) (w : World) (hk : Key k) (hs : s.size ≤ 140737488351232) : Calls Try.prog 7 #[kv k, .string s] w fun e w' => e = .returned (.bool true) ∧ Below w.heap.size w w' := by
  by_cases hl : 20000 < s.size
  · exact turned_long k s w hk hs hl
  · exact turned_short k s w hk hs hl

end Go.Proofs.Ytanjejgbjdikmaa
