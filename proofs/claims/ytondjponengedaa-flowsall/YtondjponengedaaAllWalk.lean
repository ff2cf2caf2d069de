/-
  The walk of FlowsAll.
-/
import Derived.Test.YtondjponengedaaRefP
namespace Go.Proofs.Ytondjponengedaa
open Go.RowKit
set_option linter.unusedVariables false
set_option linter.unusedSimpArgs false
set_option maxRecDepth 10000

set_option maxHeartbeats 4000000 in
theorem alls_walk (K : List Int) (a : Option Addr) (n c : Nat) (l : List Opr) (w : World) (hK : Key K) (hS : Scr w a n c l) :
    Calls Try.prog 3 #[kv K, .slice a n c] w fun e w' => e = .returned (.bool true) ∧ Below w.heap.size w w' := by
  have HK := Lib.hid hK
  have HS := Lib.hid hS
  have HN := Lib.hid (fun w => pl_new w hK)
  have AL := Lib.hid (fun w => alive_any w)
  obtain ⟨k0, k1, k2, k3, k4, k5, k6, k7, k8, k9, k10, k11, k12, k13, k14, k15, hl⟩ := hK.letters
  have HKV : Hid (kv K = .agg #[.int .u8 k0, .int .u8 k1, .int .u8 k2, .int .u8 k3, .int .u8 k4, .int .u8 k5, .int .u8 k6, .int .u8 k7, .int .u8 k8, .int .u8 k9, .int .u8 k10, .int .u8 k11, .int .u8 k12, .int .u8 k13, .int .u8 k14, .int .u8 k15]) := Lib.hid (by rw [hl, kv_lit])
  rw [HKV.out] at HN ⊢
  have HB0 := Lib.hid (below_alloc (Below.refl w.heap.size w) (.cells #[.int .u8 k0, .int .u8 k1, .int .u8 k2, .int .u8 k3, .int .u8 k4, .int .u8 k5, .int .u8 k6, .int .u8 k7, .int .u8 k8, .int .u8 k9, .int .u8 k10, .int .u8 k11, .int .u8 k12, .int .u8 k13, .int .u8 k14, .int .u8 k15] 22))
  clear hK hS hl
  by_cases hbig : 600 < n
  · have hz : decide ((600 : Int) < (n : Int)) = true := decide_eq_true (by omega)
    go_enter Try.func3, Try.ntmps3
    go_wp2_with fail
    refine (HN.out _).mono ?_
    rintro e w1 ⟨B, rfl, hP⟩
    have HB1 := Lib.hid (HB0.out.trans (hP.2.2.mono HB0.out.size))
    clear hP
    go_wp2_with fail
    refine (AL.out _).mono ?_
    rintro e w2 ⟨rfl, hb2⟩
    go_wp2
    go_ret
    exact ⟨rfl, below_then HB1.out HB1.out.size hb2⟩
  · have hz : decide ((600 : Int) < (n : Int)) = false := decide_eq_false (by omega)
    go_enter Try.func3, Try.ntmps3
    go_wp2_with fail
    refine (HN.out _).mono ?_
    rintro e w1 ⟨B, rfl, hP⟩
    have HP1 : Hid (Pl w w1 B K []) := Lib.hid ⟨hP.1, Nat.le_trans HB0.out.size hP.2.1, HB0.out.trans (hP.2.2.mono HB0.out.size)⟩
    clear hP
    have HPY := Lib.hid (plays_any HP1.out HS.out (by omega))
    generalize runS l = L at HPY
    go_wp2_with fail
    refine HPY.out.mono ?_
    rintro e w2 ⟨v2, rfl, hr2, hP2⟩
    have hfine := hP2.1.fine
    have h64 := hfine.2
    have HR2 := Lib.hid hr2
    have HP2 := Lib.hid hP2
    obtain ⟨a2, c2, rfl, -, -⟩ := row_any hr2
    clear hr2 hP2 hfine
    go_wp2_with fail
    refine (AL.out _).mono ?_
    rintro e w3 ⟨rfl, hb3⟩
    have HP3 := Lib.hid (HP2.out.grow hb3)
    have HR3 := Lib.hid (HR2.out.below hb3)
    clear hb3
    go_wp2_with fail
    refine (all_any HP3.out.1).mono ?_
    rintro e w4 ⟨v4, rfl, hr4, hb4⟩
    have HP4 := Lib.hid (HP3.out.grow hb4)
    have HR4 := Lib.hid (HR3.out.below hb4)
    have HPL := Lib.hid (plain_any hr4 (by omega))
    obtain ⟨a4, c4, rfl, -, -⟩ := row_any hr4
    clear hr4 hb4
    go_wp2_with fail
    refine HPL.out.mono ?_
    rintro e w5 ⟨v5, rfl, hr5, hb5⟩
    have HP5 := Lib.hid (HP4.out.grow hb5)
    obtain ⟨a5, c5, rfl, -, -⟩ := row_any hr5
    have HSM := Lib.hid (same_any hr5 (HR4.out.below hb5) (by omega))
    clear hr5 hb5
    go_wp2_with (go_at_call 13; refine HSM.out.mono ?_; rintro e w' ⟨rfl, qq, rfl⟩)
    go_ret
    exact ⟨rfl, below_drewN HP5.out.2.2 qq⟩

end Go.Proofs.Ytondjponengedaa
