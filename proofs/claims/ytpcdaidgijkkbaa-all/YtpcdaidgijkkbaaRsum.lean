/-
  What outriderref06.sum does.
-/
import Derived.Test.YtpcdaidgijkkbaaAfacts
namespace Go.Proofs.Ytpcdaidgijkkbaa
open Go.RowKit
set_option linter.unusedVariables false
set_option maxRecDepth 40000

set_option maxHeartbeats 1000000 in
/-- outriderref06.sum. -/
theorem rsum_pk (f t B : ByteArray) (v : Int) (w : World) (hf : f.size ≤ 140737488351232) (ht : t.size ≤ 140737488351232) (hs : B.size ≤ 3000) (hv : fd (tot (psx f t 112 (B.size : Int) ++ bts B)) = v) :
    Calls Try.prog 60 #[.string f, .string t, .string B] w fun e w' => e = .returned (.int .i64 v) ∧ Below w.heap.size w w' := by
  obtain ⟨ps, hps⟩ : ∃ ps, ps = strOfNums (psx f t 112 (B.size : Int)) := ⟨_, rfl⟩
  have hpb := psx_byt f t 112 (B.size : Int)
  have hpz : ps.size ≤ 40 := by rw [hps, strOfNums_size]; exact (psx_even f t 112 _).2
  have HBP := Lib.hid (show bts (ps ++ B) = psx f t 112 (B.size : Int) ++ bts B by rw [bts_append, hps, bts_strOfNums hpb])
  have HV := Lib.hid hv
  have HPS := Lib.hid hps
  have HPB := Lib.hid hpb
  clear hv hps hpb
  go_enter Try.func60, Try.ntmps60
  go_wp2_with fail
  refine (rpseudo_part f t 112 (B.size : Int) _ hf ht (by omega) (by omega)).mono ?_
  rintro e w1 ⟨A1, n1, c1, rfl, hn1, hp1, hb1⟩
  have hcv1 : (convert 87 9 (.slice A1 n1 c1)).run Try.prog w1 = .ok (.string ps) w1 := by rw [HPS.out]; exact convert_part hp1.out 9 Try.underlying9
  obtain ⟨n, hn⟩ : ∃ n, (ps ++ B).size = n := ⟨_, rfl⟩
  have hnz : n ≤ 4000 := by rw [← hn, ByteArray.size_append]; omega
  obtain ⟨c5, w5, hr5, ho5, hb5, -, -⟩ := conv_bytes w1 w1.heap.size (ps ++ B) 9 Try.underlying9 (Nat.le_refl _) (by omega) w1.heap.size rfl n hn
  rw [HBP.out] at ho5
  have HP5 := Lib.hid (ho5.part (HPB.out.append (bts_byt B)))
  have HB5 := Lib.hid (hb1.out.trans (hb5.mono hb1.out.size))
  clear hb1 hp1 ho5 hb5 hn
  go_wp2_with fail
  refine (rsum_any (some ⟨w1.heap.size, 0, none⟩) n c5 _ w5 HP5.out (by omega)).mono ?_
  rintro e w6 ⟨rfl, rfl⟩
  rw [HV.out]
  go_wp2
  go_ret
  exact ⟨rfl, HB5.out⟩

end Go.Proofs.Ytpcdaidgijkkbaa
