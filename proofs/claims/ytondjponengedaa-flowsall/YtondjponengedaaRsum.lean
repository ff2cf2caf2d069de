/-
  What the reference's Sum does.
-/
import Derived.Test.YtondjponengedaaKey
namespace Go.Proofs.Ytondjponengedaa
open Go.RowKit
set_option linter.unusedVariables false

/-- What holds ahead of each eight bytes. -/
def RSRel (w : World) (B n : Nat) (bs : List Int) (g : V4) (gg : Nat) (i : Value) (wr : World) : Prop :=
  ∃ (a : Nat) (v : V4), i = .int .i64 a ∧ gg + a = n + 8 ∧ v.Ok ∧ Ar wr B v.cells ∧ (if a ≤ n then ins n v (bs.drop a) = g else v = g) ∧ Below w.heap.size w wr ∧ w.heap.size ≤ B

set_option maxHeartbeats 4000000 in
/-- outriderref07.Sum. -/
theorem rsum_any (k : List Int) (A : Option Addr) (n c : Nat) (bs : List Int) (w : World) (hk : Key k) (hp : Part w ⟨A, n, c, bs⟩) (hn : n ≤ 281474976710656) :
    Calls Try.prog 41 #[kv k, .slice A n c] w fun e w' => e = .returned (.int .u64 (hsh k bs)) ∧ Below w.heap.size w w' := by
  have hkp := key_part w k 22 hk
  have N1 := Lib.hid (rnumber_any (some ⟨w.heap.size, 0, none⟩) 16 16 k 0 _ hkp (by omega) (by omega))
  have N2 := Lib.hid (rnumber_any (some ⟨w.heap.size, 0, none⟩) 16 16 k 8 _ hkp (by omega) (by omega))
  rw [List.drop_zero] at N1
  rw [List.take_of_length_le (l := k.drop 8) (by simp [hk.1])] at N2
  have HL : bs.length = n := hp.1
  have HBY : Hid (Byt bs) := Lib.hid hp.2.2.1
  have HH : Hid (hsh k bs = fin (ins n (beg k) bs)) := Lib.hid (by unfold hsh; rw [hp.1])
  have HP := Lib.hid hp
  have hnc : n ≤ c := hp.2.1
  clear hp hkp
  obtain ⟨g, hg⟩ : ∃ g, ins n (beg k) bs = g := ⟨_, rfl⟩
  have HG := Lib.hid hg
  obtain ⟨x, hx⟩ : ∃ x, num (k.take 8) = x := ⟨_, rfl⟩
  obtain ⟨y, hy⟩ : ∃ x, num (k.drop 8) = x := ⟨_, rfl⟩
  rw [hx] at N1
  rw [hy] at N2
  obtain ⟨a0, ha0⟩ : ∃ z, bits .xor .u64 8317987319222330741 x = z := ⟨_, rfl⟩
  obtain ⟨b0, hb0⟩ : ∃ z, bits .xor .u64 7237128888997146477 y = z := ⟨_, rfl⟩
  obtain ⟨c0, hc0⟩ : ∃ z, bits .xor .u64 7816392313619706465 x = z := ⟨_, rfl⟩
  obtain ⟨d0, hd0⟩ : ∃ z, bits .xor .u64 8387220255154660723 y = z := ⟨_, rfl⟩
  have HV : Hid (beg k = ⟨a0, b0, c0, d0⟩) := Lib.hid (by simp only [beg, xr, hx, hy, ha0, hb0, hc0, hd0])
  have HOK : Hid (V4.Ok ⟨a0, b0, c0, d0⟩) := Lib.hid (by rw [← HV.out]; exact beg_ok k)
  have HFIN : Hid (hsh k bs = fin g) := Lib.hid (by rw [HH.out, hg])
  clear hx hy
  obtain ⟨k0, k1, k2, k3, k4, k5, k6, k7, k8, k9, k10, k11, k12, k13, k14, k15, hl⟩ := hk.letters
  rw [hl] at N1 N2 ⊢
  rw [hl] at HFIN
  simp only [cel, List.map_cons, List.map_nil] at N1 N2
  rw [kv_lit]
  have hst : Hid (RSRel w (w.heap.size + 1) n bs g (n + 8) (.int .i64 0) ((w.alloc (.cells #[.int .u8 k0, .int .u8 k1, .int .u8 k2, .int .u8 k3, .int .u8 k4, .int .u8 k5, .int .u8 k6, .int .u8 k7, .int .u8 k8, .int .u8 k9, .int .u8 k10, .int .u8 k11, .int .u8 k12, .int .u8 k13, .int .u8 k14, .int .u8 k15] 22)).alloc (.cells #[.int .u64 a0, .int .u64 b0, .int .u64 c0, .int .u64 d0] 111))) :=
    Lib.hid ⟨0, ⟨a0, b0, c0, d0⟩, rfl, by omega, HOK.out, by
      have := Ar.new (w.alloc (.cells #[.int .u8 k0, .int .u8 k1, .int .u8 k2, .int .u8 k3, .int .u8 k4, .int .u8 k5, .int .u8 k6, .int .u8 k7, .int .u8 k8, .int .u8 k9, .int .u8 k10, .int .u8 k11, .int .u8 k12, .int .u8 k13, .int .u8 k14, .int .u8 k15] 22)) (V4.cells ⟨a0, b0, c0, d0⟩) 111
      rwa [World.size_alloc] at this, by
      rw [if_pos (by omega), ← HV.out, List.drop_zero]; exact HG.out, ((Below.refl _ _).alloc (Nat.le_refl _) _).alloc (by simp) _, by omega⟩
  clear hk hl hg
  go_enter Try.func41, Try.ntmps41
  go_wp2_with fail
  refine N1.out.mono ?_
  rintro e w' ⟨rfl, rfl⟩
  go_wp2_with fail
  refine N2.out.mono ?_
  rintro e w' ⟨rfl, rfl⟩
  clear N1 N2
  go_wp2
  clear ha0 hb0 hc0 hd0
  obtain ⟨B, hB⟩ : ∃ B, B = w.heap.size + 1 := ⟨_, rfl⟩
  rw [← hB] at hst ⊢
  clear hB
  go_loopg [8] (n + 8) (fun gg i wr => RSRel w B n bs g gg i wr)
  case atStart => exact hst.out
  case round =>
    clear hst
    obtain ⟨a, ⟨p, q, r, s⟩, rfl, hga, hok, har, hins, hbw, hzB⟩ := hrel
    have HA := Lib.hid har
    have HI := Lib.hid hins
    have HBW := Lib.hid hbw
    have HO1 := Lib.hid hok
    have x0 := HA.out.cell 0 rfl
    have x1 := HA.out.cell 1 rfl
    have x2 := HA.out.cell 2 rfl
    have x3 := HA.out.cell 3 rfl
    have f0 := HA.out.free 0 (by simp [V4.cells])
    have f1 := HA.out.free 1 (by simp [V4.cells])
    have f2 := HA.out.free 2 (by simp [V4.cells])
    have f3 := HA.out.free 3 (by simp [V4.cells])
    simp only at x0 x1 x2 x3
    clear har hins hbw hok
    by_cases hin : a ≤ n
    · have hini : (a : Int) ≤ (n : Int) := by omega
      have hN := rnumber_any A n c bs a wr (HP.out.below HBW.out) (by omega) (by omega)
      obtain ⟨M, hM⟩ : ∃ M, num ((bs.drop a).take 8) = M := ⟨_, rfl⟩
      rw [hM] at hN
      have HM := Lib.hid hM
      have hMu : U M := by rw [← hM]; exact num_u _ ((HBY.out.drop a).take 8) (by simp; omega)
      have HN := Lib.hid hN
      clear hM hN
      by_cases h8 : n < a + 8
      · -- the last number
        have h8i : (n : Int) < (a : Int) + 8 := by omega
        have hM : lst (bs.drop a) n = M + (n : Int) % 256 * 72057594037927936 := by
          unfold lst
          rw [← HM.out, List.take_of_length_le (by simp; omega)]
        have hM56 := num_56 (bs.drop a) (HBY.out.drop a) (by simp; omega)
        have hMe : M = num (bs.drop a) := by rw [← HM.out, List.take_of_length_le (by simp; omega)]
        rw [← hMe] at hM56
        clear hMe
        obtain ⟨m', hm'⟩ : ∃ m', lst (bs.drop a) n = m' := ⟨_, rfl⟩
        have hsum : M + (n : Int) % 256 * 72057594037927936 = m' := by rw [← hm']; exact hM.symm
        have HLST := Lib.hid hm'
        have hwr : IntKind.u64.wrap (M + (n : Int) % 256 * 72057594037927936) = m' := by rw [IntKind.wrap_u64, hsum.symm]; omega
        clear hM hm'
        obtain ⟨d1, hd1⟩ : ∃ x, bits BinOp.xor IntKind.u64 s m' = x := ⟨_, rfl⟩
        have hv1 : V4.Ok ⟨p, q, r, d1⟩ := ⟨HO1.out.1, HO1.out.2.1, HO1.out.2.2.1, by rw [← hd1]; exact xr_u _ _⟩
        obtain ⟨⟨p1, q1, r1, s1⟩, hV1⟩ : ∃ V, rnd ⟨p, q, r, d1⟩ = V := ⟨_, rfl⟩
        have hv2 : V4.Ok ⟨p1, q1, r1, s1⟩ := by rw [← hV1]; exact rnd_ok
        obtain ⟨⟨p2, q2, r2, s2⟩, hV2⟩ : ∃ V, rnd ⟨p1, q1, r1, s1⟩ = V := ⟨_, rfl⟩
        have hv3 : V4.Ok ⟨p2, q2, r2, s2⟩ := by rw [← hV2]; exact rnd_ok
        obtain ⟨t, ht⟩ : ∃ x, bits BinOp.xor IntKind.u64 p2 m' = x := ⟨_, rfl⟩
        have HTK : Hid (tak ⟨p, q, r, s⟩ m' = ⟨t, q2, r2, s2⟩) := Lib.hid (by
          simp only [tak, xr, rnds, hd1, hV1, hV2, ht])
        have HOK2 : Hid (V4.Ok ⟨t, q2, r2, s2⟩) := Lib.hid (by rw [← HTK.out]; exact tak_ok _)
        have R1 := Lib.hid (fun w => rround_any ⟨p, q, r, d1⟩ w hv1)
        have R2 := Lib.hid (fun w => rround_any ⟨p1, q1, r1, s1⟩ w hv2)
        rw [hV1] at R1
        rw [hV2] at R2
        simp only [V4.val] at R1 R2
        clear hV1 hV2 hv1 hv2 hv3
        have HA3 : Hid (Ar (wr.setCell ⟨B, 3, none⟩ (.int .u64 d1)) B (V4.cells ⟨p, q, r, d1⟩)) := Lib.hid (HA.out.set 3 (by simp [V4.cells]) _)
        have HB3 : Hid (Below w.heap.size w (wr.setCell ⟨B, 3, none⟩ (.int .u64 d1))) := Lib.hid (HBW.out.setCell hzB _)
        go_wp2_with (first | (go_at_call 62; refine HN.out.mono ?_; rintro e w' ⟨rfl, rfl⟩) | fail)
        refine (R1.out _).mono ?_
        rintro e w3 ⟨rfl, hb3⟩
        go_wp2_with fail
        refine (R2.out _).mono ?_
        rintro e w4 ⟨rfl, hb4⟩
        have HA4 : Hid (Ar w4 B (V4.cells ⟨p, q, r, d1⟩)) := Lib.hid ((HA3.out.below hb3).below hb4)
        have HB4 : Hid (Below w.heap.size w w4) := Lib.hid (below_then (below_then HB3.out HB3.out.size hb3) (Nat.le_trans HB3.out.size hb3.size) hb4)
        clear hb3 hb4 x0 x1 x2 x3 f0 f1 f2 f3
        have y0 := HA4.out.cell 0 rfl
        have y1 := HA4.out.cell 1 rfl
        have y2 := HA4.out.cell 2 rfl
        have y3 := HA4.out.cell 3 rfl
        have g0 := HA4.out.free 0 (by simp [V4.cells])
        have g1 := HA4.out.free 1 (by simp [V4.cells])
        have g2 := HA4.out.free 2 (by simp [V4.cells])
        have g3 := HA4.out.free 3 (by simp [V4.cells])
        simp only at y0 y1 y2 y3
        go_wp2
        go_roundg (n - a)
        case measure => omega
        case rel =>
          refine ⟨a + 8, ⟨t, q2, r2, s2⟩, by simp, by omega, HOK2.out, (HA4.out.put ⟨p2, q2, r2, s2⟩).set 0 (by simp [V4.cells]) _, ?_, (below_put HB4.out hzB ⟨p2, q2, r2, s2⟩).setCell hzB _, hzB⟩
          rw [if_neg (by omega)]
          have h := HI.out
          rw [if_pos (by omega), ins_last (by simp; omega), HLST.out, HTK.out] at h
          exact h
      · -- eight bytes
        have h8i : ¬ (n : Int) < (a : Int) + 8 := by omega
        obtain ⟨d1, hd1⟩ : ∃ x, bits BinOp.xor IntKind.u64 s M = x := ⟨_, rfl⟩
        have hv1 : V4.Ok ⟨p, q, r, d1⟩ := ⟨HO1.out.1, HO1.out.2.1, HO1.out.2.2.1, by rw [← hd1]; exact xr_u _ _⟩
        obtain ⟨⟨p1, q1, r1, s1⟩, hV1⟩ : ∃ V, rnd ⟨p, q, r, d1⟩ = V := ⟨_, rfl⟩
        have hv2 : V4.Ok ⟨p1, q1, r1, s1⟩ := by rw [← hV1]; exact rnd_ok
        obtain ⟨⟨p2, q2, r2, s2⟩, hV2⟩ : ∃ V, rnd ⟨p1, q1, r1, s1⟩ = V := ⟨_, rfl⟩
        have hv3 : V4.Ok ⟨p2, q2, r2, s2⟩ := by rw [← hV2]; exact rnd_ok
        obtain ⟨t, ht⟩ : ∃ x, bits BinOp.xor IntKind.u64 p2 M = x := ⟨_, rfl⟩
        have HTK : Hid (tak ⟨p, q, r, s⟩ M = ⟨t, q2, r2, s2⟩) := Lib.hid (by
          simp only [tak, xr, rnds, hd1, hV1, hV2, ht])
        have HOK2 : Hid (V4.Ok ⟨t, q2, r2, s2⟩) := Lib.hid (by rw [← HTK.out]; exact tak_ok _)
        have R1 := Lib.hid (fun w => rround_any ⟨p, q, r, d1⟩ w hv1)
        have R2 := Lib.hid (fun w => rround_any ⟨p1, q1, r1, s1⟩ w hv2)
        rw [hV1] at R1
        rw [hV2] at R2
        simp only [V4.val] at R1 R2
        clear hV1 hV2 hv1 hv2 hv3
        have HA3 : Hid (Ar (wr.setCell ⟨B, 3, none⟩ (.int .u64 d1)) B (V4.cells ⟨p, q, r, d1⟩)) := Lib.hid (HA.out.set 3 (by simp [V4.cells]) _)
        have HB3 : Hid (Below w.heap.size w (wr.setCell ⟨B, 3, none⟩ (.int .u64 d1))) := Lib.hid (HBW.out.setCell hzB _)
        go_wp2_with (first | (go_at_call 62; refine HN.out.mono ?_; rintro e w' ⟨rfl, rfl⟩) | fail)
        refine (R1.out _).mono ?_
        rintro e w3 ⟨rfl, hb3⟩
        go_wp2_with fail
        refine (R2.out _).mono ?_
        rintro e w4 ⟨rfl, hb4⟩
        have HA4 : Hid (Ar w4 B (V4.cells ⟨p, q, r, d1⟩)) := Lib.hid ((HA3.out.below hb3).below hb4)
        have HB4 : Hid (Below w.heap.size w w4) := Lib.hid (below_then (below_then HB3.out HB3.out.size hb3) (Nat.le_trans HB3.out.size hb3.size) hb4)
        clear hb3 hb4 x0 x1 x2 x3 f0 f1 f2 f3
        have y0 := HA4.out.cell 0 rfl
        have y1 := HA4.out.cell 1 rfl
        have y2 := HA4.out.cell 2 rfl
        have y3 := HA4.out.cell 3 rfl
        have g0 := HA4.out.free 0 (by simp [V4.cells])
        have g1 := HA4.out.free 1 (by simp [V4.cells])
        have g2 := HA4.out.free 2 (by simp [V4.cells])
        have g3 := HA4.out.free 3 (by simp [V4.cells])
        simp only at y0 y1 y2 y3
        go_wp2
        go_roundg (n - a)
        case measure => omega
        case rel =>
          refine ⟨a + 8, ⟨t, q2, r2, s2⟩, by simp, by omega, HOK2.out, (HA4.out.put ⟨p2, q2, r2, s2⟩).set 0 (by simp [V4.cells]) _, ?_, (below_put HB4.out hzB ⟨p2, q2, r2, s2⟩).setCell hzB _, hzB⟩
          rw [if_pos (by omega)]
          have h := HI.out
          rw [if_pos (by omega), ins_more (by simp; omega), HM.out, HTK.out, List.drop_drop] at h
          exact h
    · have hini : ¬ (a : Int) ≤ (n : Int) := by omega
      obtain ⟨c1, hc1⟩ : ∃ x, bits BinOp.xor IntKind.u64 r 255 = x := ⟨_, rfl⟩
      have hv1 : V4.Ok ⟨p, q, c1, s⟩ := ⟨HO1.out.1, HO1.out.2.1, by rw [← hc1]; exact xr_u _ _, HO1.out.2.2.2⟩
      obtain ⟨⟨p1, q1, r1, s1⟩, hV1⟩ : ∃ V, rnd ⟨p, q, c1, s⟩ = V := ⟨_, rfl⟩
      have hv2 : V4.Ok ⟨p1, q1, r1, s1⟩ := by rw [← hV1]; exact rnd_ok
      obtain ⟨⟨p2, q2, r2, s2⟩, hV2⟩ : ∃ V, rnd ⟨p1, q1, r1, s1⟩ = V := ⟨_, rfl⟩
      have hv3 : V4.Ok ⟨p2, q2, r2, s2⟩ := by rw [← hV2]; exact rnd_ok
      obtain ⟨⟨p3, q3, r3, s3⟩, hV3⟩ : ∃ V, rnd ⟨p2, q2, r2, s2⟩ = V := ⟨_, rfl⟩
      have hv4 : V4.Ok ⟨p3, q3, r3, s3⟩ := by rw [← hV3]; exact rnd_ok
      obtain ⟨⟨p4, q4, r4, s4⟩, hV4⟩ : ∃ V, rnd ⟨p3, q3, r3, s3⟩ = V := ⟨_, rfl⟩
      have HF : Hid (fin g = bits BinOp.xor IntKind.u64 (bits BinOp.xor IntKind.u64 (bits BinOp.xor IntKind.u64 p4 q4) r4) s4) := Lib.hid (by
        have h := HI.out
        rw [if_neg hin] at h
        rw [← h]
        simp only [fin, xr, rnds, hc1, hV1, hV2, hV3, hV4])
      have R1 := Lib.hid (fun w => rround_any ⟨p, q, c1, s⟩ w hv1)
      have R2 := Lib.hid (fun w => rround_any ⟨p1, q1, r1, s1⟩ w hv2)
      have R3 := Lib.hid (fun w => rround_any ⟨p2, q2, r2, s2⟩ w hv3)
      have R4 := Lib.hid (fun w => rround_any ⟨p3, q3, r3, s3⟩ w hv4)
      rw [hV1] at R1
      rw [hV2] at R2
      rw [hV3] at R3
      rw [hV4] at R4
      simp only [V4.val] at R1 R2 R3 R4
      clear hV1 hV2 hV3 hV4 hv1 hv2 hv3 hv4
      have HA3 : Hid (Ar (wr.setCell ⟨B, 2, none⟩ (.int .u64 c1)) B (V4.cells ⟨p, q, c1, s⟩)) := Lib.hid (HA.out.set 2 (by simp [V4.cells]) _)
      have HB3 : Hid (Below w.heap.size w (wr.setCell ⟨B, 2, none⟩ (.int .u64 c1))) := Lib.hid (HBW.out.setCell hzB _)
      go_wp2_with fail
      refine (R1.out _).mono ?_
      rintro e w3 ⟨rfl, hb3⟩
      go_wp2_with fail
      refine (R2.out _).mono ?_
      rintro e w4 ⟨rfl, hb4⟩
      go_wp2_with fail
      refine (R3.out _).mono ?_
      rintro e w5 ⟨rfl, hb5⟩
      go_wp2_with fail
      refine (R4.out _).mono ?_
      rintro e w6 ⟨rfl, hb6⟩
      have HA4 : Hid (Ar w6 B (V4.cells ⟨p, q, c1, s⟩)) := Lib.hid ((((HA3.out.below hb3).below hb4).below hb5).below hb6)
      have B3 := below_then HB3.out HB3.out.size hb3
      have B4 := below_then B3 B3.size hb4
      have B5 := below_then B4 B4.size hb5
      have HB6 : Hid (Below w.heap.size w w6) := Lib.hid (below_then B5 B5.size hb6)
      clear hb3 hb4 hb5 hb6 B3 B4 B5 x0 x1 x2 x3 f0 f1 f2 f3
      have y0 := HA4.out.cell 0 rfl
      have y1 := HA4.out.cell 1 rfl
      have y2 := HA4.out.cell 2 rfl
      have y3 := HA4.out.cell 3 rfl
      have ff0 := HA4.out.free 0 (by simp [V4.cells])
      have ff1 := HA4.out.free 1 (by simp [V4.cells])
      have ff2 := HA4.out.free 2 (by simp [V4.cells])
      have ff3 := HA4.out.free 3 (by simp [V4.cells])
      simp only at y0 y1 y2 y3
      go_wp2
      try rw [Exit.noGoto_ret]
      go_ret
      exact ⟨ret_int (HF.out.symm.trans HFIN.out.symm), below_put HB6.out hzB ⟨p4, q4, r4, s4⟩⟩

end Go.Proofs.Ytondjponengedaa
