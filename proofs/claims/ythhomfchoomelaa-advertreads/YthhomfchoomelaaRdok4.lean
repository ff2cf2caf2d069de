/-
  What outriderref06.Decode does with an advertisement.
-/
import Derived.Test.YthhomfchoomelaaRdbox
namespace Go.Proofs.Ythhomfchoomelaa
open Go.RowKit
set_option linter.unusedVariables false
set_option maxRecDepth 10000

def DRel (s : ByteArray) (q m : Nat) (w1 : World) (B : Nat) (x1 x2 ev : Int) (gg : Nat) (i : Value) (wr : World) : Prop :=
  ∃ (k a : Nat) (v : Value), k + gg = m ∧ i = .int .i64 (a : Int) ∧ Hid (a = 8 + k * q) ∧ Hid (BoxD wr B x1 x2 ev v) ∧ wr.ownsRow B 25 1 v k ((pieces s q k).map Value.string) ∧ Hid (Below B w1 wr)

set_option maxHeartbeats 4000000 in
theorem rd_ok4 (f t : ByteArray) (p l : Int) (s : ByteArray) (w : World) (hf : f.size ≤ 140737488351232) (ht : t.size ≤ 140737488351232) (hs : s.size ≤ 140737488351232) (hl : l = 255) (hp : p = 112) (h4 : f.size = 4) (ht2 : t.size = f.size) (h8 : 8 ≤ s.size) (hv : byteAt (bts s) 0 / 16 = 3) (hy : byteAt (bts s) 0 % 16 = 1) (h1 : 1 ≤ byteAt (bts s) 3) (h2 : byteAt (bts s) 3 ≤ 8) (HSZ : Hid ((s.size : Int) = 8 + byteAt (bts s) 3 * f.size)) (hvv : fd (tot (psx f t 112 (s.size : Int) ++ bts s)) = 65535) (h0 : 1 ≤ byteAt (bts s) 1) (hlo : 1 ≤ twoAt (bts s) 4) (hhi : twoAt (bts s) 4 ≤ 4095) :
    Calls Try.prog 15 #[.agg #[.string f, .string t, .int .i64 p, .int .i64 l, .string s]] w fun e w' => ∃ A c, e = .returned (.tuple #[.agg #[.int .i64 (byteAt (bts s) 1), .int .i64 (byteAt (bts s) 2), .int .i64 (twoAt (bts s) 4), .slice A (manyOf s) c], .int .i64 0]) ∧ Strs w' A (manyOf s) c (pieces s f.size (manyOf s)) ∧ Below w.heap.size w w' := by
  have l1a : decide (l = 255) = true := by first | exact decide_eq_true (by omega) | (simp; omega)
  have l1b : (l != 255) = false := by first | (simp; omega) | simpa using l1a
  have p1a : decide (p = 112) = true := by first | exact decide_eq_true (by omega) | (simp; omega)
  have p1b : (p != 112) = false := by first | (simp; omega) | simpa using p1a
  have f4a : decide ((f.size : Int) = 4) = true := by first | exact decide_eq_true (by omega) | (simp; omega)
  have f4b : ((f.size : Int) != 4) = false := by first | (simp; omega) | simpa using f4a
  have f4c : decide (f.size = 4) = true := decide_eq_true (by omega)
  have t1 : ((t.size : Int) != (f.size : Int)) = false := by simp; omega
  have t2 : decide ((t.size : Int) = (f.size : Int)) = true := decide_eq_true (by omega)
  have s8 : ¬ (s.size : Int) < 8 := by omega
  have s8b : decide ((s.size : Int) < 8) = false := decide_eq_false (by omega)
  have i0 : (0 : Int) < (s.size : Int) := by omega
  have i1 : (1 : Int) < (s.size : Int) := by omega
  have i2 : (2 : Int) < (s.size : Int) := by omega
  have i3 : (3 : Int) < (s.size : Int) := by omega
  have i4 : (4 : Int) < (s.size : Int) := by omega
  have i5 : (5 : Int) < (s.size : Int) := by omega
  obtain ⟨x0, hx0⟩ : ∃ x : Int, (s[0].toNat : Int) = x := ⟨_, rfl⟩
  have b0 := byte_le s[0]
  rw [hx0] at b0
  obtain ⟨x3, hx3⟩ : ∃ x : Int, (s[3].toNat : Int) = x := ⟨_, rfl⟩
  have b3 := byte_le s[3]
  rw [hx3] at b3
  obtain ⟨x1, hx1⟩ : ∃ x : Int, (s[1].toNat : Int) = x := ⟨_, rfl⟩
  have b1 := byte_le s[1]
  rw [hx1] at b1
  obtain ⟨x2, hx2⟩ : ∃ x : Int, (s[2].toNat : Int) = x := ⟨_, rfl⟩
  have b2 := byte_le s[2]
  rw [hx2] at b2
  obtain ⟨x4, hx4⟩ : ∃ x : Int, (s[4].toNat : Int) = x := ⟨_, rfl⟩
  have b4 := byte_le s[4]
  rw [hx4] at b4
  obtain ⟨x5, hx5⟩ : ∃ x : Int, (s[5].toNat : Int) = x := ⟨_, rfl⟩
  have b5 := byte_le s[5]
  rw [hx5] at b5
  rw [byteAt_text s 0 (by omega), hx0] at hv hy
  have va : decide (x0 / 16 = 3) = true := by first | exact decide_eq_true (by omega) | (simp; omega)
  have vb : (x0 / 16 != 3) = false := by first | (simp; omega) | simpa using va
  have ya : decide (x0 % 16 = 1) = true := by first | exact decide_eq_true (by omega) | (simp; omega)
  have yb : (x0 % 16 != 1) = false := by first | (simp; omega) | simpa using ya
  have e3 : byteAt (bts s) 3 = x3 := by rw [byteAt_text s 3 (by omega), hx3]
  have hsz := HSZ.out
  rw [e3] at hsz h1 h2
  clear e3
  have c1 : decide (x3 < 1) = false := decide_eq_false (by omega)
  have c2 : decide (8 < x3) = false := decide_eq_false (by omega)
  have w0 : IntKind.i64.wrap x3 = x3 := by rw [IntKind.wrap_i64]; omega
  have wq : IntKind.i64.wrap ((f.size : Int) * x3) = 4 * x3 := by rw [IntKind.wrap_i64, h4]; omega
  have hsm : s.size ≤ 136 := by rw [h4] at hsz; omega
  have c3 : ((s.size : Int) != 8 + 4 * x3) = false := by rw [h4] at hsz; simp; omega
  have wx1 : IntKind.i64.wrap x1 = x1 := by rw [IntKind.wrap_i64]; omega
  have wx2 : IntKind.i64.wrap x2 = x2 := by rw [IntKind.wrap_i64]; omega
  have wx4 : IntKind.i64.wrap x4 = x4 := by rw [IntKind.wrap_i64]; omega
  have wx5 : IntKind.i64.wrap x5 = x5 := by rw [IntKind.wrap_i64]; omega
  have wx6 : IntKind.i64.wrap (x4 * 256) = x4 * 256 := by rw [IntKind.wrap_i64]; omega
  obtain ⟨ev, hev⟩ : ∃ ev, x4 * 256 + x5 = ev := ⟨_, rfl⟩
  have wx7 : IntKind.i64.wrap (x4 * 256 + x5) = ev := by rw [IntKind.wrap_i64, ← hev]; omega
  rw [byteAt_text s 1 (by omega), hx1] at h0
  rw [twoAt, byteAt_text s 4 (by omega), byteAt_text s 5 (by omega), hx4, hx5, hev] at hlo hhi
  rw [byteAt_text s 1 (by omega), byteAt_text s 2 (by omega), twoAt, byteAt_text s 4 (by omega), byteAt_text s 5 (by omega), hx1, hx2, hx4, hx5, hev]
  have d1 : decide (x1 = 0) = false := decide_eq_false (by omega)
  have d1c : (x1 == 0) = false := by simp; omega
  have d2 : decide (ev = 0) = false := decide_eq_false (by omega)
  have d2c : (ev == 0) = false := by simp; omega
  have d3 : decide (4095 < ev) = false := decide_eq_false (by omega)
  obtain ⟨m, hm⟩ : ∃ m, manyOf s = m := ⟨_, rfl⟩
  have hm3 : (m : Int) = x3 := by rw [← hm, manyOf, byteAt_text s 3 (by omega), hx3]; omega
  rw [hm]
  have HM : Hid (s.size = 8 + m * f.size) := Lib.hid (by have : ((8 + m * f.size : Nat) : Int) = 8 + (m : Int) * (f.size : Int) := by simp
                                                         rw [hm3] at this; omega)
  have hm8 : 1 ≤ m ∧ m ≤ 8 := by omega
  have hq16 : 1 ≤ f.size ∧ f.size ≤ 16 := by omega
  have HR := Lib.hid (fun w => rsum_pk f t s 65535 w hf ht (by omega) hvv)
  clear hl hp h4 ht2 hv hy hsz HSZ
  clear hvv hev hlo hhi h0 hm hm3 h1 h2
  obtain ⟨i9, hi, hz0, hz1, hz2⟩ := info_parts info25
  go_enter Try.func15, Try.ntmps15
  go_wp2_with fail
  refine (HR.out _).mono ?_
  rintro e w1 ⟨rfl, hb1⟩
  have HB1 := Lib.hid ((((Below.refl _ w).alloc (Nat.le_refl _) (.cells #[.string f, .string t, .int .i64 p, .int .i64 l, .string s] 28)).alloc (by simp) (.cells #[.int .i64 0, .int .i64 0, .int .i64 0, .slice none 0 0] 24)).trans (hb1.mono (by simp; omega)))
  have hbb : Below (w.heap.size + 1 + 1) ((w.alloc (.cells #[.string f, .string t, .int .i64 p, .int .i64 l, .string s] 28)).alloc (.cells #[.int .i64 0, .int .i64 0, .int .i64 0, .slice none 0 0] 24)) w1 := by simpa using hb1
  have hA := (BoxD.new (w.alloc (.cells #[.string f, .string t, .int .i64 p, .int .i64 l, .string s] 28)) 0 0 0 (.slice none 0 0)).below hbb (by simp)
  simp only [World.size_alloc] at hA
  have HA := Lib.hid hA
  obtain ⟨a0, a1, a2, a3⟩ := hA.cells
  have af : ∀ o, w1.frozen? ⟨w.heap.size + 1, o, none⟩ = false := hA.free
  have n1 : w.heap.size + 1 < w1.heap.size := hA.lt
  clear hb1 hA hbb
  go_wp2_with fail
  go_region
  go_wp2_with fail
  go_loopg [7] m (fun gg i wr => DRel s f.size m w1 w1.heap.size x1 x2 ev gg i wr)
  case atStart =>
    exact ⟨0, 8, _, by omega, rfl, Lib.hid (by omega), Lib.hid (BoxD.new w1 x1 x2 ev _), World.ownsRow_nil _ _ _ _, Lib.hid (below_drew ((Below.refl _ _).alloc (Nat.le_refl _) _))⟩
  case round =>
    obtain ⟨k, a, v, hk, rfl, ha, hbx, hrow, hbl⟩ := hrel
    obtain ⟨y0, y1, y2, y3⟩ := hbx.out.cells
    have yf : ∀ o, wr.frozen? ⟨w1.heap.size, o, none⟩ = false := hbx.out.free
    have yl : w1.heap.size < wr.heap.size := hbx.out.lt
    by_cases hkm : k < m
    · have hle : a + f.size ≤ s.size := by
        have h1 : (k + 1) * f.size ≤ m * f.size := Nat.mul_le_mul_right f.size hkm
        have h2 : (k + 1) * f.size = k * f.size + f.size := Nat.succ_mul k f.size
        have h3 := ha.out
        have h4 := HM.out
        omega
      have hlt : (a : Int) < (s.size : Int) := by omega
      have hle2 : (a : Int) + (f.size : Int) ≤ (s.size : Int) := by omega
      have wa : IntKind.i64.wrap ((a : Int) + (f.size : Int)) = (a : Int) + (f.size : Int) := by rw [IntKind.wrap_i64]; omega
      have hle4 : (a : Int) ≤ (a : Int) + (f.size : Int) := by omega
      have hle5 : (0 : Int) ≤ (a : Int) + (f.size : Int) := by omega
      have hle6 : ((a : Int) + (f.size : Int)).toNat = a + f.size := by omega
      have hpc : s.extract a (a + f.size) = piece s f.size k := by rw [piece, ha.out]
      obtain ⟨pc, hpcc⟩ : ∃ pc, piece s f.size k = pc := ⟨_, rfl⟩
      rw [hpcc] at hpc
      have HPC := Lib.hid hpcc
      clear hpcc
      obtain ⟨v', w4, hrun, hown', hgrow, -, hat⟩ := run_append_own_at (P := Try.prog) (wr.drew.alloc (.cells #[.string pc] 25)) w1.heap.size 22 22 25 i9 (.string ⟨#[]⟩) 1 16 Try.underlying22 hi hz0 hz1 hz2 rfl (by decide) v k _ (World.ownsRow.alloc (w := wr.drew) hrow _) ⟨wr.heap.size, 0, none⟩ 1 1 [.string pc] rfl (cell_one_new _ _ _) (by simp [Value.oneCell']) (by simp only [maxLen]; omega) (by omega) (by simp; omega)
      have HRUN := Lib.hid hrun
      obtain ⟨g', cap', rfl⟩ := ownsRow_succ hown'
      obtain ⟨hv1, hv2, hr2, hk2, hb2, hc2⟩ := BoxD.appended (W := wr.drew) hbx.out (by decide) hrow (by simp; omega) (Nat.le_refl _) hown' hgrow
      obtain ⟨z0, z1, z2, z3⟩ := hv1.cells
      have zf : ∀ o, w4.frozen? ⟨w1.heap.size, o, none⟩ = false := hv1.free
      have zl : w1.heap.size < w4.heap.size := hv1.lt
      have HV2 := Lib.hid hv2
      have HR2 := Lib.hid hr2
      have HB2 := Lib.hid hb2
      clear hv1 hv2 hr2 hk2 hb2 hc2 hown' hgrow hrow hat hrun
      go_wp2_with fail
      go_region_law (refine step_append_run rfl (.tmp 116) (.tmp 123) 22 22 rfl (v := v) (u := .slice (some ⟨wr.heap.size, 0, none⟩) 1 1) rfl rfl 22 rfl HRUN.out ?_)
      all_goals go_wp2_with fail
      all_goals (
        go_roundg (m - (k + 1))
        case measure => omega
        case rel =>
          refine ⟨k + 1, a + f.size, _, by omega, by simp, Lib.hid (by rw [ha.out, Nat.succ_mul]; omega), HV2, ?_, Lib.hid ((below_drew hbl.out).trans HB2.out)⟩
          rw [pieces_succ, List.map_append, HPC.out]
          exact HR2.out)
    · have hkm' : k = m := by omega
      have hlt : ¬ ((a : Int) < (s.size : Int)) := by
        have h3 := ha.out
        have h4 := HM.out
        subst hkm'
        omega
      have hR := HA.out.below hbl.out n1
      obtain ⟨r0, r1, r2, r3⟩ := hR.cells
      have rf : ∀ o, wr.frozen? ⟨w.heap.size + 1, o, none⟩ = false := hR.free
      have rl : w.heap.size + 1 < wr.heap.size := hR.lt
      have hne : w1.heap.size ≠ w.heap.size + 1 := by omega
      rw [hkm'] at hrow
      obtain ⟨m', rfl⟩ : ∃ m', m = m' + 1 := ⟨m - 1, by omega⟩
      obtain ⟨g', cap', rfl⟩ := ownsRow_succ hrow
      have HRR := Lib.hid hR
      have HROW := Lib.hid hrow
      clear hR hrow hkm'
      go_wp2
      obtain ⟨WS, hWS⟩ : ∃ WS, ((((wr.setCell ⟨w.heap.size + 1, 0, none⟩ (.int .i64 x1)).setCell ⟨w.heap.size + 1, 1, none⟩ (.int .i64 x2)).setCell ⟨w.heap.size + 1, 2, none⟩ (.int .i64 ev)).setCell ⟨w.heap.size + 1, 3, none⟩ (.slice (some ⟨g', 0, none⟩) (m' + 1) cap')) = WS := ⟨_, rfl⟩
      rw [hWS]
      have hRS : BoxD WS (w.heap.size + 1) x1 x2 ev (.slice (some ⟨g', 0, none⟩) (m' + 1) cap') := by
        rw [← hWS]
        exact cells_set (cells_set (cells_set (cells_set HRR.out 0 _) 1 _) 2 _) 3 _
      have hBS : Below w.heap.size w WS := by
        rw [← hWS]
        exact below4 (HB1.out.trans (hbl.out.mono (by omega))) (by omega)
      have hgw : w1.heap.size ≤ g' := by
        rcases HROW.out.2 with ⟨h, _⟩ | ⟨g1, cap1, cur, h, hb, _⟩
        · cases h
        · cases h; exact hb
      have hng : (Value.slice (some ⟨g', 0, none⟩) (m' + 1) cap').ownBlock ≠ some (w.heap.size + 1) := by simp [Value.ownBlock]; omega
      have hrS : WS.ownsRow w1.heap.size 25 1 (.slice (some ⟨g', 0, none⟩) (m' + 1) cap') (m' + 1) ((pieces s f.size (m' + 1)).map Value.string) := by
        rw [← hWS]
        exact (((HROW.out.kept (grown_set _ _ _ _) (.inr hng)).kept (grown_set _ _ _ _) (.inr hng)).kept (grown_set _ _ _ _) (.inr hng)).kept (grown_set _ _ _ _) (.inr hng)
      obtain ⟨q0, q1, q2, q3⟩ := hRS.cells
      exact bodyPost_ret (v := .tuple #[.agg #[.int .i64 x1, .int .i64 x2, .int .i64 ev, .slice (some ⟨g', 0, none⟩) (m' + 1) cap'], .int .i64 0]) (by simp [results, Try.results15, go_sem, *]) rfl ⟨_, _, rfl, strs_of_row hrS (pieces_small s f.size (m' + 1) (by omega)), hBS⟩

end Go.Proofs.Ythhomfchoomelaa
