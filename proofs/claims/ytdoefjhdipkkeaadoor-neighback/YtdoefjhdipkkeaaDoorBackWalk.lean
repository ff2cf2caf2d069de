/-
  The walk of NeighBack, by the kind of the addresses.
-/
import Derived.Test.YtdoefjhdipkkeaaDoorLBase
namespace Go.Proofs.YtdoefjhdipkkeaaDoor
open Go.RowKit
set_option linter.unusedVariables false
set_option maxRecDepth 10000


attribute [local go_sem ↓] E.mac_eq note_same
set_option maxHeartbeats 8000000 in
set_option maxRecDepth 100000 in
theorem back_four (m0 m1 m2 m3 m4 m5 a0 a1 a2 a3 a4 a5 p0 p1 p2 p3 p4 p5 r0 r1 r2 r3 r4 r5 ty : Int) (f t s1 s2 s3 : ByteArray) (w : World) (hG : Glob w) (hm : Byt [m0, m1, m2, m3, m4, m5]) (ha : Byt [a0, a1, a2, a3, a4, a5]) (hp : Byt [p0, p1, p2, p3, p4, p5]) (hr : Byt [r0, r1, r2, r3, r4, r5]) (hf : f.size = 4) (t1 : 1536 ≤ ty) (t2 : ty ≤ 65535) (l1 : s1.size ≤ 1500) (l2 : s2.size ≤ 1500) (l3 : s3.size ≤ 1500)
    (H1 : ∀ W, Glob W → Calls Tryd.prog 9 #[.agg #[.int .u8 m0, .int .u8 m1, .int .u8 m2, .int .u8 m3, .int .u8 m4, .int .u8 m5], .string f, .string t] W (Sent (E.wire p0 p1 p2 p3 p4 p5 m0 m1 m2 m3 m4 m5 ty s1) W))
    (H2 : ∀ W, Glob W → Calls Tryd.prog 11 #[.agg #[.int .u8 m0, .int .u8 m1, .int .u8 m2, .int .u8 m3, .int .u8 m4, .int .u8 m5], .string f, .agg #[.int .u8 a0, .int .u8 a1, .int .u8 a2, .int .u8 a3, .int .u8 a4, .int .u8 a5], .string t] W (Sent (E.wire a0 a1 a2 a3 a4 a5 m0 m1 m2 m3 m4 m5 ty s2) W))
    (H3 : ∀ W, Glob W → Calls Tryd.prog 13 #[.agg #[.int .u8 m0, .int .u8 m1, .int .u8 m2, .int .u8 m3, .int .u8 m4, .int .u8 m5], .string f] W (Sent (E.wire r0 r1 r2 r3 r4 r5 m0 m1 m2 m3 m4 m5 ty s3) W))
    (R1 : rd ty (bts s1) = (⟨1, m0, m1, m2, m3, m4, m5, f, t, false⟩, 0)) (R2 : rd ty (bts s2) = (⟨2, m0, m1, m2, m3, m4, m5, f, t, true⟩, 0)) (R3 : rd ty (bts s3) = (⟨1, m0, m1, m2, m3, m4, m5, f, f, false⟩, 0)) :
    Calls Tryd.prog 5 #[.agg #[.int .u8 m0, .int .u8 m1, .int .u8 m2, .int .u8 m3, .int .u8 m4, .int .u8 m5], .agg #[.int .u8 a0, .int .u8 a1, .int .u8 a2, .int .u8 a3, .int .u8 a4, .int .u8 a5], .agg #[.string f, .string t]] w fun e w' => e = .returned (.bool true) ∧ Below w.heap.size w w' := by
  have g16 : ((f.size : Int) == 16) = false := by simp [hf]
  have HM := Lib.hid hm
  have HA := Lib.hid ha
  have HP := Lib.hid hp
  have HR := Lib.hid hr
  have HH1 := Lib.hid H1
  have HH2 := Lib.hid H2
  have HH3 := Lib.hid H3
  have HR1 := Lib.hid R1
  have HR2 := Lib.hid R2
  have HR3 := Lib.hid R3
  have HM6 := Lib.hid (((Box6.new w m0 m1 m2 m3 m4 m5).below ((Below.refl _ _).alloc (Nat.le_refl _) (.cells #[.int .u8 a0, .int .u8 a1, .int .u8 a2, .int .u8 a3, .int .u8 a4, .int .u8 a5] 23)) (by simp)).below ((Below.refl _ _).alloc (Nat.le_refl _) (.cells #[.string f, .string t] 25)) (by simp; omega))
  have HA6 := Lib.hid (show Box6 (((w.alloc (.cells #[.int .u8 m0, .int .u8 m1, .int .u8 m2, .int .u8 m3, .int .u8 m4, .int .u8 m5] 23)).alloc (.cells #[.int .u8 a0, .int .u8 a1, .int .u8 a2, .int .u8 a3, .int .u8 a4, .int .u8 a5] 23)).alloc (.cells #[.string f, .string t] 25)) (w.heap.size + 1) a0 a1 a2 a3 a4 a5 by have h := (Box6.new (w.alloc (.cells #[.int .u8 m0, .int .u8 m1, .int .u8 m2, .int .u8 m3, .int .u8 m4, .int .u8 m5] 23)) a0 a1 a2 a3 a4 a5).below ((Below.refl _ _).alloc (Nat.le_refl _) (.cells #[.string f, .string t] 25)) (by simp); simpa using h)
  have HF2 := Lib.hid (show Box2 (((w.alloc (.cells #[.int .u8 m0, .int .u8 m1, .int .u8 m2, .int .u8 m3, .int .u8 m4, .int .u8 m5] 23)).alloc (.cells #[.int .u8 a0, .int .u8 a1, .int .u8 a2, .int .u8 a3, .int .u8 a4, .int .u8 a5] 23)).alloc (.cells #[.string f, .string t] 25)) (w.heap.size + 2) f t from ⟨by simp [go_sem], by simp [go_sem]⟩)
  have HG0 := Lib.hid (((hG.alloc (.cells #[.int .u8 m0, .int .u8 m1, .int .u8 m2, .int .u8 m3, .int .u8 m4, .int .u8 m5] 23)).alloc (.cells #[.int .u8 a0, .int .u8 a1, .int .u8 a2, .int .u8 a3, .int .u8 a4, .int .u8 a5] 23)).alloc (.cells #[.string f, .string t] 25))
  have HB0 := Lib.hid (show Below (w.heap.size + 3) (((w.alloc (.cells #[.int .u8 m0, .int .u8 m1, .int .u8 m2, .int .u8 m3, .int .u8 m4, .int .u8 m5] 23)).alloc (.cells #[.int .u8 a0, .int .u8 a1, .int .u8 a2, .int .u8 a3, .int .u8 a4, .int .u8 a5] 23)).alloc (.cells #[.string f, .string t] 25)) (((w.alloc (.cells #[.int .u8 m0, .int .u8 m1, .int .u8 m2, .int .u8 m3, .int .u8 m4, .int .u8 m5] 23)).alloc (.cells #[.int .u8 a0, .int .u8 a1, .int .u8 a2, .int .u8 a3, .int .u8 a4, .int .u8 a5] 23)).alloc (.cells #[.string f, .string t] 25)) from Below.refl _ _)
  have HBW := Lib.hid (show Below w.heap.size w (((w.alloc (.cells #[.int .u8 m0, .int .u8 m1, .int .u8 m2, .int .u8 m3, .int .u8 m4, .int .u8 m5] 23)).alloc (.cells #[.int .u8 a0, .int .u8 a1, .int .u8 a2, .int .u8 a3, .int .u8 a4, .int .u8 a5] 23)).alloc (.cells #[.string f, .string t] 25)) from (((Below.refl _ _).alloc (Nat.le_refl _) _).alloc (by simp) _).alloc (by simp; omega) _)
  clear hm ha hp hr H1 H2 H3 R1 R2 R3 hG
  go_enter Tryd.func5, Tryd.ntmps5
  go_wp2_with fail
  refine (HH1.out _ HG0.out).mono ?_
  rintro e w1 ⟨g1, n1, c1, rfl, ho1, hb1⟩
  have HB1 := Lib.hid (below_then HB0.out (by simp) hb1.out)
  have HG1 := Lib.hid (HG0.out.below hb1.out HG0.out.size)
  have HP1 := Lib.hid (Sent.part ho1.out HP.out HM.out t1 t2)
  have z1 : w.heap.size + 3 ≤ w1.heap.size := by have := HB1.out.size; simpa using this
  clear ho1 hb1
  obtain ⟨m0c, m1c, m2c, m3c, m4c, m5c⟩ := HM6.out.below HB1.out (by omega)
  obtain ⟨a0c, a1c, a2c, a3c, a4c, a5c⟩ := HA6.out.below HB1.out (by omega)
  obtain ⟨fc, tc⟩ := HF2.out.below HB1.out (by omega)
  go_wp2_with fail
  refine (HH2.out _ HG1.out).mono ?_
  rintro e w2 ⟨g2, n2, c2, rfl, ho2, hb2⟩
  have HB2 := Lib.hid (below_then HB1.out z1 hb2.out)
  have HG2 := Lib.hid (HG1.out.below hb2.out HG1.out.size)
  have HP1b := Lib.hid (HP1.out.below hb2.out)
  have HP2 := Lib.hid (Sent.part ho2.out HA.out HM.out t1 t2)
  have z2 : w.heap.size + 3 ≤ w2.heap.size := by have := HB2.out.size; simpa using this
  clear ho2 hb2
  clear m0c m1c m2c m3c m4c m5c a0c a1c a2c a3c a4c a5c fc tc
  obtain ⟨m0c, m1c, m2c, m3c, m4c, m5c⟩ := HM6.out.below HB2.out (by omega)
  obtain ⟨a0c, a1c, a2c, a3c, a4c, a5c⟩ := HA6.out.below HB2.out (by omega)
  obtain ⟨fc, tc⟩ := HF2.out.below HB2.out (by omega)
  go_wp2_with fail
  refine (HH3.out _ HG2.out).mono ?_
  rintro e w3 ⟨g3, n3, c3, rfl, ho3, hb3⟩
  have HB3 := Lib.hid (below_then HB2.out z2 hb3.out)
  have HG3 := Lib.hid (HG2.out.below hb3.out HG2.out.size)
  have HP1c := Lib.hid (HP1b.out.below hb3.out)
  have HP2c := Lib.hid (HP2.out.below hb3.out)
  have HP3 := Lib.hid (Sent.part ho3.out HR.out HM.out t1 t2)
  have z3 : w.heap.size + 3 ≤ w3.heap.size := by have := HB3.out.size; simpa using this
  clear ho3 hb3
  clear m0c m1c m2c m3c m4c m5c a0c a1c a2c a3c a4c a5c fc tc
  go_wp2_with fail
  refine (lread_wire g1 n1 c1 p0 p1 p2 p3 p4 p5 m0 m1 m2 m3 m4 m5 ty s1 1 m0 m1 m2 m3 m4 m5 f t false 0 w3 HG3.out HP1c.out t1 t2 l1 HR1.out).mono ?_
  rintro e w4 ⟨rfl, hb4⟩
  have HB4 := Lib.hid ((below_then HB3.out z3 hb4).alloc (by have := hb4.size; omega) (.cells #[.int .i64 1, .int .u8 m0, .int .u8 m1, .int .u8 m2, .int .u8 m3, .int .u8 m4, .int .u8 m5, .string f, .string t, .bool false] 38))
  have HG4 := Lib.hid ((HG3.out.below hb4 HG3.out.size).alloc (.cells #[.int .i64 1, .int .u8 m0, .int .u8 m1, .int .u8 m2, .int .u8 m3, .int .u8 m4, .int .u8 m5, .string f, .string t, .bool false] 38))
  have HP2d := Lib.hid ((HP2c.out.below hb4).alloc (.cells #[.int .i64 1, .int .u8 m0, .int .u8 m1, .int .u8 m2, .int .u8 m3, .int .u8 m4, .int .u8 m5, .string f, .string t, .bool false] 38))
  have HP3d := Lib.hid ((HP3.out.below hb4).alloc (.cells #[.int .i64 1, .int .u8 m0, .int .u8 m1, .int .u8 m2, .int .u8 m3, .int .u8 m4, .int .u8 m5, .string f, .string t, .bool false] 38))
  have HN1 := Lib.hid (BoxN.new w4 1 m0 m1 m2 m3 m4 m5 f t false)
  have z4 : w.heap.size + 3 ≤ w4.heap.size := by have := hb4.size; omega
  clear hb4
  go_wp2_with fail
  refine (lread_wire g2 n2 c2 a0 a1 a2 a3 a4 a5 m0 m1 m2 m3 m4 m5 ty s2 2 m0 m1 m2 m3 m4 m5 f t true 0 _ HG4.out HP2d.out t1 t2 l2 HR2.out).mono ?_
  rintro e w5 ⟨rfl, hb5⟩
  have HB5 := Lib.hid ((below_then HB4.out (by simp; omega) hb5).alloc (by have := hb5.size; simp at this; omega) (.cells #[.int .i64 2, .int .u8 m0, .int .u8 m1, .int .u8 m2, .int .u8 m3, .int .u8 m4, .int .u8 m5, .string f, .string t, .bool true] 38))
  have HG5 := Lib.hid ((HG4.out.below hb5 HG4.out.size).alloc (.cells #[.int .i64 2, .int .u8 m0, .int .u8 m1, .int .u8 m2, .int .u8 m3, .int .u8 m4, .int .u8 m5, .string f, .string t, .bool true] 38))
  have HP3e := Lib.hid ((HP3d.out.below hb5).alloc (.cells #[.int .i64 2, .int .u8 m0, .int .u8 m1, .int .u8 m2, .int .u8 m3, .int .u8 m4, .int .u8 m5, .string f, .string t, .bool true] 38))
  have z5 : w4.heap.size + 1 ≤ w5.heap.size := by have := hb5.size; simpa using this
  have HN1b := Lib.hid ((HN1.out.below hb5 (by simp)).below ((Below.refl _ _).alloc (Nat.le_refl _) (.cells #[.int .i64 2, .int .u8 m0, .int .u8 m1, .int .u8 m2, .int .u8 m3, .int .u8 m4, .int .u8 m5, .string f, .string t, .bool true] 38)) (by omega))
  have HN2 := Lib.hid (BoxN.new w5 2 m0 m1 m2 m3 m4 m5 f t true)
  clear hb5
  go_wp2_with fail
  refine (lread_wire g3 n3 c3 r0 r1 r2 r3 r4 r5 m0 m1 m2 m3 m4 m5 ty s3 1 m0 m1 m2 m3 m4 m5 f f false 0 _ HG5.out HP3e.out t1 t2 l3 HR3.out).mono ?_
  rintro e w6 ⟨rfl, hb6⟩
  have HB6 := Lib.hid ((below_then HB5.out (by simp; omega) hb6).alloc (by have := hb6.size; simp at this; omega) (.cells #[.int .i64 1, .int .u8 m0, .int .u8 m1, .int .u8 m2, .int .u8 m3, .int .u8 m4, .int .u8 m5, .string f, .string f, .bool false] 38))
  have HG6 := Lib.hid ((HG5.out.below hb6 HG5.out.size).alloc (.cells #[.int .i64 1, .int .u8 m0, .int .u8 m1, .int .u8 m2, .int .u8 m3, .int .u8 m4, .int .u8 m5, .string f, .string f, .bool false] 38))
  have z6 : w5.heap.size + 1 ≤ w6.heap.size := by have := hb6.size; simpa using this
  have HN1c := Lib.hid ((HN1b.out.below hb6 (by simp; omega)).below ((Below.refl _ _).alloc (Nat.le_refl _) (.cells #[.int .i64 1, .int .u8 m0, .int .u8 m1, .int .u8 m2, .int .u8 m3, .int .u8 m4, .int .u8 m5, .string f, .string f, .bool false] 38)) (by omega))
  have HN2b := Lib.hid ((HN2.out.below hb6 (by simp)).below ((Below.refl _ _).alloc (Nat.le_refl _) (.cells #[.int .i64 1, .int .u8 m0, .int .u8 m1, .int .u8 m2, .int .u8 m3, .int .u8 m4, .int .u8 m5, .string f, .string f, .bool false] 38)) (by omega))
  have HN3 := Lib.hid (BoxN.new w6 1 m0 m1 m2 m3 m4 m5 f f false)
  clear hb6
  obtain ⟨fc, tc⟩ := HF2.out.below HB6.out (by omega)
  go_wp2_with fail
  refine (alive_any _ HG6.out).mono ?_
  rintro e w7 ⟨rfl, hb7⟩
  have HB7 := Lib.hid (below_then HB6.out (by simp; omega) hb7)
  obtain ⟨i0, i1, i2, i3, i4, i5, i6, i7, i8, i9⟩ := HN1c.out.below hb7 (by simp; omega)
  obtain ⟨j0, j1, j2, j3, j4, j5, j6, j7, j8, j9⟩ := HN2b.out.below hb7 (by simp; omega)
  obtain ⟨k0, k1, k2, k3, k4, k5, k6, k7, k8, k9⟩ := HN3.out.below hb7 (by simp)
  clear hb7 fc tc
  obtain ⟨m0c, m1c, m2c, m3c, m4c, m5c⟩ := HM6.out.below HB7.out (by omega)
  obtain ⟨a0c, a1c, a2c, a3c, a4c, a5c⟩ := HA6.out.below HB7.out (by omega)
  obtain ⟨fc, tc⟩ := HF2.out.below HB7.out (by omega)
  go_wp2
  go_ret
  exact ⟨rfl, HBW.out.trans (HB7.out.mono (by omega))⟩

set_option maxHeartbeats 8000000 in
set_option maxRecDepth 100000 in
theorem back_six (m0 m1 m2 m3 m4 m5 a0 a1 a2 a3 a4 a5 p0 p1 p2 p3 p4 p5 r0 r1 r2 r3 r4 r5 ty : Int) (f t s1 s2 s3 v3 : ByteArray) (w : World) (hG : Glob w) (hm : Byt [m0, m1, m2, m3, m4, m5]) (ha : Byt [a0, a1, a2, a3, a4, a5]) (hp : Byt [p0, p1, p2, p3, p4, p5]) (hr : Byt [r0, r1, r2, r3, r4, r5]) (hf : f.size = 16) (t1 : 1536 ≤ ty) (t2 : ty ≤ 65535) (l1 : s1.size ≤ 1500) (l2 : s2.size ≤ 1500) (l3 : s3.size ≤ 1500)
    (H1 : ∀ W, Glob W → Calls Tryd.prog 9 #[.agg #[.int .u8 m0, .int .u8 m1, .int .u8 m2, .int .u8 m3, .int .u8 m4, .int .u8 m5], .string f, .string t] W (Sent (E.wire p0 p1 p2 p3 p4 p5 m0 m1 m2 m3 m4 m5 ty s1) W))
    (H2 : ∀ W, Glob W → Calls Tryd.prog 11 #[.agg #[.int .u8 m0, .int .u8 m1, .int .u8 m2, .int .u8 m3, .int .u8 m4, .int .u8 m5], .string f, .agg #[.int .u8 a0, .int .u8 a1, .int .u8 a2, .int .u8 a3, .int .u8 a4, .int .u8 a5], .string t] W (Sent (E.wire a0 a1 a2 a3 a4 a5 m0 m1 m2 m3 m4 m5 ty s2) W))
    (H3 : ∀ W, Glob W → Calls Tryd.prog 13 #[.agg #[.int .u8 m0, .int .u8 m1, .int .u8 m2, .int .u8 m3, .int .u8 m4, .int .u8 m5], .string f] W (Sent (E.wire r0 r1 r2 r3 r4 r5 m0 m1 m2 m3 m4 m5 ty s3) W))
    (R1 : rd ty (bts s1) = (⟨1, m0, m1, m2, m3, m4, m5, f, t, false⟩, 0)) (R2 : rd ty (bts s2) = (⟨2, m0, m1, m2, m3, m4, m5, f, t, true⟩, 0)) (R3 : rd ty (bts s3) = (⟨2, m0, m1, m2, m3, m4, m5, f, v3, false⟩, 0)) :
    Calls Tryd.prog 5 #[.agg #[.int .u8 m0, .int .u8 m1, .int .u8 m2, .int .u8 m3, .int .u8 m4, .int .u8 m5], .agg #[.int .u8 a0, .int .u8 a1, .int .u8 a2, .int .u8 a3, .int .u8 a4, .int .u8 a5], .agg #[.string f, .string t]] w fun e w' => e = .returned (.bool true) ∧ Below w.heap.size w w' := by
  have g16 : ((f.size : Int) == 16) = true := by simp [hf]
  have HM := Lib.hid hm
  have HA := Lib.hid ha
  have HP := Lib.hid hp
  have HR := Lib.hid hr
  have HH1 := Lib.hid H1
  have HH2 := Lib.hid H2
  have HH3 := Lib.hid H3
  have HR1 := Lib.hid R1
  have HR2 := Lib.hid R2
  have HR3 := Lib.hid R3
  have HM6 := Lib.hid (((Box6.new w m0 m1 m2 m3 m4 m5).below ((Below.refl _ _).alloc (Nat.le_refl _) (.cells #[.int .u8 a0, .int .u8 a1, .int .u8 a2, .int .u8 a3, .int .u8 a4, .int .u8 a5] 23)) (by simp)).below ((Below.refl _ _).alloc (Nat.le_refl _) (.cells #[.string f, .string t] 25)) (by simp; omega))
  have HA6 := Lib.hid (show Box6 (((w.alloc (.cells #[.int .u8 m0, .int .u8 m1, .int .u8 m2, .int .u8 m3, .int .u8 m4, .int .u8 m5] 23)).alloc (.cells #[.int .u8 a0, .int .u8 a1, .int .u8 a2, .int .u8 a3, .int .u8 a4, .int .u8 a5] 23)).alloc (.cells #[.string f, .string t] 25)) (w.heap.size + 1) a0 a1 a2 a3 a4 a5 by have h := (Box6.new (w.alloc (.cells #[.int .u8 m0, .int .u8 m1, .int .u8 m2, .int .u8 m3, .int .u8 m4, .int .u8 m5] 23)) a0 a1 a2 a3 a4 a5).below ((Below.refl _ _).alloc (Nat.le_refl _) (.cells #[.string f, .string t] 25)) (by simp); simpa using h)
  have HF2 := Lib.hid (show Box2 (((w.alloc (.cells #[.int .u8 m0, .int .u8 m1, .int .u8 m2, .int .u8 m3, .int .u8 m4, .int .u8 m5] 23)).alloc (.cells #[.int .u8 a0, .int .u8 a1, .int .u8 a2, .int .u8 a3, .int .u8 a4, .int .u8 a5] 23)).alloc (.cells #[.string f, .string t] 25)) (w.heap.size + 2) f t from ⟨by simp [go_sem], by simp [go_sem]⟩)
  have HG0 := Lib.hid (((hG.alloc (.cells #[.int .u8 m0, .int .u8 m1, .int .u8 m2, .int .u8 m3, .int .u8 m4, .int .u8 m5] 23)).alloc (.cells #[.int .u8 a0, .int .u8 a1, .int .u8 a2, .int .u8 a3, .int .u8 a4, .int .u8 a5] 23)).alloc (.cells #[.string f, .string t] 25))
  have HB0 := Lib.hid (show Below (w.heap.size + 3) (((w.alloc (.cells #[.int .u8 m0, .int .u8 m1, .int .u8 m2, .int .u8 m3, .int .u8 m4, .int .u8 m5] 23)).alloc (.cells #[.int .u8 a0, .int .u8 a1, .int .u8 a2, .int .u8 a3, .int .u8 a4, .int .u8 a5] 23)).alloc (.cells #[.string f, .string t] 25)) (((w.alloc (.cells #[.int .u8 m0, .int .u8 m1, .int .u8 m2, .int .u8 m3, .int .u8 m4, .int .u8 m5] 23)).alloc (.cells #[.int .u8 a0, .int .u8 a1, .int .u8 a2, .int .u8 a3, .int .u8 a4, .int .u8 a5] 23)).alloc (.cells #[.string f, .string t] 25)) from Below.refl _ _)
  have HBW := Lib.hid (show Below w.heap.size w (((w.alloc (.cells #[.int .u8 m0, .int .u8 m1, .int .u8 m2, .int .u8 m3, .int .u8 m4, .int .u8 m5] 23)).alloc (.cells #[.int .u8 a0, .int .u8 a1, .int .u8 a2, .int .u8 a3, .int .u8 a4, .int .u8 a5] 23)).alloc (.cells #[.string f, .string t] 25)) from (((Below.refl _ _).alloc (Nat.le_refl _) _).alloc (by simp) _).alloc (by simp; omega) _)
  clear hm ha hp hr H1 H2 H3 R1 R2 R3 hG
  go_enter Tryd.func5, Tryd.ntmps5
  go_wp2_with fail
  refine (HH1.out _ HG0.out).mono ?_
  rintro e w1 ⟨g1, n1, c1, rfl, ho1, hb1⟩
  have HB1 := Lib.hid (below_then HB0.out (by simp) hb1.out)
  have HG1 := Lib.hid (HG0.out.below hb1.out HG0.out.size)
  have HP1 := Lib.hid (Sent.part ho1.out HP.out HM.out t1 t2)
  have z1 : w.heap.size + 3 ≤ w1.heap.size := by have := HB1.out.size; simpa using this
  clear ho1 hb1
  obtain ⟨m0c, m1c, m2c, m3c, m4c, m5c⟩ := HM6.out.below HB1.out (by omega)
  obtain ⟨a0c, a1c, a2c, a3c, a4c, a5c⟩ := HA6.out.below HB1.out (by omega)
  obtain ⟨fc, tc⟩ := HF2.out.below HB1.out (by omega)
  go_wp2_with fail
  refine (HH2.out _ HG1.out).mono ?_
  rintro e w2 ⟨g2, n2, c2, rfl, ho2, hb2⟩
  have HB2 := Lib.hid (below_then HB1.out z1 hb2.out)
  have HG2 := Lib.hid (HG1.out.below hb2.out HG1.out.size)
  have HP1b := Lib.hid (HP1.out.below hb2.out)
  have HP2 := Lib.hid (Sent.part ho2.out HA.out HM.out t1 t2)
  have z2 : w.heap.size + 3 ≤ w2.heap.size := by have := HB2.out.size; simpa using this
  clear ho2 hb2
  clear m0c m1c m2c m3c m4c m5c a0c a1c a2c a3c a4c a5c fc tc
  obtain ⟨m0c, m1c, m2c, m3c, m4c, m5c⟩ := HM6.out.below HB2.out (by omega)
  obtain ⟨a0c, a1c, a2c, a3c, a4c, a5c⟩ := HA6.out.below HB2.out (by omega)
  obtain ⟨fc, tc⟩ := HF2.out.below HB2.out (by omega)
  go_wp2_with fail
  refine (HH3.out _ HG2.out).mono ?_
  rintro e w3 ⟨g3, n3, c3, rfl, ho3, hb3⟩
  have HB3 := Lib.hid (below_then HB2.out z2 hb3.out)
  have HG3 := Lib.hid (HG2.out.below hb3.out HG2.out.size)
  have HP1c := Lib.hid (HP1b.out.below hb3.out)
  have HP2c := Lib.hid (HP2.out.below hb3.out)
  have HP3 := Lib.hid (Sent.part ho3.out HR.out HM.out t1 t2)
  have z3 : w.heap.size + 3 ≤ w3.heap.size := by have := HB3.out.size; simpa using this
  clear ho3 hb3
  clear m0c m1c m2c m3c m4c m5c a0c a1c a2c a3c a4c a5c fc tc
  go_wp2_with fail
  refine (lread_wire g1 n1 c1 p0 p1 p2 p3 p4 p5 m0 m1 m2 m3 m4 m5 ty s1 1 m0 m1 m2 m3 m4 m5 f t false 0 w3 HG3.out HP1c.out t1 t2 l1 HR1.out).mono ?_
  rintro e w4 ⟨rfl, hb4⟩
  have HB4 := Lib.hid ((below_then HB3.out z3 hb4).alloc (by have := hb4.size; omega) (.cells #[.int .i64 1, .int .u8 m0, .int .u8 m1, .int .u8 m2, .int .u8 m3, .int .u8 m4, .int .u8 m5, .string f, .string t, .bool false] 38))
  have HG4 := Lib.hid ((HG3.out.below hb4 HG3.out.size).alloc (.cells #[.int .i64 1, .int .u8 m0, .int .u8 m1, .int .u8 m2, .int .u8 m3, .int .u8 m4, .int .u8 m5, .string f, .string t, .bool false] 38))
  have HP2d := Lib.hid ((HP2c.out.below hb4).alloc (.cells #[.int .i64 1, .int .u8 m0, .int .u8 m1, .int .u8 m2, .int .u8 m3, .int .u8 m4, .int .u8 m5, .string f, .string t, .bool false] 38))
  have HP3d := Lib.hid ((HP3.out.below hb4).alloc (.cells #[.int .i64 1, .int .u8 m0, .int .u8 m1, .int .u8 m2, .int .u8 m3, .int .u8 m4, .int .u8 m5, .string f, .string t, .bool false] 38))
  have HN1 := Lib.hid (BoxN.new w4 1 m0 m1 m2 m3 m4 m5 f t false)
  have z4 : w.heap.size + 3 ≤ w4.heap.size := by have := hb4.size; omega
  clear hb4
  go_wp2_with fail
  refine (lread_wire g2 n2 c2 a0 a1 a2 a3 a4 a5 m0 m1 m2 m3 m4 m5 ty s2 2 m0 m1 m2 m3 m4 m5 f t true 0 _ HG4.out HP2d.out t1 t2 l2 HR2.out).mono ?_
  rintro e w5 ⟨rfl, hb5⟩
  have HB5 := Lib.hid ((below_then HB4.out (by simp; omega) hb5).alloc (by have := hb5.size; simp at this; omega) (.cells #[.int .i64 2, .int .u8 m0, .int .u8 m1, .int .u8 m2, .int .u8 m3, .int .u8 m4, .int .u8 m5, .string f, .string t, .bool true] 38))
  have HG5 := Lib.hid ((HG4.out.below hb5 HG4.out.size).alloc (.cells #[.int .i64 2, .int .u8 m0, .int .u8 m1, .int .u8 m2, .int .u8 m3, .int .u8 m4, .int .u8 m5, .string f, .string t, .bool true] 38))
  have HP3e := Lib.hid ((HP3d.out.below hb5).alloc (.cells #[.int .i64 2, .int .u8 m0, .int .u8 m1, .int .u8 m2, .int .u8 m3, .int .u8 m4, .int .u8 m5, .string f, .string t, .bool true] 38))
  have z5 : w4.heap.size + 1 ≤ w5.heap.size := by have := hb5.size; simpa using this
  have HN1b := Lib.hid ((HN1.out.below hb5 (by simp)).below ((Below.refl _ _).alloc (Nat.le_refl _) (.cells #[.int .i64 2, .int .u8 m0, .int .u8 m1, .int .u8 m2, .int .u8 m3, .int .u8 m4, .int .u8 m5, .string f, .string t, .bool true] 38)) (by omega))
  have HN2 := Lib.hid (BoxN.new w5 2 m0 m1 m2 m3 m4 m5 f t true)
  clear hb5
  go_wp2_with fail
  refine (lread_wire g3 n3 c3 r0 r1 r2 r3 r4 r5 m0 m1 m2 m3 m4 m5 ty s3 2 m0 m1 m2 m3 m4 m5 f v3 false 0 _ HG5.out HP3e.out t1 t2 l3 HR3.out).mono ?_
  rintro e w6 ⟨rfl, hb6⟩
  have HB6 := Lib.hid ((below_then HB5.out (by simp; omega) hb6).alloc (by have := hb6.size; simp at this; omega) (.cells #[.int .i64 2, .int .u8 m0, .int .u8 m1, .int .u8 m2, .int .u8 m3, .int .u8 m4, .int .u8 m5, .string f, .string v3, .bool false] 38))
  have HG6 := Lib.hid ((HG5.out.below hb6 HG5.out.size).alloc (.cells #[.int .i64 2, .int .u8 m0, .int .u8 m1, .int .u8 m2, .int .u8 m3, .int .u8 m4, .int .u8 m5, .string f, .string v3, .bool false] 38))
  have z6 : w5.heap.size + 1 ≤ w6.heap.size := by have := hb6.size; simpa using this
  have HN1c := Lib.hid ((HN1b.out.below hb6 (by simp; omega)).below ((Below.refl _ _).alloc (Nat.le_refl _) (.cells #[.int .i64 2, .int .u8 m0, .int .u8 m1, .int .u8 m2, .int .u8 m3, .int .u8 m4, .int .u8 m5, .string f, .string v3, .bool false] 38)) (by omega))
  have HN2b := Lib.hid ((HN2.out.below hb6 (by simp)).below ((Below.refl _ _).alloc (Nat.le_refl _) (.cells #[.int .i64 2, .int .u8 m0, .int .u8 m1, .int .u8 m2, .int .u8 m3, .int .u8 m4, .int .u8 m5, .string f, .string v3, .bool false] 38)) (by omega))
  have HN3 := Lib.hid (BoxN.new w6 2 m0 m1 m2 m3 m4 m5 f v3 false)
  clear hb6
  obtain ⟨fc, tc⟩ := HF2.out.below HB6.out (by omega)
  go_wp2_with fail
  refine (alive_any _ HG6.out).mono ?_
  rintro e w7 ⟨rfl, hb7⟩
  have HB7 := Lib.hid (below_then HB6.out (by simp; omega) hb7)
  obtain ⟨i0, i1, i2, i3, i4, i5, i6, i7, i8, i9⟩ := HN1c.out.below hb7 (by simp; omega)
  obtain ⟨j0, j1, j2, j3, j4, j5, j6, j7, j8, j9⟩ := HN2b.out.below hb7 (by simp; omega)
  obtain ⟨k0, k1, k2, k3, k4, k5, k6, k7, k8, k9⟩ := HN3.out.below hb7 (by simp)
  clear hb7 fc tc
  obtain ⟨m0c, m1c, m2c, m3c, m4c, m5c⟩ := HM6.out.below HB7.out (by omega)
  obtain ⟨a0c, a1c, a2c, a3c, a4c, a5c⟩ := HA6.out.below HB7.out (by omega)
  obtain ⟨fc, tc⟩ := HF2.out.below HB7.out (by omega)
  go_wp2
  go_ret
  exact ⟨rfl, HBW.out.trans (HB7.out.mono (by omega))⟩


end Go.Proofs.YtdoefjhdipkkeaaDoor
