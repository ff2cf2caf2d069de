/-
  The walk of NeighTurned where a byte is turned.
-/
import Derived.Test.YtdoefjhdipkkeaaDoorTurnFacts
namespace Go.Proofs.YtdoefjhdipkkeaaDoor
open Go.RowKit
set_option linter.unusedVariables false
set_option maxRecDepth 10000

attribute [local go_sem ↓] note_same
set_option maxHeartbeats 8000000 in
set_option maxRecDepth 100000 in
theorem turned_in (m0 m1 m2 m3 m4 m5 : Int) (f t : ByteArray) (k : Nat) (y : Int) (w : World) (hG : Glob w) (hm : Byt [m0, m1, m2, m3, m4, m5]) (h1 : f.size = 16) (h2 : t.size = 16) (h4 : k ≤ 31) (hy : 1 ≤ y ∧ y ≤ 255) : Calls Tryd.prog 6 #[.agg #[.int .u8 m0, .int .u8 m1, .int .u8 m2, .int .u8 m3, .int .u8 m4, .int .u8 m5], .agg #[.string f, .string t], .agg #[.int .i64 (k : Int), .int .i64 y]] w fun e w' => e = .returned (.bool true) ∧ Below w.heap.size w w' := by
  have n1 : ((f.size : Int) != 16) = false := by simp [h1]
  have n2 : ((t.size : Int) != 16) = false := by simp [h2]
  have n3 : decide ((k : Int) < 0) = false := by simp
  have n4 : decide (31 < (k : Int)) = false := by simp; omega
  have n4' : decide (31 < k) = false := by simp; omega
  have n5 : decide (y < 1) = false := by simp; omega
  have n6 : decide (255 < y) = false := by simp; omega
  have hB := ndS_byt f t 96 f m0 m1 m2 m3 m4 m5 h1 h2 h1 (by omega) hm 136 0 2 1 (byt_of rfl)
  have hn : (ndS f t 136 0 96 f 2 1 [m0, m1, m2, m3, m4, m5]).length = 32 := by rw [← strOfNums_size]; exact ndS_size f t 136 0 96 f 2 1 m0 m1 m2 m3 m4 m5 h1
  obtain ⟨v, hv⟩ : ∃ v, v = byteAt (ndS f t 136 0 96 f 2 1 [m0, m1, m2, m3, m4, m5]) k := ⟨_, rfl⟩
  have hvb : 0 ≤ v ∧ v ≤ 255 := by rw [hv]; exact byteAt_bd hB k
  obtain ⟨z, hz, hzb, hzx⟩ := xor_byte v y hvb hy
  obtain ⟨r, hd, hr⟩ := rd_turn f t 96 f m0 m1 m2 m3 m4 m5 h1 h2 h1 (by omega) hm k z (by omega) hzb (by rw [← hv]; exact hzx)
  have hkp := nd_okp f t 136 0 96 f 2 1 m0 m1 m2 m3 m4 m5 h1 h2 h1
  have wb := wire_byt hkp
  have wl : (wire f t 58 255 (strOfNums (ndS f t 136 0 96 f 2 1 [m0, m1, m2, m3, m4, m5]))).length = 72 := by rw [wire_len hkp, ndS_size f t 136 0 96 f 2 1 m0 m1 m2 m3 m4 m5 h1, if_pos h1]
  have hset := wire_set f t (ndS f t 136 0 96 f 2 1 [m0, m1, m2, m3, m4, m5]) k z h1 h2 hB hzb
  have wb' : Byt ((wire f t 58 255 (strOfNums (ndS f t 136 0 96 f 2 1 [m0, m1, m2, m3, m4, m5]))).set (40 + k) z) := fun q hq => by
    rcases List.mem_or_eq_of_mem_set hq with hq | rfl
    · exact wb q hq
    · exact hzb
  have HR1 := Lib.hid (show rd 34525 (bts (strOfNums (wire f t 58 255 (strOfNums (ndS f t 136 0 96 f 2 1 [m0, m1, m2, m3, m4, m5]))))) = (⟨2, m0, m1, m2, m3, m4, m5, f, t, true⟩, 0) by rw [bts_strOfNums wb]; exact rd_tell f t 96 f m0 m1 m2 m3 m4 m5 h1 h2 h1 (by omega) hm)
  have HR2 := Lib.hid (show rd 34525 (bts (strOfNums ((wire f t 58 255 (strOfNums (ndS f t 136 0 96 f 2 1 [m0, m1, m2, m3, m4, m5]))).set (40 + k) z))) = (⟨0, 0, 0, 0, 0, 0, 0, ⟨#[]⟩, ⟨#[]⟩, false⟩, r) by rw [bts_strOfNums wb', hset]; exact hd)
  have HES := Lib.hid (show (E.wire m0 m1 m2 m3 m4 m5 m0 m1 m2 m3 m4 m5 34525 (strOfNums (wire f t 58 255 (strOfNums (ndS f t 136 0 96 f 2 1 [m0, m1, m2, m3, m4, m5]))))).set (54 + k) z = E.wire m0 m1 m2 m3 m4 m5 m0 m1 m2 m3 m4 m5 34525 (strOfNums ((wire f t 58 255 (strOfNums (ndS f t 136 0 96 f 2 1 [m0, m1, m2, m3, m4, m5]))).set (40 + k) z)) by
    rw [show 54 + k = 14 + (40 + k) by omega]
    exact ewire_set m0 m1 m2 m3 m4 m5 m0 m1 m2 m3 m4 m5 34525 _ _ _ z (by rw [bts_strOfNums wb, bts_strOfNums wb']))
  have HL1 := Lib.hid (show (strOfNums (wire f t 58 255 (strOfNums (ndS f t 136 0 96 f 2 1 [m0, m1, m2, m3, m4, m5])))).size = 72 by rw [strOfNums_size, wl])
  have HL2 := Lib.hid (show (strOfNums ((wire f t 58 255 (strOfNums (ndS f t 136 0 96 f 2 1 [m0, m1, m2, m3, m4, m5]))).set (40 + k) z)).size ≤ 1500 by rw [strOfNums_size, List.length_set, wl]; omega)
  have HVK := Lib.hid (show (E.wire m0 m1 m2 m3 m4 m5 m0 m1 m2 m3 m4 m5 34525 (strOfNums (wire f t 58 255 (strOfNums (ndS f t 136 0 96 f 2 1 [m0, m1, m2, m3, m4, m5])))))[54 + k]?.getD 0 = v by
    have e1 : (E.wire m0 m1 m2 m3 m4 m5 m0 m1 m2 m3 m4 m5 34525 (strOfNums (wire f t 58 255 (strOfNums (ndS f t 136 0 96 f 2 1 [m0, m1, m2, m3, m4, m5]))))) = [m0, m1, m2, m3, m4, m5, m0, m1, m2, m3, m4, m5, 34525 / 256, 34525 % 256] ++ (wire f t 58 255 (strOfNums (ndS f t 136 0 96 f 2 1 [m0, m1, m2, m3, m4, m5]))) := by rw [E.wire, bts_strOfNums wb]
    have e2 : (wire f t 58 255 (strOfNums (ndS f t 136 0 96 f 2 1 [m0, m1, m2, m3, m4, m5]))) = ([96, 0, 0, 0, (32 : Int) / 256 % 256, (32 : Int) % 256, 58, 255] ++ (bts f ++ bts t)) ++ (ndS f t 136 0 96 f 2 1 [m0, m1, m2, m3, m4, m5]) := by
      rw [wire, if_pos h1, wire6, bts_strOfNums hB, strOfNums_size, hn]; simp only [List.append_assoc]; rfl
    rw [hv, e1, List.getElem?_append_right (by simp; omega), e2, List.getElem?_append_right (by simp [bts_len, h1, h2]; omega)]
    simp [bts_len, h1, h2, byteAt]
    congr 2; omega)
  have nr : (r == 0) = false := by simp [hr]
  have HM := Lib.hid hm
  have HG0 := Lib.hid (((hG.alloc (.cells #[.int .u8 m0, .int .u8 m1, .int .u8 m2, .int .u8 m3, .int .u8 m4, .int .u8 m5] 23)).alloc (.cells #[.string f, .string t] 25)).alloc (.cells #[.int .i64 (k : Int), .int .i64 y] 48))
  have HX2 := Lib.hid (show (((w.alloc (.cells #[.int .u8 m0, .int .u8 m1, .int .u8 m2, .int .u8 m3, .int .u8 m4, .int .u8 m5] 23)).alloc (.cells #[.string f, .string t] 25)).alloc (.cells #[.int .i64 (k : Int), .int .i64 y] 48)).cell? ⟨w.heap.size + 2, 0, none⟩ = some (.int .i64 (k : Int)) ∧ (((w.alloc (.cells #[.int .u8 m0, .int .u8 m1, .int .u8 m2, .int .u8 m3, .int .u8 m4, .int .u8 m5] 23)).alloc (.cells #[.string f, .string t] 25)).alloc (.cells #[.int .i64 (k : Int), .int .i64 y] 48)).cell? ⟨w.heap.size + 2, 1, none⟩ = some (.int .i64 y) from ⟨by simp [go_sem], by simp [go_sem]⟩)
  have HZ := Lib.hid hzb
  have HWB := Lib.hid wb'
  have i1 : (0 : Int) ≤ 54 + (k : Int) := by omega
  have i2 : 54 + (k : Int) < 86 := by omega
  clear hB hn hv hd hr hkp wb wl hset wb' hm hG hzb hzx
  go_enter Tryd.func6, Tryd.ntmps6
  go_wp2_with fail
  refine (tell_six m0 m1 m2 m3 m4 m5 f m0 m1 m2 m3 m4 m5 t _ HG0.out HM.out HM.out h1 h2).mono ?_
  rintro e w1 ⟨g, n1, c, rfl, ho1, hb1⟩
  have hn1 := ho1.out.1
  rw [E.wire_len, HL1.out] at hn1
  obtain rfl : 86 = n1 := hn1
  have HB1 := Lib.hid (below_then (Below.refl (((w.alloc (.cells #[.int .u8 m0, .int .u8 m1, .int .u8 m2, .int .u8 m3, .int .u8 m4, .int .u8 m5] 23)).alloc (.cells #[.string f, .string t] 25)).alloc (.cells #[.int .i64 (k : Int), .int .i64 y] 48)).heap.size (((w.alloc (.cells #[.int .u8 m0, .int .u8 m1, .int .u8 m2, .int .u8 m3, .int .u8 m4, .int .u8 m5] 23)).alloc (.cells #[.string f, .string t] 25)).alloc (.cells #[.int .i64 (k : Int), .int .i64 y] 48))) (Nat.le_refl _) hb1.out)
  have HG1 := Lib.hid (HG0.out.below hb1.out HG0.out.size)
  have HO1 := Lib.hid ho1.out
  have HP1 := Lib.hid (Sent.part ho1.out HM.out HM.out (by omega) (by omega))
  have z1 : w.heap.size + 3 ≤ w1.heap.size := by have := HB1.out.size; simpa using this
  clear ho1 hb1
  go_wp2_with fail
  refine (lread_wire g 86 c m0 m1 m2 m3 m4 m5 m0 m1 m2 m3 m4 m5 34525 (strOfNums (wire f t 58 255 (strOfNums (ndS f t 136 0 96 f 2 1 [m0, m1, m2, m3, m4, m5])))) 2 m0 m1 m2 m3 m4 m5 f t true 0 w1 HG1.out HP1.out (by omega) (by omega) (by rw [HL1.out]; omega) HR1.out).mono ?_
  rintro e w2 ⟨rfl, hb2⟩
  have HB2 := Lib.hid (below_then HB1.out (by simpa using z1) hb2)
  have HG2 := Lib.hid (HG1.out.below hb2 HG1.out.size)
  have HO2 := Lib.hid (HO1.out.below hb2)
  have z2 : w.heap.size + 3 ≤ w2.heap.size := by have := HB2.out.size; simpa using this
  have z3 : w.heap.size + 2 < w2.heap.size := z2
  have hgl : g < w2.heap.size := HO2.out.lt
  have hgB : w.heap.size + 3 ≤ g := by have := HO2.out.2.1; simpa using this
  have cx : w2.cell? ⟨w.heap.size + 2, 0, none⟩ = some (.int .i64 (k : Int)) := (HB2.out.cell (by simp)).trans HX2.out.1
  have cy : w2.cell? ⟨w.heap.size + 2, 1, none⟩ = some (.int .i64 y) := (HB2.out.cell (by simp)).trans HX2.out.2
  have ck : w2.cell? ⟨g, 54 + k, none⟩ = some (.int .u8 v) := by rw [← HVK.out]; exact HO2.out.cell (54 + k) (by omega)
  have fk : w2.frozen? ⟨g, 54 + k, none⟩ = false := HO2.out.free (54 + k) (by omega)
  clear hb2
  go_wp2_with fail
  go_region
  have hos := (HO2.out.stored (54 + k) z).1
  rw [HES.out] at hos
  have HP3 := Lib.hid ((Sent.part hos HM.out HM.out (by omega) (by omega)).alloc (.cells #[.int .i64 2, .int .u8 m0, .int .u8 m1, .int .u8 m2, .int .u8 m3, .int .u8 m4, .int .u8 m5, .string f, .string t, .bool true] 38))
  have HB3 := Lib.hid ((HB2.out.setCell (p := ⟨g, 54 + k, none⟩) (by simpa using hgB) (.int .u8 z)).alloc (by simp; omega) (.cells #[.int .i64 2, .int .u8 m0, .int .u8 m1, .int .u8 m2, .int .u8 m3, .int .u8 m4, .int .u8 m5, .string f, .string t, .bool true] 38))
  have HG3 := Lib.hid (HG0.out.below HB3.out HG0.out.size)
  have HN1 := Lib.hid (show ((w2.setCell ⟨g, 54 + k, none⟩ (.int .u8 z)).alloc (.cells #[.int .i64 2, .int .u8 m0, .int .u8 m1, .int .u8 m2, .int .u8 m3, .int .u8 m4, .int .u8 m5, .string f, .string t, .bool true] 38)).cell? ⟨w2.heap.size, 0, none⟩ = some (.int .i64 2) by
    have h := (BoxN.new (w2.setCell ⟨g, 54 + k, none⟩ (.int .u8 z)) 2 m0 m1 m2 m3 m4 m5 f t true).1
    simpa using h)
  clear hos cx cy ck fk
  go_wp2_with fail
  refine (lread_wire g 86 c m0 m1 m2 m3 m4 m5 m0 m1 m2 m3 m4 m5 34525 (strOfNums ((wire f t 58 255 (strOfNums (ndS f t 136 0 96 f 2 1 [m0, m1, m2, m3, m4, m5]))).set (40 + k) z)) 0 0 0 0 0 0 0 ⟨#[]⟩ ⟨#[]⟩ false r _ HG3.out.drew HP3.out (by omega) (by omega) HL2.out HR2.out).mono ?_
  rintro e w4 ⟨rfl, hb4'⟩
  rw [nr]
  have hb4 := below_left hb4'
  have HB4 := Lib.hid (below_then HB3.out (by simp; omega) hb4)
  have HG4 := Lib.hid (HG3.out.below hb4 HG3.out.size)
  have HN1b := Lib.hid ((hb4.cell (p := ⟨w2.heap.size, 0, none⟩) (by simp)).trans HN1.out)
  have z4 : w2.heap.size + 1 ≤ w4.heap.size := by have := hb4.size; simpa using this
  clear hb4 hb4'
  go_wp2_with fail
  refine (alive_any _ (HG4.out.alloc _)).mono ?_
  rintro e w5 ⟨rfl, hb5⟩
  have HB5 := Lib.hid (below_then (HB4.out.alloc (by simp; omega) _) (by simp; omega) hb5)
  have q0 : w5.cell? ⟨w2.heap.size, 0, none⟩ = some (.int .i64 2) := (hb5.cell (p := ⟨w2.heap.size, 0, none⟩) (by simp; omega)).trans ((World.cell?_alloc_lt w4 _ ⟨w2.heap.size, 0, none⟩ z4).trans HN1b.out)
  obtain ⟨i0, i1, i2, i3, i4, i5, i6, i7, i8, i9⟩ := (BoxN.new w4 0 0 0 0 0 0 0 ⟨#[]⟩ ⟨#[]⟩ false).below hb5 (by simp)
  clear hb5
  go_wp2
  go_ret
  exact ⟨rfl, ((((Below.refl w.heap.size w).alloc (Nat.le_refl _) _).alloc (by simp) _).alloc (by simp; omega) _).trans (HB5.out.mono (by simp; omega))⟩

end Go.Proofs.YtdoefjhdipkkeaaDoor
