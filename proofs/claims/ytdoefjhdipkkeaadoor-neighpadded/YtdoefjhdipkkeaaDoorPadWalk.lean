/-
  The walk of NeighPadded where an ARP is padded.
-/
import Derived.Test.YtdoefjhdipkkeaaDoorPadNo
namespace Go.Proofs.YtdoefjhdipkkeaaDoor
open Go.RowKit
set_option linter.unusedVariables false
set_option maxRecDepth 10000


attribute [local go_sem ↓] note_same
/-- A frame lies in a block. -/
def BoxF (W : World) (N : Nat) (m0 m1 m2 m3 m4 m5 : Int) (s : ByteArray) : Prop := W.cell? ⟨N, 0, none⟩ = some (.int .u8 255) ∧ W.cell? ⟨N, 1, none⟩ = some (.int .u8 255) ∧ W.cell? ⟨N, 2, none⟩ = some (.int .u8 255) ∧ W.cell? ⟨N, 3, none⟩ = some (.int .u8 255) ∧ W.cell? ⟨N, 4, none⟩ = some (.int .u8 255) ∧ W.cell? ⟨N, 5, none⟩ = some (.int .u8 255) ∧ W.cell? ⟨N, 6, none⟩ = some (.int .u8 m0) ∧ W.cell? ⟨N, 7, none⟩ = some (.int .u8 m1) ∧ W.cell? ⟨N, 8, none⟩ = some (.int .u8 m2) ∧ W.cell? ⟨N, 9, none⟩ = some (.int .u8 m3) ∧ W.cell? ⟨N, 10, none⟩ = some (.int .u8 m4) ∧ W.cell? ⟨N, 11, none⟩ = some (.int .u8 m5) ∧ W.cell? ⟨N, 12, none⟩ = some (.int .i64 2054) ∧ W.cell? ⟨N, 13, none⟩ = some (.string s)
theorem BoxF.below {W W' : World} {N B : Nat} {m0 m1 m2 m3 m4 m5 : Int} {s : ByteArray} (h : BoxF W N m0 m1 m2 m3 m4 m5 s) (hb : Below B W W') (hN : N < B) : BoxF W' N m0 m1 m2 m3 m4 m5 s := by
  obtain ⟨h0, h1, h2, h3, h4, h5, h6, h7, h8, h9, h10, h11, h12, h13⟩ := h
  exact ⟨(hb.cell hN).trans h0, (hb.cell hN).trans h1, (hb.cell hN).trans h2, (hb.cell hN).trans h3, (hb.cell hN).trans h4, (hb.cell hN).trans h5, (hb.cell hN).trans h6, (hb.cell hN).trans h7, (hb.cell hN).trans h8, (hb.cell hN).trans h9, (hb.cell hN).trans h10, (hb.cell hN).trans h11, (hb.cell hN).trans h12, (hb.cell hN).trans h13⟩
theorem BoxF.put {W : World} {N : Nat} {m0 m1 m2 m3 m4 m5 : Int} {s : ByteArray} (h : BoxF W N m0 m1 m2 m3 m4 m5 s) (s' : ByteArray) : BoxF (W.setCell ⟨N, 13, none⟩ (.string s')) N m0 m1 m2 m3 m4 m5 s' := by
  obtain ⟨h0, h1, h2, h3, h4, h5, h6, h7, h8, h9, h10, h11, h12, h13⟩ := h
  refine ⟨?_, ?_, ?_, ?_, ?_, ?_, ?_, ?_, ?_, ?_, ?_, ?_, ?_, ?_⟩ <;> simp [go_sem, *]
theorem BoxF.new (w : World) (m0 m1 m2 m3 m4 m5 : Int) (s : ByteArray) : BoxF (w.alloc (.cells #[.int .u8 255, .int .u8 255, .int .u8 255, .int .u8 255, .int .u8 255, .int .u8 255, .int .u8 m0, .int .u8 m1, .int .u8 m2, .int .u8 m3, .int .u8 m4, .int .u8 m5, .int .i64 2054, .string s] 41)) w.heap.size m0 m1 m2 m3 m4 m5 s := by
  refine ⟨?_, ?_, ?_, ?_, ?_, ?_, ?_, ?_, ?_, ?_, ?_, ?_, ?_, ?_⟩ <;> simp [go_sem]

set_option maxHeartbeats 8000000 in
set_option maxRecDepth 100000 in
theorem padded_in (m0 m1 m2 m3 m4 m5 : Int) (f t : ByteArray) (A : Option Addr) (n c : Nat) (bs : List Int) (w : World) (hG : Glob w) (hm : Byt [m0, m1, m2, m3, m4, m5]) (hp : Part w ⟨A, n, c, bs⟩) (hn : c ≤ 140737488351232) (h1 : f.size = 4) (h3 : n ≤ 1000) (s0 b0 : ByteArray) (hb0 : strOfNums bs = b0) (l0 : s0.size = 28) (lb : b0.size = n)
    (H1 : ∀ W, Calls Tryd.prog 9 #[.agg #[.int .u8 m0, .int .u8 m1, .int .u8 m2, .int .u8 m3, .int .u8 m4, .int .u8 m5], .string f, .string t] W (Sent (E.wire 255 255 255 255 255 255 m0 m1 m2 m3 m4 m5 2054 s0) W))
    (R1 : rd 2054 (bts s0) = (⟨1, m0, m1, m2, m3, m4, m5, f, t, false⟩, 0)) (R2 : rd 2054 (bts (s0 ++ b0)) = (⟨1, m0, m1, m2, m3, m4, m5, f, t, false⟩, 0)) (R3 : rd 2054 (bts ((s0 ++ b0).extract 0 27)) = (Nt.zero, 40)) :
    Calls Tryd.prog 8 #[.agg #[.int .u8 m0, .int .u8 m1, .int .u8 m2, .int .u8 m3, .int .u8 m4, .int .u8 m5], .agg #[.string f, .string t], .slice A n c] w fun e w' => e = .returned (.bool true) ∧ Below w.heap.size w w' := by
  have HG0 := Lib.hid ((hG.alloc (.cells #[.int .u8 m0, .int .u8 m1, .int .u8 m2, .int .u8 m3, .int .u8 m4, .int .u8 m5] 23)).alloc (.cells #[.string f, .string t] 25))
  have HF2 := Lib.hid (show Box2 ((w.alloc (.cells #[.int .u8 m0, .int .u8 m1, .int .u8 m2, .int .u8 m3, .int .u8 m4, .int .u8 m5] 23)).alloc (.cells #[.string f, .string t] 25)) (w.heap.size + 1) f t from ⟨by simp [go_sem], by simp [go_sem]⟩)
  have n1 : ((f.size : Int) != 4) = false := by simp [h1]
  have n2 : decide (1000 < (n : Int)) = false := by simp; omega
  have n3 : decide (1000 < n) = false := by simp; omega
  have HPM := Lib.hid ((hp.alloc (.cells #[.int .u8 m0, .int .u8 m1, .int .u8 m2, .int .u8 m3, .int .u8 m4, .int .u8 m5] 23)).alloc (.cells #[.string f, .string t] 25))
  have HH1 := Lib.hid H1
  have HR1 := Lib.hid R1
  have HR2 := Lib.hid R2
  have HR3 := Lib.hid R3
  have HM := Lib.hid hm
  have HB0 := Lib.hid hb0
  have HGW := Lib.hid hG
  have HSZ := Lib.hid (show (s0 ++ b0).size = 28 + n by rw [ByteArray.size_append, l0, lb])
  clear hG hm hp H1 R1 R2 R3 hb0
  go_enter Tryd.func8, Tryd.ntmps8
  go_wp2_with fail
  refine (HH1.out _).mono ?_
  rintro e w1 ⟨g1, n1', c1, rfl, ho1, hb1⟩
  have HG1 := Lib.hid (HG0.out.below hb1.out HG0.out.size)
  have HB1 := Lib.hid (below_then (((Below.refl w.heap.size w).alloc (Nat.le_refl _) (.cells #[.int .u8 m0, .int .u8 m1, .int .u8 m2, .int .u8 m3, .int .u8 m4, .int .u8 m5] 23)).alloc (by simp) (.cells #[.string f, .string t] 25)) (by simp; omega) hb1.out)
  have HPM1 := Lib.hid (HPM.out.below hb1.out)
  have HP1 := Lib.hid (Sent.part ho1.out (byt_of rfl) HM.out (by omega) (by omega))
  obtain ⟨fc, tc⟩ := HF2.out.below hb1.out (by simp)
  clear hb1 ho1
  go_wp2_with fail
  refine (decode_wire g1 n1' c1 255 255 255 255 255 255 m0 m1 m2 m3 m4 m5 2054 s0 w1 HP1.out (by omega) (by omega) (by omega)).mono ?_
  rintro e w2 ⟨rfl, hb2⟩
  have HG2 := Lib.hid ((HG1.out.below hb2 HG1.out.size).alloc (.cells #[.int .u8 255, .int .u8 255, .int .u8 255, .int .u8 255, .int .u8 255, .int .u8 255, .int .u8 m0, .int .u8 m1, .int .u8 m2, .int .u8 m3, .int .u8 m4, .int .u8 m5, .int .i64 2054, .string s0] 41))
  have HB2 := Lib.hid (below_alloc (below_then HB1.out HB1.out.size hb2) (.cells #[.int .u8 255, .int .u8 255, .int .u8 255, .int .u8 255, .int .u8 255, .int .u8 255, .int .u8 m0, .int .u8 m1, .int .u8 m2, .int .u8 m3, .int .u8 m4, .int .u8 m5, .int .i64 2054, .string s0] 41))
  have HPM2 := Lib.hid ((HPM1.out.below hb2).alloc (.cells #[.int .u8 255, .int .u8 255, .int .u8 255, .int .u8 255, .int .u8 255, .int .u8 255, .int .u8 m0, .int .u8 m1, .int .u8 m2, .int .u8 m3, .int .u8 m4, .int .u8 m5, .int .i64 2054, .string s0] 41))
  have y2 : w.heap.size ≤ w2.heap.size := by have a := HB1.out.size; have b := hb2.size; omega
  clear hb2 fc tc
  go_wp2_with fail
  refine (read_any 255 255 255 255 255 255 m0 m1 m2 m3 m4 m5 2054 s0 _ (by omega) HG2.out).mono ?_
  rintro e w3 ⟨rfl, hb3⟩
  rw [HR1.out]
  simp only [Nt.val]
  have HG3 := Lib.hid (HG2.out.below hb3 HG2.out.size)
  have HB3 := Lib.hid (below_then HB2.out HB2.out.size hb3)
  have HPM3 := Lib.hid (HPM2.out.below hb3)
  have y3 : w2.heap.size + 1 ≤ w3.heap.size := by have := hb3.size; simpa using this
  have y3' : w2.heap.size < w3.heap.size := y3
  have HF3 := Lib.hid (show w3.frozen? ⟨w2.heap.size, 13, none⟩ = false from (hb3.frozen (p := ⟨w2.heap.size, 13, none⟩) (by simp)).trans (by simp [go_sem]))
  have fz3 : w3.frozen? ⟨w2.heap.size, 13, none⟩ = false := (hb3.frozen (p := ⟨w2.heap.size, 13, none⟩) (by simp)).trans (by simp [go_sem])
  obtain ⟨x0, x1, x2, x3, x4, x5, x6, x7, x8, x9, x10, x11, x12, x13⟩ := (BoxF.new w2 m0 m1 m2 m3 m4 m5 s0).below hb3 (by simp)
  have hcv : (convert 26 9 (.slice A n c)).run Tryd.prog (w3.alloc (.cells #[.int .i64 1, .int .u8 m0, .int .u8 m1, .int .u8 m2, .int .u8 m3, .int .u8 m4, .int .u8 m5, .string f, .string t, .bool false] 38)) = .ok (.string b0) (w3.alloc (.cells #[.int .i64 1, .int .u8 m0, .int .u8 m1, .int .u8 m2, .int .u8 m3, .int .u8 m4, .int .u8 m5, .string f, .string t, .bool false] 38)) := by rw [← HB0.out]; exact convert_part (HPM3.out.alloc (.cells #[.int .i64 1, .int .u8 m0, .int .u8 m1, .int .u8 m2, .int .u8 m3, .int .u8 m4, .int .u8 m5, .string f, .string t, .bool false] 38)) 9 Tryd.underlying9
  have HX3 := Lib.hid ((BoxF.new w2 m0 m1 m2 m3 m4 m5 s0).below hb3 (by simp))
  clear hb3
  go_wp2_with fail
  have HB4 := Lib.hid (below_alloc (HB3.out.setCell (p := ⟨w2.heap.size, 13, none⟩) y2 (.string (s0 ++ b0))) (.cells #[.int .i64 1, .int .u8 m0, .int .u8 m1, .int .u8 m2, .int .u8 m3, .int .u8 m4, .int .u8 m5, .string f, .string t, .bool false] 38))
  have HX4 := Lib.hid ((HX3.out.put (s0 ++ b0)).below ((Below.refl _ _).alloc (Nat.le_refl _) (.cells #[.int .i64 1, .int .u8 m0, .int .u8 m1, .int .u8 m2, .int .u8 m3, .int .u8 m4, .int .u8 m5, .string f, .string t, .bool false] 38)) (by simpa using y3'))
  have HN1 := Lib.hid (show BoxN ((w3.setCell ⟨w2.heap.size, 13, none⟩ (.string (s0 ++ b0))).alloc (.cells #[.int .i64 1, .int .u8 m0, .int .u8 m1, .int .u8 m2, .int .u8 m3, .int .u8 m4, .int .u8 m5, .string f, .string t, .bool false] 38)) w3.heap.size 1 m0 m1 m2 m3 m4 m5 f t false by
    have h := BoxN.new (w3.setCell ⟨w2.heap.size, 13, none⟩ (.string (s0 ++ b0))) 1 m0 m1 m2 m3 m4 m5 f t false
    simpa using h)
  clear x0 x1 x2 x3 x4 x5 x6 x7 x8 x9 x10 x11 x12 x13 fz3 hcv
  refine (read_any 255 255 255 255 255 255 m0 m1 m2 m3 m4 m5 2054 (s0 ++ b0) _ (by rw [HSZ.out]; omega) (HGW.out.below HB4.out HGW.out.size)).mono ?_
  rintro e w5 ⟨rfl, hb5⟩
  rw [HR2.out]
  simp only [Nt.val]
  have HB5 := Lib.hid (below_then HB4.out HB4.out.size hb5)
  have y5 : w3.heap.size + 1 ≤ w5.heap.size := by have := hb5.size; simpa using this
  have y5' : w2.heap.size < w5.heap.size := by omega
  have fz5 : w5.frozen? ⟨w2.heap.size, 13, none⟩ = false := (hb5.frozen (p := ⟨w2.heap.size, 13, none⟩) (by simp; omega)).trans (by simp [go_sem, y3', HF3.out])
  obtain ⟨x0, x1, x2, x3, x4, x5, x6, x7, x8, x9, x10, x11, x12, x13⟩ := HX4.out.below hb5 (by simp; omega)
  have HX5 := Lib.hid (HX4.out.below hb5 (by simp; omega))
  have HN1b := Lib.hid (HN1.out.below hb5 (by simp))
  have i27 : (27 : Int) ≤ ((s0 ++ b0).size : Int) := by rw [HSZ.out]; omega
  have j27 : 27 ≤ (s0 ++ b0).size := by rw [HSZ.out]; omega
  clear hb5
  go_wp2_with fail
  have HB6 := Lib.hid (below_alloc (HB5.out.setCell (p := ⟨w2.heap.size, 13, none⟩) y2 (.string ((s0 ++ b0).extract 0 27))) (.cells #[.int .i64 1, .int .u8 m0, .int .u8 m1, .int .u8 m2, .int .u8 m3, .int .u8 m4, .int .u8 m5, .string f, .string t, .bool false] 38))
  have HN1c := Lib.hid (show BoxN ((w5.setCell ⟨w2.heap.size, 13, none⟩ (.string ((s0 ++ b0).extract 0 27))).alloc (.cells #[.int .i64 1, .int .u8 m0, .int .u8 m1, .int .u8 m2, .int .u8 m3, .int .u8 m4, .int .u8 m5, .string f, .string t, .bool false] 38)) w3.heap.size 1 m0 m1 m2 m3 m4 m5 f t false by
    obtain ⟨h0, h1, h2, h3, h4, h5, h6, h7, h8, h9⟩ := HN1b.out
    have d : ¬ (w2.heap.size = w3.heap.size) := by omega
    have d' : w3.heap.size < w5.heap.size := by omega
    refine ⟨?_, ?_, ?_, ?_, ?_, ?_, ?_, ?_, ?_, ?_⟩ <;> simp [go_sem, *])
  have HN2 := Lib.hid (show BoxN ((w5.setCell ⟨w2.heap.size, 13, none⟩ (.string ((s0 ++ b0).extract 0 27))).alloc (.cells #[.int .i64 1, .int .u8 m0, .int .u8 m1, .int .u8 m2, .int .u8 m3, .int .u8 m4, .int .u8 m5, .string f, .string t, .bool false] 38)) w5.heap.size 1 m0 m1 m2 m3 m4 m5 f t false by
    have h := BoxN.new (w5.setCell ⟨w2.heap.size, 13, none⟩ (.string ((s0 ++ b0).extract 0 27))) 1 m0 m1 m2 m3 m4 m5 f t false
    simpa using h)
  clear x0 x1 x2 x3 x4 x5 x6 x7 x8 x9 x10 x11 x12 x13 fz5
  refine (read_any 255 255 255 255 255 255 m0 m1 m2 m3 m4 m5 2054 ((s0 ++ b0).extract 0 27) _ (by simp; omega) (HGW.out.below HB6.out HGW.out.size)).mono ?_
  rintro e w7 ⟨rfl, hb7⟩
  rw [HR3.out]
  simp only [Nt.val, Nt.zero]
  have HB7 := Lib.hid (below_alloc (below_then HB6.out HB6.out.size hb7) (.cells #[.int .i64 0, .int .u8 0, .int .u8 0, .int .u8 0, .int .u8 0, .int .u8 0, .int .u8 0, .string ⟨#[]⟩, .string ⟨#[]⟩, .bool false] 38))
  have HN1d := Lib.hid (HN1c.out.below (hb7.trans (((Below.refl _ _).alloc (Nat.le_refl _) (.cells #[.int .i64 0, .int .u8 0, .int .u8 0, .int .u8 0, .int .u8 0, .int .u8 0, .int .u8 0, .string ⟨#[]⟩, .string ⟨#[]⟩, .bool false] 38)).mono hb7.size)) (by simp; omega))
  have HN2d := Lib.hid (HN2.out.below (hb7.trans (((Below.refl _ _).alloc (Nat.le_refl _) (.cells #[.int .i64 0, .int .u8 0, .int .u8 0, .int .u8 0, .int .u8 0, .int .u8 0, .int .u8 0, .string ⟨#[]⟩, .string ⟨#[]⟩, .bool false] 38)).mono hb7.size)) (by simp))
  have y7 : w5.heap.size + 1 ≤ w7.heap.size := by have := hb7.size; simpa using this
  clear hb7
  go_wp2_with fail
  refine (alive_any _ (HGW.out.below HB7.out HGW.out.size)).mono ?_
  rintro e w8 ⟨rfl, hb8⟩
  have HB8 := Lib.hid (below_then HB7.out HB7.out.size hb8)
  obtain ⟨i0, i1, i2, i3, i4, i5, i6, i7, i8, i9⟩ := HN1d.out.below hb8 (by simp; omega)
  obtain ⟨j0, j1, j2, j3, j4, j5, j6, j7, j8, j9⟩ := HN2d.out.below hb8 (by simp; omega)
  clear hb8
  go_wp2
  go_ret
  exact ⟨rfl, HB8.out⟩
theorem padded_walk (m0 m1 m2 m3 m4 m5 : Int) (f t : ByteArray) (A : Option Addr) (n c : Nat) (bs : List Int) (w : World) (hG : Glob w) (hm : Byt [m0, m1, m2, m3, m4, m5]) (hf : f.size ≤ 140737488351232) (ht : t.size ≤ 140737488351232) (hp : Part w ⟨A, n, c, bs⟩) (hn : c ≤ 140737488351232) : Calls Tryd.prog 8 #[.agg #[.int .u8 m0, .int .u8 m1, .int .u8 m2, .int .u8 m3, .int .u8 m4, .int .u8 m5], .agg #[.string f, .string t], .slice A n c] w fun e w' => e = .returned (.bool true) ∧ Below w.heap.size w w' := by
  by_cases h : alikeB f t = true
  · obtain ⟨h1 | h1, h2⟩ := alike_sizes h
    · have h3 : t.size = 4 := by omega
      by_cases h4 : 1000 < n
      · exact padded_long m0 m1 m2 m3 m4 m5 f t A n c bs w hG hm h1 h3 h4
      · have hbb : Byt bs := hp.2.2.1
        have hlb : bs.length = n := hp.1
        have hab : Byt (arpB 1 [m0, m1, m2, m3, m4, m5] f [0, 0, 0, 0, 0, 0] t) := arpB_byt (by omega) hm (byt_of rfl)
        have eM : bts ((strOfNums (arpB 1 [m0, m1, m2, m3, m4, m5] f [0, 0, 0, 0, 0, 0] t)) ++ strOfNums bs) = arpB 1 [m0, m1, m2, m3, m4, m5] f [0, 0, 0, 0, 0, 0] t ++ bs := by rw [bts_append, bts_strOfNums hab, bts_strOfNums hbb]
        exact padded_in m0 m1 m2 m3 m4 m5 f t A n c bs w hG hm hp hn h1 (by omega) (strOfNums (arpB 1 [m0, m1, m2, m3, m4, m5] f [0, 0, 0, 0, 0, 0] t)) (strOfNums bs) rfl (by rw [strOfNums_size, arpB_len, h1, h3]; rfl) (by rw [strOfNums_size, hlb])
          (fun W => ask_four m0 m1 m2 m3 m4 m5 f t W hm h1 h3) (rd_of_arp 1 m0 m1 m2 m3 m4 m5 f 0 0 0 0 0 0 t (.inl rfl) hm (byt_of rfl) h1 h3)
          (by rw [eM]; exact rdArp_arpB 1 m0 m1 m2 m3 m4 m5 f 0 0 0 0 0 0 t bs (.inl rfl) h1 h3) (by rw [bts_extract]; exact rdArp_cut _)
    · exact padded_six m0 m1 m2 m3 m4 m5 f t A n c bs w hG hm h1 (by omega)
  · exact padded_no m0 m1 m2 m3 m4 m5 f t A n c bs w hG hf ht (by simpa using h)

end Go.Proofs.YtdoefjhdipkkeaaDoor
