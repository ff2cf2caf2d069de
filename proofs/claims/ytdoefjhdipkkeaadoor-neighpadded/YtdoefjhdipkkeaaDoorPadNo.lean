/-
  The ways of NeighPadded on which nothing is padded.
-/
import Derived.Test.YtdoefjhdipkkeaaDoorLBase
namespace Go.Proofs.YtdoefjhdipkkeaaDoor
open Go.RowKit
set_option linter.unusedVariables false
set_option maxRecDepth 10000

theorem rd_of_arp (k : Int) (m0 m1 m2 m3 m4 m5 : Int) (s : ByteArray) (o0 o1 o2 o3 o4 o5 : Int) (t : ByteArray) (hk : k = 1 ∨ k = 2) (hm : Byt [m0, m1, m2, m3, m4, m5]) (ho : Byt [o0, o1, o2, o3, o4, o5]) (h1 : s.size = 4) (h2 : t.size = 4) :
    rd 2054 (bts (strOfNums (arpB k [m0, m1, m2, m3, m4, m5] s [o0, o1, o2, o3, o4, o5] t))) = (⟨k, m0, m1, m2, m3, m4, m5, s, t, decide (k = 2)⟩, 0) := by
  rw [bts_strOfNums (arpB_byt (by omega) hm ho)]
  have h := rdArp_arpB k m0 m1 m2 m3 m4 m5 s o0 o1 o2 o3 o4 o5 t [] hk h1 h2
  rw [List.append_nil] at h
  exact h

set_option maxHeartbeats 2000000 in
theorem padded_no (m0 m1 m2 m3 m4 m5 : Int) (f t : ByteArray) (A : Option Addr) (n c : Nat) (bs : List Int) (w : World) (hG : Glob w) (hf : f.size ≤ 140737488351232) (ht : t.size ≤ 140737488351232) (h : alikeB f t = false) : Calls Tryd.prog 8 #[.agg #[.int .u8 m0, .int .u8 m1, .int .u8 m2, .int .u8 m3, .int .u8 m4, .int .u8 m5], .agg #[.string f, .string t], .slice A n c] w fun e w' => e = .returned (.bool true) ∧ Below w.heap.size w w' := by
  have HG0 := Lib.hid ((hG.alloc (.cells #[.int .u8 m0, .int .u8 m1, .int .u8 m2, .int .u8 m3, .int .u8 m4, .int .u8 m5] 23)).alloc (.cells #[.string f, .string t] 25))
  have HF2 := Lib.hid (show Box2 ((w.alloc (.cells #[.int .u8 m0, .int .u8 m1, .int .u8 m2, .int .u8 m3, .int .u8 m4, .int .u8 m5] 23)).alloc (.cells #[.string f, .string t] 25)) (w.heap.size + 1) f t from ⟨by simp [go_sem], by simp [go_sem]⟩)
  have HH := Lib.hid h
  clear h hG
  go_enter Tryd.func8, Tryd.ntmps8
  go_wp2_with fail
  refine (ask_no m0 m1 m2 m3 m4 m5 f t _ hf ht HH.out).mono ?_
  rintro e w1 ⟨rfl, hb1⟩
  have HG1 := Lib.hid (HG0.out.below hb1 HG0.out.size)
  have HB1 := Lib.hid (below_then (((Below.refl w.heap.size w).alloc (Nat.le_refl _) (.cells #[.int .u8 m0, .int .u8 m1, .int .u8 m2, .int .u8 m3, .int .u8 m4, .int .u8 m5] 23)).alloc (by simp) (.cells #[.string f, .string t] 25)) (by simp; omega) hb1)
  clear hb1
  go_wp2_with fail
  refine (alive_any _ HG1.out).mono ?_
  rintro e w9 ⟨rfl, hb9⟩
  have HB9 := Lib.hid (below_then HB1.out HB1.out.size hb9)
  clear hb9
  go_wp2
  go_ret
  exact ⟨rfl, HB9.out⟩

set_option maxHeartbeats 2000000 in
theorem padded_six (m0 m1 m2 m3 m4 m5 : Int) (f t : ByteArray) (A : Option Addr) (n c : Nat) (bs : List Int) (w : World) (hG : Glob w) (hm : Byt [m0, m1, m2, m3, m4, m5]) (h1 : f.size = 16) (h2 : t.size = 16) : Calls Tryd.prog 8 #[.agg #[.int .u8 m0, .int .u8 m1, .int .u8 m2, .int .u8 m3, .int .u8 m4, .int .u8 m5], .agg #[.string f, .string t], .slice A n c] w fun e w' => e = .returned (.bool true) ∧ Below w.heap.size w w' := by
  have HG0 := Lib.hid ((hG.alloc (.cells #[.int .u8 m0, .int .u8 m1, .int .u8 m2, .int .u8 m3, .int .u8 m4, .int .u8 m5] 23)).alloc (.cells #[.string f, .string t] 25))
  have HF2 := Lib.hid (show Box2 ((w.alloc (.cells #[.int .u8 m0, .int .u8 m1, .int .u8 m2, .int .u8 m3, .int .u8 m4, .int .u8 m5] 23)).alloc (.cells #[.string f, .string t] 25)) (w.heap.size + 1) f t from ⟨by simp [go_sem], by simp [go_sem]⟩)
  have n1 : ((f.size : Int) != 4) = true := by simp [h1]
  clear hG
  go_enter Tryd.func8, Tryd.ntmps8
  go_wp2_with fail
  refine (ask_six m0 m1 m2 m3 m4 m5 f t _ HG0.out hm h1 h2).mono ?_
  rintro e w1 ⟨g1, n1', c1, rfl, ho1, hb1⟩
  have HG1 := Lib.hid (HG0.out.below hb1.out HG0.out.size)
  have HB1 := Lib.hid (below_then (((Below.refl w.heap.size w).alloc (Nat.le_refl _) (.cells #[.int .u8 m0, .int .u8 m1, .int .u8 m2, .int .u8 m3, .int .u8 m4, .int .u8 m5] 23)).alloc (by simp) (.cells #[.string f, .string t] 25)) (by simp; omega) hb1.out)
  obtain ⟨fc, tc⟩ := HF2.out.below hb1.out (by simp)
  clear hb1 ho1
  go_wp2_with fail
  refine (alive_any _ HG1.out).mono ?_
  rintro e w9 ⟨rfl, hb9⟩
  have HB9 := Lib.hid (below_then HB1.out HB1.out.size hb9)
  clear hb9
  go_wp2
  go_ret
  exact ⟨rfl, HB9.out⟩

set_option maxHeartbeats 2000000 in
theorem padded_long (m0 m1 m2 m3 m4 m5 : Int) (f t : ByteArray) (A : Option Addr) (n c : Nat) (bs : List Int) (w : World) (hG : Glob w) (hm : Byt [m0, m1, m2, m3, m4, m5]) (h1 : f.size = 4) (h2 : t.size = 4) (h3 : 1000 < n) : Calls Tryd.prog 8 #[.agg #[.int .u8 m0, .int .u8 m1, .int .u8 m2, .int .u8 m3, .int .u8 m4, .int .u8 m5], .agg #[.string f, .string t], .slice A n c] w fun e w' => e = .returned (.bool true) ∧ Below w.heap.size w w' := by
  have HG0 := Lib.hid ((hG.alloc (.cells #[.int .u8 m0, .int .u8 m1, .int .u8 m2, .int .u8 m3, .int .u8 m4, .int .u8 m5] 23)).alloc (.cells #[.string f, .string t] 25))
  have HF2 := Lib.hid (show Box2 ((w.alloc (.cells #[.int .u8 m0, .int .u8 m1, .int .u8 m2, .int .u8 m3, .int .u8 m4, .int .u8 m5] 23)).alloc (.cells #[.string f, .string t] 25)) (w.heap.size + 1) f t from ⟨by simp [go_sem], by simp [go_sem]⟩)
  have n1 : ((f.size : Int) != 4) = false := by simp [h1]
  have n2 : decide (1000 < (n : Int)) = true := by simp; omega
  have n3 : decide (1000 < n) = true := by simp; omega
  clear hG
  go_enter Tryd.func8, Tryd.ntmps8
  go_wp2_with fail
  refine (ask_four m0 m1 m2 m3 m4 m5 f t _ hm h1 h2).mono ?_
  rintro e w1 ⟨g1, n1', c1, rfl, ho1, hb1⟩
  have HG1 := Lib.hid (HG0.out.below hb1.out HG0.out.size)
  have HB1 := Lib.hid (below_then (((Below.refl w.heap.size w).alloc (Nat.le_refl _) (.cells #[.int .u8 m0, .int .u8 m1, .int .u8 m2, .int .u8 m3, .int .u8 m4, .int .u8 m5] 23)).alloc (by simp) (.cells #[.string f, .string t] 25)) (by simp; omega) hb1.out)
  obtain ⟨fc, tc⟩ := HF2.out.below hb1.out (by simp)
  clear hb1 ho1
  go_wp2_with fail
  refine (alive_any _ HG1.out).mono ?_
  rintro e w9 ⟨rfl, hb9⟩
  have HB9 := Lib.hid (below_then HB1.out HB1.out.size hb9)
  clear hb9
  go_wp2
  go_ret
  exact ⟨rfl, HB9.out⟩


end Go.Proofs.YtdoefjhdipkkeaaDoor
