/-
  Ways of IpvSums.
-/
import Derived.Test.YtindajjcekgjeaaSumsPre
namespace Go.Proofs.Ytindajjcekgjeaa
open Go.ChangeShapes Go.WideShapes Go.ChangeAt Go.RowKit
set_option linter.unusedVariables false

set_option maxHeartbeats 1000000 in
theorem sums_no_bad (f t : ByteArray) (p l : Int) (s : ByteArray) (A : Option Addr) (m k : Nat) (bs : List Int) (w : World) (hf : f.size ≤ 140737488351232) (ht : t.size ≤ 140737488351232) (hs : s.size ≤ 140737488351232) (h : ¬ Okp f t p l s) (hq : Part w ⟨A, m, k, bs⟩) (hm : m ≤ 140737488351232) (f2 t2 : ByteArray) (p2 l2 : Int) (s2 : ByteArray) (r : Int) (hd : dec bs = (⟨f2, t2, p2, l2, s2⟩, r)) (hr : r ≠ 0) :
    Calls Try.prog 7 #[.agg #[.string f, .string t, .int .i64 p, .int .i64 l, .string s], .slice A m k] w fun e w' => e = .returned (.bool true) ∧ Below w.heap.size w w' := by
  have dr : decide (r = 0) = false := by simpa using hr
  have dn : (r != 0) = true := by simpa using hr
  clear hr
  have HD := Lib.hid hd
  have HQ0 := Lib.hid hq
  clear hd hq
  go_enter Try.func7, Try.ntmps7
  go_wp2_with fail
  refine (encode_no f t p l s _ hf ht hs h).mono ?_
  rintro e w1 ⟨rfl, hb1⟩
  have HBx := Lib.hid (show Below (w.heap.size + 1) (w.alloc (.cells #[.string f, .string t, .int .i64 p, .int .i64 l, .string s] 24)) w1 by simpa using hb1)
  have HQ := Lib.hid ((HQ0.out.alloc _).below hb1)
  have z1 : w.heap.size + 1 ≤ w1.heap.size := by have := HBx.out.size; simpa using this
  clear hb1 HQ0
  go_wp2_with fail
  refine (decode_any A m k bs _ HQ.out (by omega) f2 t2 p2 l2 s2 _ HD.out).mono ?_
  rintro e w2 ⟨rfl, hb2⟩
  have z2 := hb2.size
  try simp at z2
  have HB2 := Lib.hid (below_then (B := w.heap.size + 1) HBx.out (by first | omega | (simp; omega)) hb2)
  have HQ2 := Lib.hid (HQ.out.below hb2)
  clear hb2
  go_wp2_with fail
  refine (alive_any _).mono ?_
  rintro e w9 ⟨rfl, hb9⟩
  have hb5 := below_then (B := w2.heap.size) ((Below.refl w2.heap.size w2).alloc (Nat.le_refl _) (.cells #[.string f2, .string t2, .int .i64 p2, .int .i64 l2, .string s2] 24)) (by simp) hb9
  obtain ⟨y0, y1, y2, y3, y4⟩ := (Boxed.new w2 f2 t2 p2 l2 s2).below hb9 (by simp)
  have z9 := hb9.size
  simp at z9
  have u2 : w2.heap.size < w9.heap.size := by omega
  have HB5 := Lib.hid (below_then HB2.out (by omega) hb5)
  have HQ9 := Lib.hid (HQ2.out.below hb5)
  clear hb9 hb5
  go_wp2
  go_ret
  exact ⟨by first | rfl | simp, below_box HB5.out⟩

set_option maxHeartbeats 1000000 in
theorem sums_no_six (f t : ByteArray) (p l : Int) (s : ByteArray) (A : Option Addr) (m k : Nat) (bs : List Int) (w : World) (hf : f.size ≤ 140737488351232) (ht : t.size ≤ 140737488351232) (hs : s.size ≤ 140737488351232) (h : ¬ Okp f t p l s) (hq : Part w ⟨A, m, k, bs⟩) (hm : m ≤ 140737488351232) (f2 t2 : ByteArray) (p2 l2 : Int) (s2 : ByteArray) (r : Int) (hd : dec bs = (⟨f2, t2, p2, l2, s2⟩, r)) (hr : r = 0) (g6 : f2.size = 16) :
    Calls Try.prog 7 #[.agg #[.string f, .string t, .int .i64 p, .int .i64 l, .string s], .slice A m k] w fun e w' => e = .returned (.bool true) ∧ Below w.heap.size w w' := by
  subst hr
  have hfs : f2.size ≤ 16 := by omega
  have G6 := Lib.hid (show decide (f2.size = 16) = true by simpa using g6)
  clear g6
  have HD := Lib.hid hd
  have HQ0 := Lib.hid hq
  clear hd hq
  go_enter Try.func7, Try.ntmps7
  go_wp2_with fail
  refine (encode_no f t p l s _ hf ht hs h).mono ?_
  rintro e w1 ⟨rfl, hb1⟩
  have HBx := Lib.hid (show Below (w.heap.size + 1) (w.alloc (.cells #[.string f, .string t, .int .i64 p, .int .i64 l, .string s] 24)) w1 by simpa using hb1)
  have HQ := Lib.hid ((HQ0.out.alloc _).below hb1)
  have z1 : w.heap.size + 1 ≤ w1.heap.size := by have := HBx.out.size; simpa using this
  clear hb1 HQ0
  go_wp2_with fail
  refine (decode_any A m k bs _ HQ.out (by omega) f2 t2 p2 l2 s2 _ HD.out).mono ?_
  rintro e w2 ⟨rfl, hb2⟩
  have z2 := hb2.size
  try simp at z2
  have HB2 := Lib.hid (below_then (B := w.heap.size + 1) HBx.out (by first | omega | (simp; omega)) hb2)
  have HQ2 := Lib.hid (HQ.out.below hb2)
  clear hb2
  go_wp2_with fail
  refine (alive_any _).mono ?_
  rintro e w9 ⟨rfl, hb9⟩
  have hb5 := below_then (B := w2.heap.size) ((Below.refl w2.heap.size w2).alloc (Nat.le_refl _) (.cells #[.string f2, .string t2, .int .i64 p2, .int .i64 l2, .string s2] 24)) (by simp) hb9
  obtain ⟨y0, y1, y2, y3, y4⟩ := (Boxed.new w2 f2 t2 p2 l2 s2).below hb9 (by simp)
  have z9 := hb9.size
  simp at z9
  have u2 : w2.heap.size < w9.heap.size := by omega
  have HB5 := Lib.hid (below_then HB2.out (by omega) hb5)
  have HQ9 := Lib.hid (HQ2.out.below hb5)
  clear hb9 hb5
  go_wp2_with (go_at_call 19; refine (six_at (by omega) G6.out).mono ?_; rintro e w6 ⟨rfl, rfl⟩)
  go_ret
  exact ⟨by first | rfl | simp, below_box HB5.out⟩

set_option maxHeartbeats 1000000 in
theorem sums_no_four (f t : ByteArray) (p l : Int) (s : ByteArray) (A : Option Addr) (m k : Nat) (bs : List Int) (w : World) (hf : f.size ≤ 140737488351232) (ht : t.size ≤ 140737488351232) (hs : s.size ≤ 140737488351232) (h : ¬ Okp f t p l s) (hq : Part w ⟨A, m, k, bs⟩) (hm : m ≤ 140737488351232) (f2 t2 : ByteArray) (p2 l2 : Int) (s2 : ByteArray) (r : Int) (hd : dec bs = (⟨f2, t2, p2, l2, s2⟩, r)) (hr : r = 0) (g4 : f2.size = 4) (g5 : t2.size = 4) (hm20 : 20 ≤ m) (hg : fd (tot (bs.take 20)) = 65535) :
    Calls Try.prog 7 #[.agg #[.string f, .string t, .int .i64 p, .int .i64 l, .string s], .slice A m k] w fun e w' => e = .returned (.bool true) ∧ Below w.heap.size w w' := by
  subst hr
  have hfs : f2.size ≤ 16 := by omega
  have G6 := Lib.hid (show decide (f2.size = 16) = false by simp; omega)
  have hmk : m ≤ k := hq.2.1
  have dm : decide ((20 : Int) ≤ (m : Int)) = true := by simp; omega
  have dm2 : decide (20 ≤ m) = true := by simp; omega
  have ik : (20 : Int) ≤ (k : Int) := by omega
  have ik2 : 20 ≤ k := by omega
  have df : decide (f2.size = t2.size) = true := by simp; omega
  have HG := Lib.hid (show ((fd (tot (bs.take 20))) == 65535) = true by simpa using hg)
  clear hg
  have HD := Lib.hid hd
  have HQ0 := Lib.hid hq
  clear hd hq
  go_enter Try.func7, Try.ntmps7
  go_wp2_with fail
  refine (encode_no f t p l s _ hf ht hs h).mono ?_
  rintro e w1 ⟨rfl, hb1⟩
  have HBx := Lib.hid (show Below (w.heap.size + 1) (w.alloc (.cells #[.string f, .string t, .int .i64 p, .int .i64 l, .string s] 24)) w1 by simpa using hb1)
  have HQ := Lib.hid ((HQ0.out.alloc _).below hb1)
  have z1 : w.heap.size + 1 ≤ w1.heap.size := by have := HBx.out.size; simpa using this
  clear hb1 HQ0
  go_wp2_with fail
  refine (decode_any A m k bs _ HQ.out (by omega) f2 t2 p2 l2 s2 _ HD.out).mono ?_
  rintro e w2 ⟨rfl, hb2⟩
  have z2 := hb2.size
  try simp at z2
  have HB2 := Lib.hid (below_then (B := w.heap.size + 1) HBx.out (by first | omega | (simp; omega)) hb2)
  have HQ2 := Lib.hid (HQ.out.below hb2)
  clear hb2
  go_wp2_with fail
  refine (alive_any _).mono ?_
  rintro e w9 ⟨rfl, hb9⟩
  have hb5 := below_then (B := w2.heap.size) ((Below.refl w2.heap.size w2).alloc (Nat.le_refl _) (.cells #[.string f2, .string t2, .int .i64 p2, .int .i64 l2, .string s2] 24)) (by simp) hb9
  obtain ⟨y0, y1, y2, y3, y4⟩ := (Boxed.new w2 f2 t2 p2 l2 s2).below hb9 (by simp)
  have z9 := hb9.size
  simp at z9
  have u2 : w2.heap.size < w9.heap.size := by omega
  have HB5 := Lib.hid (below_then HB2.out (by omega) hb5)
  have HQ9 := Lib.hid (HQ2.out.below hb5)
  clear hb9 hb5
  go_wp2_with (go_at_call 19; refine (six_at (by omega) G6.out).mono ?_; rintro e w6 ⟨rfl, rfl⟩)
  refine (good_one (a := A) (n := 20) (c := k) (bs := bs.take 20) (by simp [go_sem]) ((HQ9.out.first 20 (by omega)).alloc _) (by omega) rfl).mono ?_
  rintro e w7 ⟨rfl, q, rfl⟩
  rw [HG.out]
  go_wp2
  go_ret
  exact ⟨by first | rfl | simp, below_box (below_drewN (HB5.out.alloc (by omega) _) _)⟩


end Go.Proofs.Ytindajjcekgjeaa
