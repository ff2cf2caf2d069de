/-
  What outriderref04.Read does with an ND, and with any frame.
-/
import Derived.Test.YtdoefjhdipkkeaaDoorRpseudo
import Derived.Test.YtdoefjhdipkkeaaDoorRdecs
import Derived.Test.YtdoefjhdipkkeaaDoorNdSizes
import Derived.Test.YtdoefjhdipkkeaaDoorPseudo
import Derived.Test.YtdoefjhdipkkeaaDoorNdBase
import Derived.Test.YtdoefjhdipkkeaaDoorRReads1
import Derived.Test.YtdoefjhdipkkeaaDoorRReads2
namespace Go.Proofs.YtdoefjhdipkkeaaDoor
open Go.RowKit
set_option linter.unusedVariables false
set_option maxRecDepth 10000

set_option linter.unusedSectionVars false
section
variable (a0 a1 a2 a3 a4 a5 b0 b1 b2 b3 b4 b5 ty : Int) (s : ByteArray) (w : World) (f t : ByteArray) (bd : ByteArray) (ht : ty = 34525) (hs : s.size ≤ 140737488351232) (hd : dec (bts s) = (⟨f, t, 58, 255, bd⟩, 0)) (hf16 : f.size ≤ 16) (h6 : f.size = 16) (ht6 : t.size = 16) (hb32 : bd.size = 32)
include ht hs hd hf16 h6 ht6 hb32
set_option maxHeartbeats 4000000 in
set_option maxRecDepth 100000 in
theorem rread_bad_ask (x0 : Int) (hx0 : byteAt (bts bd) 0 = x0) (x1 : Int) (hx1 : byteAt (bts bd) 1 = x1) (x24 : Int) (hx24 : byteAt (bts bd) 24 = x24) (x25 : Int) (hx25 : byteAt (bts bd) 25 = x25) (k0 : x0 = 135) (k1 : x1 = 0) (k24 : x24 = 1) (k25 : x25 = 1) (S : Int) (hS : fd (tot (pseu f t 58 32 ++ bts bd)) = S) (hg : S ≠ 65535) : Calls Tryd.prog 19 #[.agg #[.int .u8 a0, .int .u8 a1, .int .u8 a2, .int .u8 a3, .int .u8 a4, .int .u8 a5, .int .u8 b0, .int .u8 b1, .int .u8 b2, .int .u8 b3, .int .u8 b4, .int .u8 b5, .int .i64 ty, .string s]] w (Told (Nt.zero, 41) w) := by
  have n2 : ((f.size : Int) != 16) = false := by simp [h6]
  have n5 : ((bd.size : Int) != 32) = false := by simp [hb32]
  have m32 : (bd.size : Int) = 32 := by omega
  have i0 : ((bd[0]'(by omega)).toNat : Int) = x0 := by rw [at_idx]; exact hx0
  have i1 : ((bd[1]'(by omega)).toNat : Int) = x1 := by rw [at_idx]; exact hx1
  have i24 : ((bd[24]'(by omega)).toNat : Int) = x24 := by rw [at_idx]; exact hx24
  have i25 : ((bd[25]'(by omega)).toNat : Int) = x25 := by rw [at_idx]; exact hx25
  have e1 : (x0 == 135) = true := by simp [k0]
  have e2 : (x24 == 1) = true := by simp [k24]
  have e3 : (x0 == 136) = false := by simp [k0]
  have e4 : (x1 != 0) = false := by simp [k1]
  have e5 : (x25 != 1) = false := by simp [k25]
  obtain ⟨ps, hps⟩ : ∃ q, strOfNums (pseu f t 58 32) = q := ⟨_, rfl⟩
  have lp : ps.size = 40 := by rw [← hps, strOfNums_size, pseu_len f t 58 32 h6 ht6]
  have HPS := Lib.hid hps
  have HBP := Lib.hid (show bts (ps ++ bd) = pseu f t 58 32 ++ bts bd by rw [bts_append, ← hps, bts_strOfNums (pseu_byt f t 58 32)])
  have HSS := Lib.hid hS
  have n65 : (S != 65535) = true := by simp [hg]
  clear hx0 hx1 hx24 hx25 hps hS hg k0 k1 k24 k25
  have g0 : (ty == 2054) = false := by simp [ht]
  have g00 : (ty != 34525) = false := by simp [ht]
  obtain ⟨c1, w1, hr1, ho1, hb1, hz1, -⟩ := conv_bytes ((w.alloc (.cells #[.int .u8 a0, .int .u8 a1, .int .u8 a2, .int .u8 a3, .int .u8 a4, .int .u8 a5, .int .u8 b0, .int .u8 b1, .int .u8 b2, .int .u8 b3, .int .u8 b4, .int .u8 b5, .int .i64 ty, .string s] 36)).alloc (.cells #[.int .i64 0, .int .u8 0, .int .u8 0, .int .u8 0, .int .u8 0, .int .u8 0, .int .u8 0, .string ⟨#[]⟩, .string ⟨#[]⟩, .bool false] 42)) ((w.alloc (.cells #[.int .u8 a0, .int .u8 a1, .int .u8 a2, .int .u8 a3, .int .u8 a4, .int .u8 a5, .int .u8 b0, .int .u8 b1, .int .u8 b2, .int .u8 b3, .int .u8 b4, .int .u8 b5, .int .i64 ty, .string s] 36)).alloc (.cells #[.int .i64 0, .int .u8 0, .int .u8 0, .int .u8 0, .int .u8 0, .int .u8 0, .int .u8 0, .string ⟨#[]⟩, .string ⟨#[]⟩, .bool false] 42)).heap.size s 9 Tryd.underlying9 (Nat.le_refl _) (by omega) (w.heap.size + 2) (by simp) s.size rfl
  have HD := Lib.hid (rdec_any (some ⟨w.heap.size + 2, 0, none⟩) s.size c1 (bts s) w1 (ho1.part (bts_byt s)) (by omega) f t 58 255 bd 0 hd)
  have HB1 := Lib.hid hb1
  have z1 : w.heap.size + 2 ≤ w1.heap.size := by have := hb1.size; simpa using this
  clear hb1 hz1 ho1 hd ht
  go_enter Tryd.func19, Tryd.ntmps19
  go_wp2_with fail
  refine HD.out.mono ?_
  rintro e w2 ⟨rfl, hb2⟩
  have HB2 := Lib.hid (below_then HB1.out (by simpa using z1) hb2)
  have z2 : w.heap.size + 2 ≤ w2.heap.size := by have := HB2.out.size; simpa using this
  obtain ⟨hc2, hf2⟩ : (∀ b o, b < w.heap.size + 2 → w2.cell? ⟨b, o, none⟩ = ((w.alloc (.cells #[.int .u8 a0, .int .u8 a1, .int .u8 a2, .int .u8 a3, .int .u8 a4, .int .u8 a5, .int .u8 b0, .int .u8 b1, .int .u8 b2, .int .u8 b3, .int .u8 b4, .int .u8 b5, .int .i64 ty, .string s] 36)).alloc (.cells #[.int .i64 0, .int .u8 0, .int .u8 0, .int .u8 0, .int .u8 0, .int .u8 0, .int .u8 0, .string ⟨#[]⟩, .string ⟨#[]⟩, .bool false] 42)).cell? ⟨b, o, none⟩) ∧ (∀ b o, b < w.heap.size + 2 → w2.frozen? ⟨b, o, none⟩ = ((w.alloc (.cells #[.int .u8 a0, .int .u8 a1, .int .u8 a2, .int .u8 a3, .int .u8 a4, .int .u8 a5, .int .u8 b0, .int .u8 b1, .int .u8 b2, .int .u8 b3, .int .u8 b4, .int .u8 b5, .int .i64 ty, .string s] 36)).alloc (.cells #[.int .i64 0, .int .u8 0, .int .u8 0, .int .u8 0, .int .u8 0, .int .u8 0, .int .u8 0, .string ⟨#[]⟩, .string ⟨#[]⟩, .bool false] 42)).frozen? ⟨b, o, none⟩) :=
    ⟨fun b o h => HB2.out.cell (p := ⟨b, o, none⟩) (by simpa using h), fun b o h => HB2.out.frozen (p := ⟨b, o, none⟩) (by simpa using h)⟩
  have y2 : w.heap.size + 1 < w2.heap.size := z2
  clear hb2 HD
  have HX2 := Lib.hid (Boxed.new w2 f t 58 255 bd)
  go_wp2_with fail
  refine (rpseudo_six f t 58 32 _ (by omega) (by omega) h6 ht6).mono ?_
  rintro e w3 ⟨g3, c3, rfl, ho3, hb3⟩
  have HB3 := Lib.hid (below_then (HB2.out.alloc (by simpa using z2) (.cells #[.string f, .string t, .int .i64 58, .int .i64 255, .string bd] 72)) (by simp; omega) hb3.out)
  have HX3 := Lib.hid (HX2.out.below hb3.out (by simp))
  have q3 : w2.heap.size + 1 ≤ w3.heap.size := by have := hb3.out.size; simpa using this
  have hcv3 : (convert 26 9 (.slice (some ⟨g3, 0, none⟩) 40 c3)).run Tryd.prog w3 = .ok (.string ps) w3 := by rw [← HPS.out]; exact convert_part (ho3.out.part (pseu_byt f t 58 32)) 9 Tryd.underlying9
  obtain ⟨c4, w4, hr4, ho4, hb4, hz4, -⟩ := conv_bytes w3 w3.heap.size (ps ++ bd) 9 Tryd.underlying9 (Nat.le_refl _) (by rw [ByteArray.size_append]; omega) w3.heap.size rfl 72 (by rw [ByteArray.size_append]; omega)
  rw [HBP.out] at ho4
  have HB4 := Lib.hid (below_then HB3.out (by simp; omega) hb4)
  have z4 : w.heap.size + 2 ≤ w4.heap.size := by omega
  obtain ⟨hc4, hf4⟩ : (∀ b o, b < w.heap.size + 2 → w4.cell? ⟨b, o, none⟩ = ((w.alloc (.cells #[.int .u8 a0, .int .u8 a1, .int .u8 a2, .int .u8 a3, .int .u8 a4, .int .u8 a5, .int .u8 b0, .int .u8 b1, .int .u8 b2, .int .u8 b3, .int .u8 b4, .int .u8 b5, .int .i64 ty, .string s] 36)).alloc (.cells #[.int .i64 0, .int .u8 0, .int .u8 0, .int .u8 0, .int .u8 0, .int .u8 0, .int .u8 0, .string ⟨#[]⟩, .string ⟨#[]⟩, .bool false] 42)).cell? ⟨b, o, none⟩) ∧ (∀ b o, b < w.heap.size + 2 → w4.frozen? ⟨b, o, none⟩ = ((w.alloc (.cells #[.int .u8 a0, .int .u8 a1, .int .u8 a2, .int .u8 a3, .int .u8 a4, .int .u8 a5, .int .u8 b0, .int .u8 b1, .int .u8 b2, .int .u8 b3, .int .u8 b4, .int .u8 b5, .int .i64 ty, .string s] 36)).alloc (.cells #[.int .i64 0, .int .u8 0, .int .u8 0, .int .u8 0, .int .u8 0, .int .u8 0, .int .u8 0, .string ⟨#[]⟩, .string ⟨#[]⟩, .bool false] 42)).frozen? ⟨b, o, none⟩) :=
    ⟨fun b o h => HB4.out.cell (p := ⟨b, o, none⟩) (by simpa using h), fun b o h => HB4.out.frozen (p := ⟨b, o, none⟩) (by simpa using h)⟩
  have y4 : w.heap.size + 1 < w4.heap.size := z4
  have HX4 := Lib.hid (HX3.out.below hb4 (by omega))
  have q4 : w2.heap.size + 1 ≤ w4.heap.size := by omega
  have q4' : w2.heap.size < w4.heap.size := q4
  have HPP := Lib.hid (ho4.part ((pseu_byt f t 58 32).append (bts_byt bd)))
  clear hb3 ho3 hz4 ho4 hb4 hc2 hf2 y2
  go_wp2_with fail
  refine (rsum_any (some ⟨w3.heap.size, 0, none⟩) 72 c4 _ w4 HPP.out (by omega)).mono ?_
  rintro e w5 ⟨rfl, rfl⟩
  rw [HSS.out]
  go_wp2
  exact bodyPost_ret (v := .tuple #[.agg #[.int .i64 0, .int .u8 0, .int .u8 0, .int .u8 0, .int .u8 0, .int .u8 0, .int .u8 0, .string ⟨#[]⟩, .string ⟨#[]⟩, .bool false], .int .i64 41]) (by simp [results, Tryd.results19, go_sem, hc4]) rfl ⟨rfl, below10r ((((Below.refl w.heap.size w).alloc (Nat.le_refl _) (.cells #[.int .u8 a0, .int .u8 a1, .int .u8 a2, .int .u8 a3, .int .u8 a4, .int .u8 a5, .int .u8 b0, .int .u8 b1, .int .u8 b2, .int .u8 b3, .int .u8 b4, .int .u8 b5, .int .i64 ty, .string s] 36)).alloc (by simp) (.cells #[.int .i64 0, .int .u8 0, .int .u8 0, .int .u8 0, .int .u8 0, .int .u8 0, .int .u8 0, .string ⟨#[]⟩, .string ⟨#[]⟩, .bool false] 42)).trans (HB4.out.mono (by simp; omega)))⟩
set_option maxHeartbeats 4000000 in
set_option maxRecDepth 100000 in
theorem rread_bad_tell (x0 : Int) (hx0 : byteAt (bts bd) 0 = x0) (x1 : Int) (hx1 : byteAt (bts bd) 1 = x1) (x24 : Int) (hx24 : byteAt (bts bd) 24 = x24) (x25 : Int) (hx25 : byteAt (bts bd) 25 = x25) (k0 : x0 = 136) (k1 : x1 = 0) (k24 : x24 = 2) (k25 : x25 = 1) (S : Int) (hS : fd (tot (pseu f t 58 32 ++ bts bd)) = S) (hg : S ≠ 65535) : Calls Tryd.prog 19 #[.agg #[.int .u8 a0, .int .u8 a1, .int .u8 a2, .int .u8 a3, .int .u8 a4, .int .u8 a5, .int .u8 b0, .int .u8 b1, .int .u8 b2, .int .u8 b3, .int .u8 b4, .int .u8 b5, .int .i64 ty, .string s]] w (Told (Nt.zero, 41) w) := by
  have n2 : ((f.size : Int) != 16) = false := by simp [h6]
  have n5 : ((bd.size : Int) != 32) = false := by simp [hb32]
  have m32 : (bd.size : Int) = 32 := by omega
  have i0 : ((bd[0]'(by omega)).toNat : Int) = x0 := by rw [at_idx]; exact hx0
  have i1 : ((bd[1]'(by omega)).toNat : Int) = x1 := by rw [at_idx]; exact hx1
  have i24 : ((bd[24]'(by omega)).toNat : Int) = x24 := by rw [at_idx]; exact hx24
  have i25 : ((bd[25]'(by omega)).toNat : Int) = x25 := by rw [at_idx]; exact hx25
  have e1 : (x0 == 135) = false := by simp [k0]
  have e3 : (x0 == 136) = true := by simp [k0]
  have e2 : (x24 == 2) = true := by simp [k24]
  have e4 : (x1 != 0) = false := by simp [k1]
  have e5 : (x25 != 1) = false := by simp [k25]
  obtain ⟨ps, hps⟩ : ∃ q, strOfNums (pseu f t 58 32) = q := ⟨_, rfl⟩
  have lp : ps.size = 40 := by rw [← hps, strOfNums_size, pseu_len f t 58 32 h6 ht6]
  have HPS := Lib.hid hps
  have HBP := Lib.hid (show bts (ps ++ bd) = pseu f t 58 32 ++ bts bd by rw [bts_append, ← hps, bts_strOfNums (pseu_byt f t 58 32)])
  have HSS := Lib.hid hS
  have n65 : (S != 65535) = true := by simp [hg]
  clear hx0 hx1 hx24 hx25 hps hS hg k0 k1 k24 k25
  have g0 : (ty == 2054) = false := by simp [ht]
  have g00 : (ty != 34525) = false := by simp [ht]
  obtain ⟨c1, w1, hr1, ho1, hb1, hz1, -⟩ := conv_bytes ((w.alloc (.cells #[.int .u8 a0, .int .u8 a1, .int .u8 a2, .int .u8 a3, .int .u8 a4, .int .u8 a5, .int .u8 b0, .int .u8 b1, .int .u8 b2, .int .u8 b3, .int .u8 b4, .int .u8 b5, .int .i64 ty, .string s] 36)).alloc (.cells #[.int .i64 0, .int .u8 0, .int .u8 0, .int .u8 0, .int .u8 0, .int .u8 0, .int .u8 0, .string ⟨#[]⟩, .string ⟨#[]⟩, .bool false] 42)) ((w.alloc (.cells #[.int .u8 a0, .int .u8 a1, .int .u8 a2, .int .u8 a3, .int .u8 a4, .int .u8 a5, .int .u8 b0, .int .u8 b1, .int .u8 b2, .int .u8 b3, .int .u8 b4, .int .u8 b5, .int .i64 ty, .string s] 36)).alloc (.cells #[.int .i64 0, .int .u8 0, .int .u8 0, .int .u8 0, .int .u8 0, .int .u8 0, .int .u8 0, .string ⟨#[]⟩, .string ⟨#[]⟩, .bool false] 42)).heap.size s 9 Tryd.underlying9 (Nat.le_refl _) (by omega) (w.heap.size + 2) (by simp) s.size rfl
  have HD := Lib.hid (rdec_any (some ⟨w.heap.size + 2, 0, none⟩) s.size c1 (bts s) w1 (ho1.part (bts_byt s)) (by omega) f t 58 255 bd 0 hd)
  have HB1 := Lib.hid hb1
  have z1 : w.heap.size + 2 ≤ w1.heap.size := by have := hb1.size; simpa using this
  clear hb1 hz1 ho1 hd ht
  go_enter Tryd.func19, Tryd.ntmps19
  go_wp2_with fail
  refine HD.out.mono ?_
  rintro e w2 ⟨rfl, hb2⟩
  have HB2 := Lib.hid (below_then HB1.out (by simpa using z1) hb2)
  have z2 : w.heap.size + 2 ≤ w2.heap.size := by have := HB2.out.size; simpa using this
  obtain ⟨hc2, hf2⟩ : (∀ b o, b < w.heap.size + 2 → w2.cell? ⟨b, o, none⟩ = ((w.alloc (.cells #[.int .u8 a0, .int .u8 a1, .int .u8 a2, .int .u8 a3, .int .u8 a4, .int .u8 a5, .int .u8 b0, .int .u8 b1, .int .u8 b2, .int .u8 b3, .int .u8 b4, .int .u8 b5, .int .i64 ty, .string s] 36)).alloc (.cells #[.int .i64 0, .int .u8 0, .int .u8 0, .int .u8 0, .int .u8 0, .int .u8 0, .int .u8 0, .string ⟨#[]⟩, .string ⟨#[]⟩, .bool false] 42)).cell? ⟨b, o, none⟩) ∧ (∀ b o, b < w.heap.size + 2 → w2.frozen? ⟨b, o, none⟩ = ((w.alloc (.cells #[.int .u8 a0, .int .u8 a1, .int .u8 a2, .int .u8 a3, .int .u8 a4, .int .u8 a5, .int .u8 b0, .int .u8 b1, .int .u8 b2, .int .u8 b3, .int .u8 b4, .int .u8 b5, .int .i64 ty, .string s] 36)).alloc (.cells #[.int .i64 0, .int .u8 0, .int .u8 0, .int .u8 0, .int .u8 0, .int .u8 0, .int .u8 0, .string ⟨#[]⟩, .string ⟨#[]⟩, .bool false] 42)).frozen? ⟨b, o, none⟩) :=
    ⟨fun b o h => HB2.out.cell (p := ⟨b, o, none⟩) (by simpa using h), fun b o h => HB2.out.frozen (p := ⟨b, o, none⟩) (by simpa using h)⟩
  have y2 : w.heap.size + 1 < w2.heap.size := z2
  clear hb2 HD
  have HX2 := Lib.hid (Boxed.new w2 f t 58 255 bd)
  go_wp2_with fail
  refine (rpseudo_six f t 58 32 _ (by omega) (by omega) h6 ht6).mono ?_
  rintro e w3 ⟨g3, c3, rfl, ho3, hb3⟩
  have HB3 := Lib.hid (below_then (HB2.out.alloc (by simpa using z2) (.cells #[.string f, .string t, .int .i64 58, .int .i64 255, .string bd] 72)) (by simp; omega) hb3.out)
  have HX3 := Lib.hid (HX2.out.below hb3.out (by simp))
  have q3 : w2.heap.size + 1 ≤ w3.heap.size := by have := hb3.out.size; simpa using this
  have hcv3 : (convert 26 9 (.slice (some ⟨g3, 0, none⟩) 40 c3)).run Tryd.prog w3 = .ok (.string ps) w3 := by rw [← HPS.out]; exact convert_part (ho3.out.part (pseu_byt f t 58 32)) 9 Tryd.underlying9
  obtain ⟨c4, w4, hr4, ho4, hb4, hz4, -⟩ := conv_bytes w3 w3.heap.size (ps ++ bd) 9 Tryd.underlying9 (Nat.le_refl _) (by rw [ByteArray.size_append]; omega) w3.heap.size rfl 72 (by rw [ByteArray.size_append]; omega)
  rw [HBP.out] at ho4
  have HB4 := Lib.hid (below_then HB3.out (by simp; omega) hb4)
  have z4 : w.heap.size + 2 ≤ w4.heap.size := by omega
  obtain ⟨hc4, hf4⟩ : (∀ b o, b < w.heap.size + 2 → w4.cell? ⟨b, o, none⟩ = ((w.alloc (.cells #[.int .u8 a0, .int .u8 a1, .int .u8 a2, .int .u8 a3, .int .u8 a4, .int .u8 a5, .int .u8 b0, .int .u8 b1, .int .u8 b2, .int .u8 b3, .int .u8 b4, .int .u8 b5, .int .i64 ty, .string s] 36)).alloc (.cells #[.int .i64 0, .int .u8 0, .int .u8 0, .int .u8 0, .int .u8 0, .int .u8 0, .int .u8 0, .string ⟨#[]⟩, .string ⟨#[]⟩, .bool false] 42)).cell? ⟨b, o, none⟩) ∧ (∀ b o, b < w.heap.size + 2 → w4.frozen? ⟨b, o, none⟩ = ((w.alloc (.cells #[.int .u8 a0, .int .u8 a1, .int .u8 a2, .int .u8 a3, .int .u8 a4, .int .u8 a5, .int .u8 b0, .int .u8 b1, .int .u8 b2, .int .u8 b3, .int .u8 b4, .int .u8 b5, .int .i64 ty, .string s] 36)).alloc (.cells #[.int .i64 0, .int .u8 0, .int .u8 0, .int .u8 0, .int .u8 0, .int .u8 0, .int .u8 0, .string ⟨#[]⟩, .string ⟨#[]⟩, .bool false] 42)).frozen? ⟨b, o, none⟩) :=
    ⟨fun b o h => HB4.out.cell (p := ⟨b, o, none⟩) (by simpa using h), fun b o h => HB4.out.frozen (p := ⟨b, o, none⟩) (by simpa using h)⟩
  have y4 : w.heap.size + 1 < w4.heap.size := z4
  have HX4 := Lib.hid (HX3.out.below hb4 (by omega))
  have q4 : w2.heap.size + 1 ≤ w4.heap.size := by omega
  have q4' : w2.heap.size < w4.heap.size := q4
  have HPP := Lib.hid (ho4.part ((pseu_byt f t 58 32).append (bts_byt bd)))
  clear hb3 ho3 hz4 ho4 hb4 hc2 hf2 y2
  go_wp2_with fail
  refine (rsum_any (some ⟨w3.heap.size, 0, none⟩) 72 c4 _ w4 HPP.out (by omega)).mono ?_
  rintro e w5 ⟨rfl, rfl⟩
  rw [HSS.out]
  go_wp2
  exact bodyPost_ret (v := .tuple #[.agg #[.int .i64 0, .int .u8 0, .int .u8 0, .int .u8 0, .int .u8 0, .int .u8 0, .int .u8 0, .string ⟨#[]⟩, .string ⟨#[]⟩, .bool false], .int .i64 41]) (by simp [results, Tryd.results19, go_sem, hc4]) rfl ⟨rfl, below10r ((((Below.refl w.heap.size w).alloc (Nat.le_refl _) (.cells #[.int .u8 a0, .int .u8 a1, .int .u8 a2, .int .u8 a3, .int .u8 a4, .int .u8 a5, .int .u8 b0, .int .u8 b1, .int .u8 b2, .int .u8 b3, .int .u8 b4, .int .u8 b5, .int .i64 ty, .string s] 36)).alloc (by simp) (.cells #[.int .i64 0, .int .u8 0, .int .u8 0, .int .u8 0, .int .u8 0, .int .u8 0, .int .u8 0, .string ⟨#[]⟩, .string ⟨#[]⟩, .bool false] 42)).trans (HB4.out.mono (by simp; omega)))⟩
end

end Go.Proofs.YtdoefjhdipkkeaaDoor

namespace Go.Proofs.YtdoefjhdipkkeaaDoor
open Go.RowKit
set_option linter.unusedVariables false
set_option maxRecDepth 10000

set_option linter.unusedSectionVars false
section
variable (a0 a1 a2 a3 a4 a5 b0 b1 b2 b3 b4 b5 ty : Int) (s : ByteArray) (w : World) (f t : ByteArray) (bd : ByteArray) (ht : ty = 34525) (hs : s.size ≤ 140737488351232) (hd : dec (bts s) = (⟨f, t, 58, 255, bd⟩, 0)) (hf16 : f.size ≤ 16) (h6 : f.size = 16) (ht6 : t.size = 16) (hb32 : bd.size = 32)
include ht hs hd hf16 h6 ht6 hb32
set_option maxHeartbeats 4000000 in
set_option maxRecDepth 100000 in
theorem rread_ask (x0 : Int) (hx0 : byteAt (bts bd) 0 = x0) (x1 : Int) (hx1 : byteAt (bts bd) 1 = x1) (x24 : Int) (hx24 : byteAt (bts bd) 24 = x24) (x25 : Int) (hx25 : byteAt (bts bd) 25 = x25) (k0 : x0 = 135) (k1 : x1 = 0) (k24 : x24 = 1) (k25 : x25 = 1) (S : Int) (hS : fd (tot (pseu f t 58 32 ++ bts bd)) = S) (hg : S = 65535) (m0 m1 m2 m3 m4 m5 : Int) (hm : byteAt (bts bd) 26 = m0 ∧ byteAt (bts bd) 27 = m1 ∧ byteAt (bts bd) 28 = m2 ∧ byteAt (bts bd) 29 = m3 ∧ byteAt (bts bd) 30 = m4 ∧ byteAt (bts bd) 31 = m5) (u : ByteArray) (hu : bd.extract 8 24 = u) : Calls Tryd.prog 19 #[.agg #[.int .u8 a0, .int .u8 a1, .int .u8 a2, .int .u8 a3, .int .u8 a4, .int .u8 a5, .int .u8 b0, .int .u8 b1, .int .u8 b2, .int .u8 b3, .int .u8 b4, .int .u8 b5, .int .i64 ty, .string s]] w (Told (⟨1, m0, m1, m2, m3, m4, m5, f, u, false⟩, 0) w) := by
  have HCD := Lib.hid (show bts (bd.extract 26 32) = [m0, m1, m2, m3, m4, m5] by
    obtain ⟨r0, r1, r2, r3, r4, r5⟩ := hm
    rw [bts_extract, ← r0, ← r1, ← r2, ← r3, ← r4, ← r5]
    exact six_bytes (bts bd) 26 (by rw [bts_len]; omega))
  clear hm
  have n2 : ((f.size : Int) != 16) = false := by simp [h6]
  have n5 : ((bd.size : Int) != 32) = false := by simp [hb32]
  have m32 : (bd.size : Int) = 32 := by omega
  have i0 : ((bd[0]'(by omega)).toNat : Int) = x0 := by rw [at_idx]; exact hx0
  have i1 : ((bd[1]'(by omega)).toNat : Int) = x1 := by rw [at_idx]; exact hx1
  have i24 : ((bd[24]'(by omega)).toNat : Int) = x24 := by rw [at_idx]; exact hx24
  have i25 : ((bd[25]'(by omega)).toNat : Int) = x25 := by rw [at_idx]; exact hx25
  have e1 : (x0 == 135) = true := by simp [k0]
  have e2 : (x24 == 1) = true := by simp [k24]
  have e3 : (x0 == 136) = false := by simp [k0]
  have e4 : (x1 != 0) = false := by simp [k1]
  have e5 : (x25 != 1) = false := by simp [k25]
  obtain ⟨ps, hps⟩ : ∃ q, strOfNums (pseu f t 58 32) = q := ⟨_, rfl⟩
  have lp : ps.size = 40 := by rw [← hps, strOfNums_size, pseu_len f t 58 32 h6 ht6]
  have HPS := Lib.hid hps
  have HBP := Lib.hid (show bts (ps ++ bd) = pseu f t 58 32 ++ bts bd by rw [bts_append, ← hps, bts_strOfNums (pseu_byt f t 58 32)])
  have HSS := Lib.hid hS
  have n65 : (S != 65535) = false := by simp [hg]
  clear hx0 hx1 hx24 hx25 hps hS hg k0 k1 k24 k25
  have g0 : (ty == 2054) = false := by simp [ht]
  have g00 : (ty != 34525) = false := by simp [ht]
  obtain ⟨c1, w1, hr1, ho1, hb1, hz1, -⟩ := conv_bytes ((w.alloc (.cells #[.int .u8 a0, .int .u8 a1, .int .u8 a2, .int .u8 a3, .int .u8 a4, .int .u8 a5, .int .u8 b0, .int .u8 b1, .int .u8 b2, .int .u8 b3, .int .u8 b4, .int .u8 b5, .int .i64 ty, .string s] 36)).alloc (.cells #[.int .i64 0, .int .u8 0, .int .u8 0, .int .u8 0, .int .u8 0, .int .u8 0, .int .u8 0, .string ⟨#[]⟩, .string ⟨#[]⟩, .bool false] 42)) ((w.alloc (.cells #[.int .u8 a0, .int .u8 a1, .int .u8 a2, .int .u8 a3, .int .u8 a4, .int .u8 a5, .int .u8 b0, .int .u8 b1, .int .u8 b2, .int .u8 b3, .int .u8 b4, .int .u8 b5, .int .i64 ty, .string s] 36)).alloc (.cells #[.int .i64 0, .int .u8 0, .int .u8 0, .int .u8 0, .int .u8 0, .int .u8 0, .int .u8 0, .string ⟨#[]⟩, .string ⟨#[]⟩, .bool false] 42)).heap.size s 9 Tryd.underlying9 (Nat.le_refl _) (by omega) (w.heap.size + 2) (by simp) s.size rfl
  have HD := Lib.hid (rdec_any (some ⟨w.heap.size + 2, 0, none⟩) s.size c1 (bts s) w1 (ho1.part (bts_byt s)) (by omega) f t 58 255 bd 0 hd)
  have HB1 := Lib.hid hb1
  have z1 : w.heap.size + 2 ≤ w1.heap.size := by have := hb1.size; simpa using this
  clear hb1 hz1 ho1 hd ht
  go_enter Tryd.func19, Tryd.ntmps19
  go_wp2_with fail
  refine HD.out.mono ?_
  rintro e w2 ⟨rfl, hb2⟩
  have HB2 := Lib.hid (below_then HB1.out (by simpa using z1) hb2)
  have z2 : w.heap.size + 2 ≤ w2.heap.size := by have := HB2.out.size; simpa using this
  obtain ⟨hc2, hf2⟩ : (∀ b o, b < w.heap.size + 2 → w2.cell? ⟨b, o, none⟩ = ((w.alloc (.cells #[.int .u8 a0, .int .u8 a1, .int .u8 a2, .int .u8 a3, .int .u8 a4, .int .u8 a5, .int .u8 b0, .int .u8 b1, .int .u8 b2, .int .u8 b3, .int .u8 b4, .int .u8 b5, .int .i64 ty, .string s] 36)).alloc (.cells #[.int .i64 0, .int .u8 0, .int .u8 0, .int .u8 0, .int .u8 0, .int .u8 0, .int .u8 0, .string ⟨#[]⟩, .string ⟨#[]⟩, .bool false] 42)).cell? ⟨b, o, none⟩) ∧ (∀ b o, b < w.heap.size + 2 → w2.frozen? ⟨b, o, none⟩ = ((w.alloc (.cells #[.int .u8 a0, .int .u8 a1, .int .u8 a2, .int .u8 a3, .int .u8 a4, .int .u8 a5, .int .u8 b0, .int .u8 b1, .int .u8 b2, .int .u8 b3, .int .u8 b4, .int .u8 b5, .int .i64 ty, .string s] 36)).alloc (.cells #[.int .i64 0, .int .u8 0, .int .u8 0, .int .u8 0, .int .u8 0, .int .u8 0, .int .u8 0, .string ⟨#[]⟩, .string ⟨#[]⟩, .bool false] 42)).frozen? ⟨b, o, none⟩) :=
    ⟨fun b o h => HB2.out.cell (p := ⟨b, o, none⟩) (by simpa using h), fun b o h => HB2.out.frozen (p := ⟨b, o, none⟩) (by simpa using h)⟩
  have y2 : w.heap.size + 1 < w2.heap.size := z2
  clear hb2 HD
  have HX2 := Lib.hid (Boxed.new w2 f t 58 255 bd)
  go_wp2_with fail
  refine (rpseudo_six f t 58 32 _ (by omega) (by omega) h6 ht6).mono ?_
  rintro e w3 ⟨g3, c3, rfl, ho3, hb3⟩
  have HB3 := Lib.hid (below_then (HB2.out.alloc (by simpa using z2) (.cells #[.string f, .string t, .int .i64 58, .int .i64 255, .string bd] 72)) (by simp; omega) hb3.out)
  have HX3 := Lib.hid (HX2.out.below hb3.out (by simp))
  have q3 : w2.heap.size + 1 ≤ w3.heap.size := by have := hb3.out.size; simpa using this
  have hcv3 : (convert 26 9 (.slice (some ⟨g3, 0, none⟩) 40 c3)).run Tryd.prog w3 = .ok (.string ps) w3 := by rw [← HPS.out]; exact convert_part (ho3.out.part (pseu_byt f t 58 32)) 9 Tryd.underlying9
  obtain ⟨c4, w4, hr4, ho4, hb4, hz4, -⟩ := conv_bytes w3 w3.heap.size (ps ++ bd) 9 Tryd.underlying9 (Nat.le_refl _) (by rw [ByteArray.size_append]; omega) w3.heap.size rfl 72 (by rw [ByteArray.size_append]; omega)
  rw [HBP.out] at ho4
  have HB4 := Lib.hid (below_then HB3.out (by simp; omega) hb4)
  have z4 : w.heap.size + 2 ≤ w4.heap.size := by omega
  obtain ⟨hc4, hf4⟩ : (∀ b o, b < w.heap.size + 2 → w4.cell? ⟨b, o, none⟩ = ((w.alloc (.cells #[.int .u8 a0, .int .u8 a1, .int .u8 a2, .int .u8 a3, .int .u8 a4, .int .u8 a5, .int .u8 b0, .int .u8 b1, .int .u8 b2, .int .u8 b3, .int .u8 b4, .int .u8 b5, .int .i64 ty, .string s] 36)).alloc (.cells #[.int .i64 0, .int .u8 0, .int .u8 0, .int .u8 0, .int .u8 0, .int .u8 0, .int .u8 0, .string ⟨#[]⟩, .string ⟨#[]⟩, .bool false] 42)).cell? ⟨b, o, none⟩) ∧ (∀ b o, b < w.heap.size + 2 → w4.frozen? ⟨b, o, none⟩ = ((w.alloc (.cells #[.int .u8 a0, .int .u8 a1, .int .u8 a2, .int .u8 a3, .int .u8 a4, .int .u8 a5, .int .u8 b0, .int .u8 b1, .int .u8 b2, .int .u8 b3, .int .u8 b4, .int .u8 b5, .int .i64 ty, .string s] 36)).alloc (.cells #[.int .i64 0, .int .u8 0, .int .u8 0, .int .u8 0, .int .u8 0, .int .u8 0, .int .u8 0, .string ⟨#[]⟩, .string ⟨#[]⟩, .bool false] 42)).frozen? ⟨b, o, none⟩) :=
    ⟨fun b o h => HB4.out.cell (p := ⟨b, o, none⟩) (by simpa using h), fun b o h => HB4.out.frozen (p := ⟨b, o, none⟩) (by simpa using h)⟩
  have y4 : w.heap.size + 1 < w4.heap.size := z4
  have HX4 := Lib.hid (HX3.out.below hb4 (by omega))
  have q4 : w2.heap.size + 1 ≤ w4.heap.size := by omega
  have q4' : w2.heap.size < w4.heap.size := q4
  have HPP := Lib.hid (ho4.part ((pseu_byt f t 58 32).append (bts_byt bd)))
  clear hb3 ho3 hz4 ho4 hb4 hc2 hf2 y2
  go_wp2_with fail
  refine (rsum_any (some ⟨w3.heap.size, 0, none⟩) 72 c4 _ w4 HPP.out (by omega)).mono ?_
  rintro e w5 ⟨rfl, rfl⟩
  rw [HSS.out]
  have hne : w.heap.size + 1 ≠ w2.heap.size := by omega
  go_wp2_with fail
  refine wp_region_held_drew (S := fun W => W.cell? ⟨w2.heap.size, 0, none⟩ = some (.string f) ∧ W.cell? ⟨w2.heap.size, 1, none⟩ = some (.string t)) (by kernel_rfl) ⟨HX4.out.1, HX4.out.2.1⟩ (fun hHeld => ?_)
  refine wpAnyH_take (i := 0) (oi := ({ dst := some 129, op := Go.Op.move (Go.Operand.tmp 7), type := 9, pos := _, after := #[], guard := none } : Oper)) (v := ?_) rfl (by kernel_rfl) (by kernel_rfl) (by kernel_rfl) (fun _ _ _ h => h) (Or.inl ⟨by rfl, ?_⟩) (by assumption) ?_
  rotate_left
  · intro W' hSw
    try dsimp only at hSw
    go_simp
    try with_reducible rfl
  try simp only [Act.put, List.setIfInBounds_toArray, List.set_cons_zero, List.set_cons_succ]
  refine wpAnyH_take (i := 1) (oi := ({ dst := some 130, op := Go.Op.slice 9 (Go.Operand.tmp 129) (some (Go.Operand.const (Go.Value.int Go.IntKind.i64 26))) none none, type := 9, pos := _, after := #[{ on := 0, ground := Go.Ground.data }], guard := none } : Oper)) (v := ?_) rfl (by kernel_rfl) (by kernel_rfl) (by kernel_rfl) (fun _ _ _ h => h) (Or.inl ⟨by rfl, ?_⟩) (by assumption) ?_
  rotate_left
  · intro W' hSw
    try dsimp only at hSw
    go_simp
    try with_reducible rfl
  try simp only [Act.put, List.setIfInBounds_toArray, List.set_cons_zero, List.set_cons_succ]
  refine wpAnyH_take (i := 3) (oi := ({ dst := some 132, op := Go.Op.fieldAddr 72 (Go.Operand.tmp 5) 0, type := 0, pos := _, after := #[], guard := none } : Oper)) (v := ?_) rfl (by kernel_rfl) (by kernel_rfl) (by kernel_rfl) (fun _ _ _ h => h) (Or.inl ⟨by rfl, ?_⟩) (by assumption) ?_
  rotate_left
  · intro W' hSw
    try dsimp only at hSw
    go_simp
    try with_reducible rfl
  try simp only [Act.put, List.setIfInBounds_toArray, List.set_cons_zero, List.set_cons_succ]
  refine wpAnyH_take (i := 4) (oi := ({ dst := some 133, op := Go.Op.load 24 (Go.Operand.tmp 132), type := 24, pos := _, after := #[{ on := 3, ground := Go.Ground.data }], guard := none } : Oper)) (v := ?_) rfl (by kernel_rfl) (by kernel_rfl) (by kernel_rfl) (fun _ _ _ h => h) (Or.inl ⟨by rfl, ?_⟩) (by assumption) ?_
  rotate_left
  · intro W' hSw
    try dsimp only at hSw
    go_simp
    try with_reducible rfl
  try simp only [Act.put, List.setIfInBounds_toArray, List.set_cons_zero, List.set_cons_succ]
  refine wpAnyH_take (i := 5) (oi := ({ dst := some 134, op := Go.Op.move (Go.Operand.tmp 7), type := 9, pos := _, after := #[], guard := none } : Oper)) (v := ?_) rfl (by kernel_rfl) (by kernel_rfl) (by kernel_rfl) (fun _ _ _ h => h) (Or.inl ⟨by rfl, ?_⟩) (by assumption) ?_
  rotate_left
  · intro W' hSw
    try dsimp only at hSw
    go_simp
    try with_reducible rfl
  try simp only [Act.put, List.setIfInBounds_toArray, List.set_cons_zero, List.set_cons_succ]
  refine wpAnyH_take (i := 6) (oi := ({ dst := some 135, op := Go.Op.slice 9 (Go.Operand.tmp 134) (some (Go.Operand.const (Go.Value.int Go.IntKind.i64 8))) (some (Go.Operand.const (Go.Value.int Go.IntKind.i64 24))) none, type := 9, pos := _, after := #[{ on := 5, ground := Go.Ground.data }], guard := none } : Oper)) (v := ?_) rfl (by kernel_rfl) (by kernel_rfl) (by kernel_rfl) (fun _ _ _ h => h) (Or.inl ⟨by rfl, ?_⟩) (by assumption) ?_
  rotate_left
  · intro W' hSw
    try dsimp only at hSw
    go_simp
    try with_reducible rfl
  try simp only [Act.put, List.setIfInBounds_toArray, List.set_cons_zero, List.set_cons_succ]
  refine wpAnyH_ready (rs := [2]) (by kernel_rfl) (by simp) ?_
  refine AllReadyH.cons (o := ({ dst := some 131, op := Go.Op.call { callee := Go.Callee.value (Go.Operand.func 38), args := #[Go.Operand.tmp 130], argTypes := #[9] }, type := 23, pos := _, after := #[{ on := 1, ground := Go.Ground.data }], guard := none } : Oper)) rfl (fun K hK => ?_) AllReadyH.nil
  go_simp
  refine (card_at HCD.out _).mono ?_
  rintro e w6 ⟨rfl, hb⟩
  have HB6 := Lib.hid (below_then HB4.out (by simpa using z4) (below_left hb))
  have HX6 := Lib.hid (HX4.out.below (below_left hb) q4)
  have z6 : w.heap.size + 2 ≤ w6.heap.size := by have := HB6.out.size; simpa using this
  obtain ⟨hc6, hf6⟩ : (∀ b o, b < w.heap.size + 2 → w6.cell? ⟨b, o, none⟩ = ((w.alloc (.cells #[.int .u8 a0, .int .u8 a1, .int .u8 a2, .int .u8 a3, .int .u8 a4, .int .u8 a5, .int .u8 b0, .int .u8 b1, .int .u8 b2, .int .u8 b3, .int .u8 b4, .int .u8 b5, .int .i64 ty, .string s] 36)).alloc (.cells #[.int .i64 0, .int .u8 0, .int .u8 0, .int .u8 0, .int .u8 0, .int .u8 0, .int .u8 0, .string ⟨#[]⟩, .string ⟨#[]⟩, .bool false] 42)).cell? ⟨b, o, none⟩) ∧ (∀ b o, b < w.heap.size + 2 → w6.frozen? ⟨b, o, none⟩ = ((w.alloc (.cells #[.int .u8 a0, .int .u8 a1, .int .u8 a2, .int .u8 a3, .int .u8 a4, .int .u8 a5, .int .u8 b0, .int .u8 b1, .int .u8 b2, .int .u8 b3, .int .u8 b4, .int .u8 b5, .int .i64 ty, .string s] 36)).alloc (.cells #[.int .i64 0, .int .u8 0, .int .u8 0, .int .u8 0, .int .u8 0, .int .u8 0, .int .u8 0, .string ⟨#[]⟩, .string ⟨#[]⟩, .bool false] 42)).frozen? ⟨b, o, none⟩) :=
    ⟨fun b o h => HB6.out.cell (p := ⟨b, o, none⟩) (by simpa using h), fun b o h => HB6.out.frozen (p := ⟨b, o, none⟩) (by simpa using h)⟩
  have y6 : w.heap.size + 1 < w6.heap.size := z6
  clear hb
  go_wp2_with fail
  refine hK.out _ _ ?_ (fun hHeld => ?_)
  · exact ⟨HX6.out.1, HX6.out.2.1⟩
  clear hK K
  try simp only [Act.put, List.setIfInBounds_toArray, List.set_cons_zero, List.set_cons_succ]
  refine wpAnyH_take (i := 7) (oi := ({ dst := some 136, op := Go.Op.build 42 #[(0, Go.Operand.const (Go.Value.int Go.IntKind.i64 1)), (1, Go.Operand.tmp 131), (2, Go.Operand.tmp 133), (3, Go.Operand.tmp 135)], type := 42, pos := _, after := #[{ on := 2, ground := Go.Ground.data }, { on := 4, ground := Go.Ground.data }, { on := 6, ground := Go.Ground.data }], guard := none } : Oper)) (v := ?_) rfl (by kernel_rfl) (by kernel_rfl) (by kernel_rfl) (fun _ _ _ h => h) (Or.inl ⟨by rfl, ?_⟩) (by assumption) ?_
  rotate_left
  · intro W' hSw
    try dsimp only at hSw
    go_simp
    try with_reducible rfl
  try simp only [Act.put, List.setIfInBounds_toArray, List.set_cons_zero, List.set_cons_succ]
  refine wpAnyH_ready (rs := [8]) (by kernel_rfl) (by simp) ?_
  refine AllReadyH.cons (o := ({ dst := none, op := Go.Op.store 42 (Go.Operand.tmp 2) (Go.Operand.tmp 136), type := 0, pos := _, after := #[{ on := 7, ground := Go.Ground.data }, { on := 2, ground := Go.Ground.chain }, { on := 0, ground := Go.Ground.phase }, { on := 1, ground := Go.Ground.phase }, { on := 2, ground := Go.Ground.phase }, { on := 3, ground := Go.Ground.phase }, { on := 4, ground := Go.Ground.phase }, { on := 5, ground := Go.Ground.phase }, { on := 6, ground := Go.Ground.phase }, { on := 7, ground := Go.Ground.phase }], guard := none } : Oper)) rfl (fun K hK => ?_) AllReadyH.nil
  go_simp
  refine hK.out _ _ ?_ (fun hHeld => ?_)
  · exact (by refine ⟨?_, ?_⟩ <;> simp [World.cell?_setCell_far, hne, HX6.out.1, HX6.out.2.1])
  clear hK K
  try simp only [Act.put, List.setIfInBounds_toArray, List.set_cons_zero, List.set_cons_succ]
  refine wpAnyH_take (i := 9) (oi := ({ dst := some 3, op := Go.Op.assign (Go.Operand.const (Go.Value.int Go.IntKind.i64 0)), type := 27, pos := _, after := #[{ on := 8, ground := Go.Ground.chain }, { on := 0, ground := Go.Ground.phase }, { on := 1, ground := Go.Ground.phase }, { on := 2, ground := Go.Ground.phase }, { on := 3, ground := Go.Ground.phase }, { on := 4, ground := Go.Ground.phase }, { on := 5, ground := Go.Ground.phase }, { on := 6, ground := Go.Ground.phase }, { on := 7, ground := Go.Ground.phase }, { on := 8, ground := Go.Ground.phase }], guard := none } : Oper)) (v := ?_) rfl (by kernel_rfl) (by kernel_rfl) (by kernel_rfl) (fun _ _ _ h => h) (Or.inl ⟨by rfl, ?_⟩) (by assumption) ?_
  rotate_left
  · intro W' hSw
    try dsimp only at hSw
    go_simp
    try with_reducible rfl
  try simp only [Act.put, List.setIfInBounds_toArray, List.set_cons_zero, List.set_cons_succ]
  refine wpAnyH_done (by kernel_rfl) ?_ _
  go_wp2
  exact bodyPost_ret (v := .tuple #[.agg #[.int .i64 1, .int .u8 m0, .int .u8 m1, .int .u8 m2, .int .u8 m3, .int .u8 m4, .int .u8 m5, .string f, .string u, .bool false], .int .i64 0]) (by simp [results, Tryd.results19, go_sem, hc6]) rfl ⟨rfl, below10r ((((Below.refl w.heap.size w).alloc (Nat.le_refl _) (.cells #[.int .u8 a0, .int .u8 a1, .int .u8 a2, .int .u8 a3, .int .u8 a4, .int .u8 a5, .int .u8 b0, .int .u8 b1, .int .u8 b2, .int .u8 b3, .int .u8 b4, .int .u8 b5, .int .i64 ty, .string s] 36)).alloc (by simp) (.cells #[.int .i64 0, .int .u8 0, .int .u8 0, .int .u8 0, .int .u8 0, .int .u8 0, .int .u8 0, .string ⟨#[]⟩, .string ⟨#[]⟩, .bool false] 42)).trans (HB6.out.mono (by simp; omega)))⟩
end

end Go.Proofs.YtdoefjhdipkkeaaDoor

namespace Go.Proofs.YtdoefjhdipkkeaaDoor
open Go.RowKit
set_option linter.unusedVariables false
set_option maxRecDepth 10000

set_option linter.unusedSectionVars false
section
variable (a0 a1 a2 a3 a4 a5 b0 b1 b2 b3 b4 b5 ty : Int) (s : ByteArray) (w : World) (f t : ByteArray) (bd : ByteArray) (ht : ty = 34525) (hs : s.size ≤ 140737488351232) (hd : dec (bts s) = (⟨f, t, 58, 255, bd⟩, 0)) (hf16 : f.size ≤ 16) (h6 : f.size = 16) (ht6 : t.size = 16) (hb32 : bd.size = 32)
include ht hs hd hf16 h6 ht6 hb32
set_option maxHeartbeats 4000000 in
set_option maxRecDepth 100000 in
theorem rread_tell (x0 : Int) (hx0 : byteAt (bts bd) 0 = x0) (x1 : Int) (hx1 : byteAt (bts bd) 1 = x1) (x24 : Int) (hx24 : byteAt (bts bd) 24 = x24) (x25 : Int) (hx25 : byteAt (bts bd) 25 = x25) (k0 : x0 = 136) (k1 : x1 = 0) (k24 : x24 = 2) (k25 : x25 = 1) (S : Int) (hS : fd (tot (pseu f t 58 32 ++ bts bd)) = S) (hg : S = 65535) (m0 m1 m2 m3 m4 m5 : Int) (hm : byteAt (bts bd) 26 = m0 ∧ byteAt (bts bd) 27 = m1 ∧ byteAt (bts bd) 28 = m2 ∧ byteAt (bts bd) 29 = m3 ∧ byteAt (bts bd) 30 = m4 ∧ byteAt (bts bd) 31 = m5) (u : ByteArray) (hu : bd.extract 8 24 = u) (x4 : Int) (hx4 : byteAt (bts bd) 4 = x4) (q : Bool) (hq : decide (x4 / 64 % 2 = 1) = q) : Calls Tryd.prog 19 #[.agg #[.int .u8 a0, .int .u8 a1, .int .u8 a2, .int .u8 a3, .int .u8 a4, .int .u8 a5, .int .u8 b0, .int .u8 b1, .int .u8 b2, .int .u8 b3, .int .u8 b4, .int .u8 b5, .int .i64 ty, .string s]] w (Told (⟨2, m0, m1, m2, m3, m4, m5, u, t, q⟩, 0) w) := by
  have HCD := Lib.hid (show bts (bd.extract 26 32) = [m0, m1, m2, m3, m4, m5] by
    obtain ⟨r0, r1, r2, r3, r4, r5⟩ := hm
    rw [bts_extract, ← r0, ← r1, ← r2, ← r3, ← r4, ← r5]
    exact six_bytes (bts bd) 26 (by rw [bts_len]; omega))
  have i4 : ((bd[4]'(by omega)).toNat : Int) = x4 := by rw [at_idx]; exact hx4
  have bq4 : 0 ≤ x4 ∧ x4 ≤ 255 := by rw [← hx4]; exact byteAt_bd (bts_byt bd) 4
  have tq : ((IntKind.u8.wrap (x4.tdiv 64)).tmod 2 == 1) = q := by
    rw [← hq, Int.tdiv_eq_ediv_of_nonneg bq4.1, IntKind.wrap_u8, Int.tmod_eq_emod_of_nonneg (by omega), Bool.eq_iff_iff]
    simp only [beq_iff_eq, decide_eq_true_eq]
    omega
  clear hx4 hq
  clear hm
  have n2 : ((f.size : Int) != 16) = false := by simp [h6]
  have n5 : ((bd.size : Int) != 32) = false := by simp [hb32]
  have m32 : (bd.size : Int) = 32 := by omega
  have i0 : ((bd[0]'(by omega)).toNat : Int) = x0 := by rw [at_idx]; exact hx0
  have i1 : ((bd[1]'(by omega)).toNat : Int) = x1 := by rw [at_idx]; exact hx1
  have i24 : ((bd[24]'(by omega)).toNat : Int) = x24 := by rw [at_idx]; exact hx24
  have i25 : ((bd[25]'(by omega)).toNat : Int) = x25 := by rw [at_idx]; exact hx25
  have e1 : (x0 == 135) = false := by simp [k0]
  have e3 : (x0 == 136) = true := by simp [k0]
  have e2 : (x24 == 2) = true := by simp [k24]
  have e4 : (x1 != 0) = false := by simp [k1]
  have e5 : (x25 != 1) = false := by simp [k25]
  obtain ⟨ps, hps⟩ : ∃ q, strOfNums (pseu f t 58 32) = q := ⟨_, rfl⟩
  have lp : ps.size = 40 := by rw [← hps, strOfNums_size, pseu_len f t 58 32 h6 ht6]
  have HPS := Lib.hid hps
  have HBP := Lib.hid (show bts (ps ++ bd) = pseu f t 58 32 ++ bts bd by rw [bts_append, ← hps, bts_strOfNums (pseu_byt f t 58 32)])
  have HSS := Lib.hid hS
  have n65 : (S != 65535) = false := by simp [hg]
  clear hx0 hx1 hx24 hx25 hps hS hg k0 k1 k24 k25
  have g0 : (ty == 2054) = false := by simp [ht]
  have g00 : (ty != 34525) = false := by simp [ht]
  obtain ⟨c1, w1, hr1, ho1, hb1, hz1, -⟩ := conv_bytes ((w.alloc (.cells #[.int .u8 a0, .int .u8 a1, .int .u8 a2, .int .u8 a3, .int .u8 a4, .int .u8 a5, .int .u8 b0, .int .u8 b1, .int .u8 b2, .int .u8 b3, .int .u8 b4, .int .u8 b5, .int .i64 ty, .string s] 36)).alloc (.cells #[.int .i64 0, .int .u8 0, .int .u8 0, .int .u8 0, .int .u8 0, .int .u8 0, .int .u8 0, .string ⟨#[]⟩, .string ⟨#[]⟩, .bool false] 42)) ((w.alloc (.cells #[.int .u8 a0, .int .u8 a1, .int .u8 a2, .int .u8 a3, .int .u8 a4, .int .u8 a5, .int .u8 b0, .int .u8 b1, .int .u8 b2, .int .u8 b3, .int .u8 b4, .int .u8 b5, .int .i64 ty, .string s] 36)).alloc (.cells #[.int .i64 0, .int .u8 0, .int .u8 0, .int .u8 0, .int .u8 0, .int .u8 0, .int .u8 0, .string ⟨#[]⟩, .string ⟨#[]⟩, .bool false] 42)).heap.size s 9 Tryd.underlying9 (Nat.le_refl _) (by omega) (w.heap.size + 2) (by simp) s.size rfl
  have HD := Lib.hid (rdec_any (some ⟨w.heap.size + 2, 0, none⟩) s.size c1 (bts s) w1 (ho1.part (bts_byt s)) (by omega) f t 58 255 bd 0 hd)
  have HB1 := Lib.hid hb1
  have z1 : w.heap.size + 2 ≤ w1.heap.size := by have := hb1.size; simpa using this
  clear hb1 hz1 ho1 hd ht
  go_enter Tryd.func19, Tryd.ntmps19
  go_wp2_with fail
  refine HD.out.mono ?_
  rintro e w2 ⟨rfl, hb2⟩
  have HB2 := Lib.hid (below_then HB1.out (by simpa using z1) hb2)
  have z2 : w.heap.size + 2 ≤ w2.heap.size := by have := HB2.out.size; simpa using this
  obtain ⟨hc2, hf2⟩ : (∀ b o, b < w.heap.size + 2 → w2.cell? ⟨b, o, none⟩ = ((w.alloc (.cells #[.int .u8 a0, .int .u8 a1, .int .u8 a2, .int .u8 a3, .int .u8 a4, .int .u8 a5, .int .u8 b0, .int .u8 b1, .int .u8 b2, .int .u8 b3, .int .u8 b4, .int .u8 b5, .int .i64 ty, .string s] 36)).alloc (.cells #[.int .i64 0, .int .u8 0, .int .u8 0, .int .u8 0, .int .u8 0, .int .u8 0, .int .u8 0, .string ⟨#[]⟩, .string ⟨#[]⟩, .bool false] 42)).cell? ⟨b, o, none⟩) ∧ (∀ b o, b < w.heap.size + 2 → w2.frozen? ⟨b, o, none⟩ = ((w.alloc (.cells #[.int .u8 a0, .int .u8 a1, .int .u8 a2, .int .u8 a3, .int .u8 a4, .int .u8 a5, .int .u8 b0, .int .u8 b1, .int .u8 b2, .int .u8 b3, .int .u8 b4, .int .u8 b5, .int .i64 ty, .string s] 36)).alloc (.cells #[.int .i64 0, .int .u8 0, .int .u8 0, .int .u8 0, .int .u8 0, .int .u8 0, .int .u8 0, .string ⟨#[]⟩, .string ⟨#[]⟩, .bool false] 42)).frozen? ⟨b, o, none⟩) :=
    ⟨fun b o h => HB2.out.cell (p := ⟨b, o, none⟩) (by simpa using h), fun b o h => HB2.out.frozen (p := ⟨b, o, none⟩) (by simpa using h)⟩
  have y2 : w.heap.size + 1 < w2.heap.size := z2
  clear hb2 HD
  have HX2 := Lib.hid (Boxed.new w2 f t 58 255 bd)
  go_wp2_with fail
  refine (rpseudo_six f t 58 32 _ (by omega) (by omega) h6 ht6).mono ?_
  rintro e w3 ⟨g3, c3, rfl, ho3, hb3⟩
  have HB3 := Lib.hid (below_then (HB2.out.alloc (by simpa using z2) (.cells #[.string f, .string t, .int .i64 58, .int .i64 255, .string bd] 72)) (by simp; omega) hb3.out)
  have HX3 := Lib.hid (HX2.out.below hb3.out (by simp))
  have q3 : w2.heap.size + 1 ≤ w3.heap.size := by have := hb3.out.size; simpa using this
  have hcv3 : (convert 26 9 (.slice (some ⟨g3, 0, none⟩) 40 c3)).run Tryd.prog w3 = .ok (.string ps) w3 := by rw [← HPS.out]; exact convert_part (ho3.out.part (pseu_byt f t 58 32)) 9 Tryd.underlying9
  obtain ⟨c4, w4, hr4, ho4, hb4, hz4, -⟩ := conv_bytes w3 w3.heap.size (ps ++ bd) 9 Tryd.underlying9 (Nat.le_refl _) (by rw [ByteArray.size_append]; omega) w3.heap.size rfl 72 (by rw [ByteArray.size_append]; omega)
  rw [HBP.out] at ho4
  have HB4 := Lib.hid (below_then HB3.out (by simp; omega) hb4)
  have z4 : w.heap.size + 2 ≤ w4.heap.size := by omega
  obtain ⟨hc4, hf4⟩ : (∀ b o, b < w.heap.size + 2 → w4.cell? ⟨b, o, none⟩ = ((w.alloc (.cells #[.int .u8 a0, .int .u8 a1, .int .u8 a2, .int .u8 a3, .int .u8 a4, .int .u8 a5, .int .u8 b0, .int .u8 b1, .int .u8 b2, .int .u8 b3, .int .u8 b4, .int .u8 b5, .int .i64 ty, .string s] 36)).alloc (.cells #[.int .i64 0, .int .u8 0, .int .u8 0, .int .u8 0, .int .u8 0, .int .u8 0, .int .u8 0, .string ⟨#[]⟩, .string ⟨#[]⟩, .bool false] 42)).cell? ⟨b, o, none⟩) ∧ (∀ b o, b < w.heap.size + 2 → w4.frozen? ⟨b, o, none⟩ = ((w.alloc (.cells #[.int .u8 a0, .int .u8 a1, .int .u8 a2, .int .u8 a3, .int .u8 a4, .int .u8 a5, .int .u8 b0, .int .u8 b1, .int .u8 b2, .int .u8 b3, .int .u8 b4, .int .u8 b5, .int .i64 ty, .string s] 36)).alloc (.cells #[.int .i64 0, .int .u8 0, .int .u8 0, .int .u8 0, .int .u8 0, .int .u8 0, .int .u8 0, .string ⟨#[]⟩, .string ⟨#[]⟩, .bool false] 42)).frozen? ⟨b, o, none⟩) :=
    ⟨fun b o h => HB4.out.cell (p := ⟨b, o, none⟩) (by simpa using h), fun b o h => HB4.out.frozen (p := ⟨b, o, none⟩) (by simpa using h)⟩
  have y4 : w.heap.size + 1 < w4.heap.size := z4
  have HX4 := Lib.hid (HX3.out.below hb4 (by omega))
  have q4 : w2.heap.size + 1 ≤ w4.heap.size := by omega
  have q4' : w2.heap.size < w4.heap.size := q4
  have HPP := Lib.hid (ho4.part ((pseu_byt f t 58 32).append (bts_byt bd)))
  clear hb3 ho3 hz4 ho4 hb4 hc2 hf2 y2
  go_wp2_with fail
  refine (rsum_any (some ⟨w3.heap.size, 0, none⟩) 72 c4 _ w4 HPP.out (by omega)).mono ?_
  rintro e w5 ⟨rfl, rfl⟩
  rw [HSS.out]
  have hne : w.heap.size + 1 ≠ w2.heap.size := by omega
  go_wp2_with fail
  refine wp_region_held_drew (S := fun W => W.cell? ⟨w2.heap.size, 0, none⟩ = some (.string f) ∧ W.cell? ⟨w2.heap.size, 1, none⟩ = some (.string t)) (by kernel_rfl) ⟨HX4.out.1, HX4.out.2.1⟩ (fun hHeld => ?_)
  refine wpAnyH_take (i := 0) (oi := ({ dst := some 137, op := Go.Op.move (Go.Operand.tmp 7), type := 9, pos := _, after := #[], guard := none } : Oper)) (v := ?_) rfl (by kernel_rfl) (by kernel_rfl) (by kernel_rfl) (fun _ _ _ h => h) (Or.inl ⟨by rfl, ?_⟩) (by assumption) ?_
  rotate_left
  · intro W' hSw
    try dsimp only at hSw
    go_simp
    try with_reducible rfl
  try simp only [Act.put, List.setIfInBounds_toArray, List.set_cons_zero, List.set_cons_succ]
  refine wpAnyH_take (i := 1) (oi := ({ dst := some 138, op := Go.Op.slice 9 (Go.Operand.tmp 137) (some (Go.Operand.const (Go.Value.int Go.IntKind.i64 26))) none none, type := 9, pos := _, after := #[{ on := 0, ground := Go.Ground.data }], guard := none } : Oper)) (v := ?_) rfl (by kernel_rfl) (by kernel_rfl) (by kernel_rfl) (fun _ _ _ h => h) (Or.inl ⟨by rfl, ?_⟩) (by assumption) ?_
  rotate_left
  · intro W' hSw
    try dsimp only at hSw
    go_simp
    try with_reducible rfl
  try simp only [Act.put, List.setIfInBounds_toArray, List.set_cons_zero, List.set_cons_succ]
  refine wpAnyH_take (i := 3) (oi := ({ dst := some 140, op := Go.Op.move (Go.Operand.tmp 7), type := 9, pos := _, after := #[], guard := none } : Oper)) (v := ?_) rfl (by kernel_rfl) (by kernel_rfl) (by kernel_rfl) (fun _ _ _ h => h) (Or.inl ⟨by rfl, ?_⟩) (by assumption) ?_
  rotate_left
  · intro W' hSw
    try dsimp only at hSw
    go_simp
    try with_reducible rfl
  try simp only [Act.put, List.setIfInBounds_toArray, List.set_cons_zero, List.set_cons_succ]
  refine wpAnyH_take (i := 4) (oi := ({ dst := some 141, op := Go.Op.slice 9 (Go.Operand.tmp 140) (some (Go.Operand.const (Go.Value.int Go.IntKind.i64 8))) (some (Go.Operand.const (Go.Value.int Go.IntKind.i64 24))) none, type := 9, pos := _, after := #[{ on := 3, ground := Go.Ground.data }], guard := none } : Oper)) (v := ?_) rfl (by kernel_rfl) (by kernel_rfl) (by kernel_rfl) (fun _ _ _ h => h) (Or.inl ⟨by rfl, ?_⟩) (by assumption) ?_
  rotate_left
  · intro W' hSw
    try dsimp only at hSw
    go_simp
    try with_reducible rfl
  try simp only [Act.put, List.setIfInBounds_toArray, List.set_cons_zero, List.set_cons_succ]
  refine wpAnyH_take (i := 5) (oi := ({ dst := some 142, op := Go.Op.fieldAddr 72 (Go.Operand.tmp 5) 1, type := 0, pos := _, after := #[], guard := none } : Oper)) (v := ?_) rfl (by kernel_rfl) (by kernel_rfl) (by kernel_rfl) (fun _ _ _ h => h) (Or.inl ⟨by rfl, ?_⟩) (by assumption) ?_
  rotate_left
  · intro W' hSw
    try dsimp only at hSw
    go_simp
    try with_reducible rfl
  try simp only [Act.put, List.setIfInBounds_toArray, List.set_cons_zero, List.set_cons_succ]
  refine wpAnyH_take (i := 6) (oi := ({ dst := some 143, op := Go.Op.load 24 (Go.Operand.tmp 142), type := 24, pos := _, after := #[{ on := 5, ground := Go.Ground.data }], guard := none } : Oper)) (v := ?_) rfl (by kernel_rfl) (by kernel_rfl) (by kernel_rfl) (fun _ _ _ h => h) (Or.inl ⟨by rfl, ?_⟩) (by assumption) ?_
  rotate_left
  · intro W' hSw
    try dsimp only at hSw
    go_simp
    try with_reducible rfl
  try simp only [Act.put, List.setIfInBounds_toArray, List.set_cons_zero, List.set_cons_succ]
  refine wpAnyH_take (i := 7) (oi := ({ dst := some 144, op := Go.Op.move (Go.Operand.tmp 7), type := 9, pos := _, after := #[], guard := none } : Oper)) (v := ?_) rfl (by kernel_rfl) (by kernel_rfl) (by kernel_rfl) (fun _ _ _ h => h) (Or.inl ⟨by rfl, ?_⟩) (by assumption) ?_
  rotate_left
  · intro W' hSw
    try dsimp only at hSw
    go_simp
    try with_reducible rfl
  try simp only [Act.put, List.setIfInBounds_toArray, List.set_cons_zero, List.set_cons_succ]
  refine wpAnyH_take (i := 8) (oi := ({ dst := some 145, op := Go.Op.index 9 (Go.Operand.tmp 144) (Go.Operand.const (Go.Value.int Go.IntKind.i64 4)), type := 5, pos := _, after := #[{ on := 7, ground := Go.Ground.data }], guard := none } : Oper)) (v := ?_) rfl (by kernel_rfl) (by kernel_rfl) (by kernel_rfl) (fun _ _ _ h => h) (Or.inl ⟨by rfl, ?_⟩) (by assumption) ?_
  rotate_left
  · intro W' hSw
    try dsimp only at hSw
    go_simp
    try with_reducible rfl
  try simp only [Act.put, List.setIfInBounds_toArray, List.set_cons_zero, List.set_cons_succ]
  refine wpAnyH_take (i := 9) (oi := ({ dst := some 146, op := Go.Op.binOp Go.BinOp.quo 5 (Go.Operand.tmp 145) (Go.Operand.const (Go.Value.int Go.IntKind.u8 64)) 5, type := 5, pos := _, after := #[{ on := 8, ground := Go.Ground.data }], guard := none } : Oper)) (v := ?_) rfl (by kernel_rfl) (by kernel_rfl) (by kernel_rfl) (fun _ _ _ h => h) (Or.inl ⟨by rfl, ?_⟩) (by assumption) ?_
  rotate_left
  · intro W' hSw
    try dsimp only at hSw
    go_simp
    try with_reducible rfl
  try simp only [Act.put, List.setIfInBounds_toArray, List.set_cons_zero, List.set_cons_succ]
  refine wpAnyH_take (i := 10) (oi := ({ dst := some 147, op := Go.Op.binOp Go.BinOp.rem 5 (Go.Operand.tmp 146) (Go.Operand.const (Go.Value.int Go.IntKind.u8 2)) 5, type := 5, pos := _, after := #[{ on := 9, ground := Go.Ground.data }], guard := none } : Oper)) (v := ?_) rfl (by kernel_rfl) (by kernel_rfl) (by kernel_rfl) (fun _ _ _ h => h) (Or.inl ⟨by rfl, ?_⟩) (by assumption) ?_
  rotate_left
  · intro W' hSw
    try dsimp only at hSw
    go_simp
    try with_reducible rfl
  try simp only [Act.put, List.setIfInBounds_toArray, List.set_cons_zero, List.set_cons_succ]
  refine wpAnyH_take (i := 11) (oi := ({ dst := some 148, op := Go.Op.binOp Go.BinOp.eql 5 (Go.Operand.tmp 147) (Go.Operand.const (Go.Value.int Go.IntKind.u8 1)) 5, type := 4, pos := _, after := #[{ on := 10, ground := Go.Ground.data }], guard := none } : Oper)) (v := ?_) rfl (by kernel_rfl) (by kernel_rfl) (by kernel_rfl) (fun _ _ _ h => h) (Or.inl ⟨by rfl, ?_⟩) (by assumption) ?_
  rotate_left
  · intro W' hSw
    try dsimp only at hSw
    go_simp
    try with_reducible rfl
  try simp only [Act.put, List.setIfInBounds_toArray, List.set_cons_zero, List.set_cons_succ]
  refine wpAnyH_ready (rs := [2]) (by kernel_rfl) (by simp) ?_
  refine AllReadyH.cons (o := ({ dst := some 139, op := Go.Op.call { callee := Go.Callee.value (Go.Operand.func 38), args := #[Go.Operand.tmp 138], argTypes := #[9] }, type := 23, pos := _, after := #[{ on := 1, ground := Go.Ground.data }], guard := none } : Oper)) rfl (fun K hK => ?_) AllReadyH.nil
  go_simp
  refine (card_at HCD.out _).mono ?_
  rintro e w6 ⟨rfl, hb⟩
  have HB6 := Lib.hid (below_then HB4.out (by simpa using z4) (below_left hb))
  have HX6 := Lib.hid (HX4.out.below (below_left hb) q4)
  have z6 : w.heap.size + 2 ≤ w6.heap.size := by have := HB6.out.size; simpa using this
  obtain ⟨hc6, hf6⟩ : (∀ b o, b < w.heap.size + 2 → w6.cell? ⟨b, o, none⟩ = ((w.alloc (.cells #[.int .u8 a0, .int .u8 a1, .int .u8 a2, .int .u8 a3, .int .u8 a4, .int .u8 a5, .int .u8 b0, .int .u8 b1, .int .u8 b2, .int .u8 b3, .int .u8 b4, .int .u8 b5, .int .i64 ty, .string s] 36)).alloc (.cells #[.int .i64 0, .int .u8 0, .int .u8 0, .int .u8 0, .int .u8 0, .int .u8 0, .int .u8 0, .string ⟨#[]⟩, .string ⟨#[]⟩, .bool false] 42)).cell? ⟨b, o, none⟩) ∧ (∀ b o, b < w.heap.size + 2 → w6.frozen? ⟨b, o, none⟩ = ((w.alloc (.cells #[.int .u8 a0, .int .u8 a1, .int .u8 a2, .int .u8 a3, .int .u8 a4, .int .u8 a5, .int .u8 b0, .int .u8 b1, .int .u8 b2, .int .u8 b3, .int .u8 b4, .int .u8 b5, .int .i64 ty, .string s] 36)).alloc (.cells #[.int .i64 0, .int .u8 0, .int .u8 0, .int .u8 0, .int .u8 0, .int .u8 0, .int .u8 0, .string ⟨#[]⟩, .string ⟨#[]⟩, .bool false] 42)).frozen? ⟨b, o, none⟩) :=
    ⟨fun b o h => HB6.out.cell (p := ⟨b, o, none⟩) (by simpa using h), fun b o h => HB6.out.frozen (p := ⟨b, o, none⟩) (by simpa using h)⟩
  have y6 : w.heap.size + 1 < w6.heap.size := z6
  clear hb
  go_wp2_with fail
  refine hK.out _ _ ?_ (fun hHeld => ?_)
  · exact ⟨HX6.out.1, HX6.out.2.1⟩
  clear hK K
  try simp only [Act.put, List.setIfInBounds_toArray, List.set_cons_zero, List.set_cons_succ]
  refine wpAnyH_take (i := 12) (oi := ({ dst := some 149, op := Go.Op.build 42 #[(0, Go.Operand.const (Go.Value.int Go.IntKind.i64 2)), (1, Go.Operand.tmp 139), (2, Go.Operand.tmp 141), (3, Go.Operand.tmp 143), (4, Go.Operand.tmp 148)], type := 42, pos := _, after := #[{ on := 2, ground := Go.Ground.data }, { on := 4, ground := Go.Ground.data }, { on := 6, ground := Go.Ground.data }, { on := 11, ground := Go.Ground.data }], guard := none } : Oper)) (v := ?_) rfl (by kernel_rfl) (by kernel_rfl) (by kernel_rfl) (fun _ _ _ h => h) (Or.inl ⟨by rfl, ?_⟩) (by assumption) ?_
  rotate_left
  · intro W' hSw
    try dsimp only at hSw
    go_simp
    try with_reducible rfl
  try simp only [Act.put, List.setIfInBounds_toArray, List.set_cons_zero, List.set_cons_succ]
  refine wpAnyH_ready (rs := [13]) (by kernel_rfl) (by simp) ?_
  refine AllReadyH.cons (o := ({ dst := none, op := Go.Op.store 42 (Go.Operand.tmp 2) (Go.Operand.tmp 149), type := 0, pos := _, after := #[{ on := 12, ground := Go.Ground.data }, { on := 2, ground := Go.Ground.chain }, { on := 0, ground := Go.Ground.phase }, { on := 1, ground := Go.Ground.phase }, { on := 2, ground := Go.Ground.phase }, { on := 3, ground := Go.Ground.phase }, { on := 4, ground := Go.Ground.phase }, { on := 5, ground := Go.Ground.phase }, { on := 6, ground := Go.Ground.phase }, { on := 7, ground := Go.Ground.phase }, { on := 8, ground := Go.Ground.phase }, { on := 9, ground := Go.Ground.phase }, { on := 10, ground := Go.Ground.phase }, { on := 11, ground := Go.Ground.phase }, { on := 12, ground := Go.Ground.phase }], guard := none } : Oper)) rfl (fun K hK => ?_) AllReadyH.nil
  go_simp
  refine hK.out _ _ ?_ (fun hHeld => ?_)
  · exact (by refine ⟨?_, ?_⟩ <;> simp [World.cell?_setCell_far, hne, HX6.out.1, HX6.out.2.1])
  clear hK K
  try simp only [Act.put, List.setIfInBounds_toArray, List.set_cons_zero, List.set_cons_succ]
  refine wpAnyH_take (i := 14) (oi := ({ dst := some 3, op := Go.Op.assign (Go.Operand.const (Go.Value.int Go.IntKind.i64 0)), type := 27, pos := _, after := #[{ on := 13, ground := Go.Ground.chain }, { on := 0, ground := Go.Ground.phase }, { on := 1, ground := Go.Ground.phase }, { on := 2, ground := Go.Ground.phase }, { on := 3, ground := Go.Ground.phase }, { on := 4, ground := Go.Ground.phase }, { on := 5, ground := Go.Ground.phase }, { on := 6, ground := Go.Ground.phase }, { on := 7, ground := Go.Ground.phase }, { on := 8, ground := Go.Ground.phase }, { on := 9, ground := Go.Ground.phase }, { on := 10, ground := Go.Ground.phase }, { on := 11, ground := Go.Ground.phase }, { on := 12, ground := Go.Ground.phase }, { on := 13, ground := Go.Ground.phase }], guard := none } : Oper)) (v := ?_) rfl (by kernel_rfl) (by kernel_rfl) (by kernel_rfl) (fun _ _ _ h => h) (Or.inl ⟨by rfl, ?_⟩) (by assumption) ?_
  rotate_left
  · intro W' hSw
    try dsimp only at hSw
    go_simp
    try with_reducible rfl
  try simp only [Act.put, List.setIfInBounds_toArray, List.set_cons_zero, List.set_cons_succ]
  refine wpAnyH_done (by kernel_rfl) ?_ _
  go_wp2
  exact bodyPost_ret (v := .tuple #[.agg #[.int .i64 2, .int .u8 m0, .int .u8 m1, .int .u8 m2, .int .u8 m3, .int .u8 m4, .int .u8 m5, .string u, .string t, .bool q], .int .i64 0]) (by simp [results, Tryd.results19, go_sem, hc6]) rfl ⟨rfl, below10r ((((Below.refl w.heap.size w).alloc (Nat.le_refl _) (.cells #[.int .u8 a0, .int .u8 a1, .int .u8 a2, .int .u8 a3, .int .u8 a4, .int .u8 a5, .int .u8 b0, .int .u8 b1, .int .u8 b2, .int .u8 b3, .int .u8 b4, .int .u8 b5, .int .i64 ty, .string s] 36)).alloc (by simp) (.cells #[.int .i64 0, .int .u8 0, .int .u8 0, .int .u8 0, .int .u8 0, .int .u8 0, .int .u8 0, .string ⟨#[]⟩, .string ⟨#[]⟩, .bool false] 42)).trans (HB6.out.mono (by simp; omega)))⟩
end

end Go.Proofs.YtdoefjhdipkkeaaDoor

namespace Go.Proofs.YtdoefjhdipkkeaaDoor
open Go.RowKit
set_option linter.unusedVariables false
set_option maxRecDepth 10000


theorem ext_seg (s : ByteArray) (i j n : Nat) (h : j = i + n) : s.extract i j = seg (bts s) i n := by
  subst h
  have := strOfNums_bts (s.extract i (i + n))
  rw [bts_extract, Nat.add_sub_cancel_left] at this
  exact this.symm
theorem take8 (b : List Int) (h : 8 ≤ b.length) (l : List Int) (k : Int) (hl : l.length = 7) : b.take 8 = l ++ [k] ↔ b.take 7 = l ∧ byteAt b 7 = k := by
  have e : b.take 8 = b.take 7 ++ [byteAt b 7] := by
    rw [List.take_add_one]
    have : 7 < b.length := by omega
    simp [byteAt, this]
  rw [e]
  constructor
  · intro h'
    have := List.append_inj h' (by rw [List.length_take, hl]; omega)
    exact ⟨this.1, by simpa using this.2⟩
  · rintro ⟨h1, h2⟩
    rw [h1, h2]
/-- outriderref04.Read. -/
theorem rread_any (a0 a1 a2 a3 a4 a5 b0 b1 b2 b3 b4 b5 ty : Int) (s : ByteArray) (w : World) (hs : s.size ≤ 140737488351232) : Calls Tryd.prog 19 #[.agg #[.int .u8 a0, .int .u8 a1, .int .u8 a2, .int .u8 a3, .int .u8 a4, .int .u8 a5, .int .u8 b0, .int .u8 b1, .int .u8 b2, .int .u8 b3, .int .u8 b4, .int .u8 b5, .int .i64 ty, .string s]] w (Told (rd ty (bts s)) w) := by
  unfold rd
  by_cases t1 : ty = 2054
  · rw [if_pos t1]
    unfold rdArp
    by_cases h1 : (bts s).length < 28
    · rw [if_pos h1]; exact rread_short a0 a1 a2 a3 a4 a5 b0 b1 b2 b3 b4 b5 ty s w t1 (by rwa [bts_len] at h1)
    rw [if_neg h1]
    have h28 : 28 ≤ s.size := by rw [bts_len] at h1; omega
    have hl : 8 ≤ (bts s).length := by omega
    have k1 := take8 (bts s) hl [0, 1, 8, 0, 6, 4, 0] 1 rfl
    have k2 := take8 (bts s) hl [0, 1, 8, 0, 6, 4, 0] 2 rfl
    by_cases h2 : (bts s).take 7 ≠ [0, 1, 8, 0, 6, 4, 0]
    · rw [if_pos h2]; exact rread_form a0 a1 a2 a3 a4 a5 b0 b1 b2 b3 b4 b5 ty s w t1 h28 (fun h => h2 (k1.1 h).1) (fun h => h2 (k2.1 h).1)
    rw [if_neg h2]
    have h2' : (bts s).take 7 = [0, 1, 8, 0, 6, 4, 0] := by simpa using h2
    by_cases h3 : byteAt (bts s) 7 ≠ 1 ∧ byteAt (bts s) 7 ≠ 2
    · rw [if_pos h3]; exact rread_form a0 a1 a2 a3 a4 a5 b0 b1 b2 b3 b4 b5 ty s w t1 h28 (fun h => h3.1 (k1.1 h).2) (fun h => h3.2 (k2.1 h).2)
    rw [if_neg h3]
    by_cases h4 : byteAt (bts s) 7 = 1
    · have h := rread_ok1 a0 a1 a2 a3 a4 a5 b0 b1 b2 b3 b4 b5 ty s w t1 h28 (k1.2 ⟨h2', h4⟩) (fun h => by have := (k2.1 h).2; omega) _ _ _ _ _ _ ⟨rfl, rfl, rfl, rfl, rfl, rfl⟩ _ _ (ext_seg s 14 18 4 rfl) (ext_seg s 24 28 4 rfl) h4
      rw [h4]; exact h
    · have h5 : byteAt (bts s) 7 = 2 := by omega
      have h := rread_ok2 a0 a1 a2 a3 a4 a5 b0 b1 b2 b3 b4 b5 ty s w t1 h28 (fun h => by have := (k1.1 h).2; omega) (k2.2 ⟨h2', h5⟩) _ _ _ _ _ _ ⟨rfl, rfl, rfl, rfl, rfl, rfl⟩ _ _ (ext_seg s 14 18 4 rfl) (ext_seg s 24 28 4 rfl) h5
      rw [h5]; exact h
  rw [if_neg t1]
  by_cases t2 : ¬ ty = 34525
  · rw [if_neg t2]; exact rread_else a0 a1 a2 a3 a4 a5 b0 b1 b2 b3 b4 b5 ty s w t1 t2
  have t2 : ty = 34525 := by omega
  rw [if_pos t2]
  have hz := dec_sizes (bts s)
  unfold rdV6
  rcases hd : dec (bts s) with ⟨⟨f, t, p, l, bd⟩, r⟩
  rw [hd] at hz
  obtain ⟨z1, z2, z3, z4⟩ := hz
  simp only at z1 z2 z3 z4
  by_cases h1 : r ≠ 0
  · rw [if_pos h1]; exact rread_n1 a0 a1 a2 a3 a4 a5 b0 b1 b2 b3 b4 b5 ty s w f t p l bd r t2 hs hd z1 h1
  rw [if_neg h1]
  have h1 : r = 0 := by omega
  unfold rdNd
  by_cases h2 : f.size ≠ 16 ∨ p ≠ 58 ∨ l ≠ 255 ∨ bd.size ≠ 32
  · rw [if_pos h2]
    by_cases q1 : f.size = 16
    · by_cases q2 : p = 58
      · by_cases q3 : l = 255
        · exact rread_n5 a0 a1 a2 a3 a4 a5 b0 b1 b2 b3 b4 b5 ty s w f t p l bd r t2 hs hd z1 h1 q1 q2 q3 (by omega)
        · exact rread_n4 a0 a1 a2 a3 a4 a5 b0 b1 b2 b3 b4 b5 ty s w f t p l bd r t2 hs hd z1 h1 q1 q2 q3
      · exact rread_n3 a0 a1 a2 a3 a4 a5 b0 b1 b2 b3 b4 b5 ty s w f t p l bd r t2 hs hd z1 h1 q1 q2
    · exact rread_n2 a0 a1 a2 a3 a4 a5 b0 b1 b2 b3 b4 b5 ty s w f t p l bd r t2 hs hd z1 h1 q1
  rw [if_neg h2]
  obtain ⟨q1, q2, q3, q4⟩ : f.size = 16 ∧ p = 58 ∧ l = 255 ∧ bd.size = 32 := by omega
  subst q2 q3 h1
  have q5 := z4 q1
  by_cases h3 : isF (bts bd) 135 1 = false ∧ isF (bts bd) 136 2 = false
  · rw [if_pos h3]
    obtain ⟨nA, nT⟩ := h3
    have nA' : ¬ (byteAt (bts bd) 0 = 135 ∧ byteAt (bts bd) 1 = 0 ∧ byteAt (bts bd) 24 = 1 ∧ byteAt (bts bd) 25 = 1) := fun h => by simp [isF, h.1, h.2.1, h.2.2.1, h.2.2.2] at nA
    have nT' : ¬ (byteAt (bts bd) 0 = 136 ∧ byteAt (bts bd) 1 = 0 ∧ byteAt (bts bd) 24 = 2 ∧ byteAt (bts bd) 25 = 1) := fun h => by simp [isF, h.1, h.2.1, h.2.2.1, h.2.2.2] at nT
    clear nA nT
    by_cases x1 : byteAt (bts bd) 1 = 0
    · by_cases x25 : byteAt (bts bd) 25 = 1
      · by_cases x0 : byteAt (bts bd) 0 = 135
        · exact rread_fq3 a0 a1 a2 a3 a4 a5 b0 b1 b2 b3 b4 b5 ty s w f t bd t2 hs hd z1 q1 q5 q4 _ rfl _ rfl _ rfl _ rfl x0 (fun h => nA' ⟨x0, x1, h, x25⟩) x1 x25
        · by_cases x0' : byteAt (bts bd) 0 = 136
          · exact rread_fs3 a0 a1 a2 a3 a4 a5 b0 b1 b2 b3 b4 b5 ty s w f t bd t2 hs hd z1 q1 q5 q4 _ rfl _ rfl _ rfl _ rfl x0' (fun h => nT' ⟨x0', x1, h, x25⟩) x1 x25
          · exact rread_ft3 a0 a1 a2 a3 a4 a5 b0 b1 b2 b3 b4 b5 ty s w f t bd t2 hs hd z1 q1 q5 q4 _ rfl _ rfl _ rfl _ rfl x0 x0' x1 x25
      · by_cases x0 : byteAt (bts bd) 0 = 135
        · by_cases x24 : byteAt (bts bd) 24 = 1
          · exact rread_fp2 a0 a1 a2 a3 a4 a5 b0 b1 b2 b3 b4 b5 ty s w f t bd t2 hs hd z1 q1 q5 q4 _ rfl _ rfl _ rfl _ rfl x0 x24 x1 x25
          · exact rread_fq2 a0 a1 a2 a3 a4 a5 b0 b1 b2 b3 b4 b5 ty s w f t bd t2 hs hd z1 q1 q5 q4 _ rfl _ rfl _ rfl _ rfl x0 x24 x1 x25
        · by_cases x0' : byteAt (bts bd) 0 = 136
          · by_cases x24 : byteAt (bts bd) 24 = 2
            · exact rread_fr2 a0 a1 a2 a3 a4 a5 b0 b1 b2 b3 b4 b5 ty s w f t bd t2 hs hd z1 q1 q5 q4 _ rfl _ rfl _ rfl _ rfl x0' x24 x1 x25
            · exact rread_fs2 a0 a1 a2 a3 a4 a5 b0 b1 b2 b3 b4 b5 ty s w f t bd t2 hs hd z1 q1 q5 q4 _ rfl _ rfl _ rfl _ rfl x0' x24 x1 x25
          · exact rread_ft2 a0 a1 a2 a3 a4 a5 b0 b1 b2 b3 b4 b5 ty s w f t bd t2 hs hd z1 q1 q5 q4 _ rfl _ rfl _ rfl _ rfl x0 x0' x1 x25
    · by_cases x0 : byteAt (bts bd) 0 = 135
      · by_cases x24 : byteAt (bts bd) 24 = 1
        · exact rread_fp1 a0 a1 a2 a3 a4 a5 b0 b1 b2 b3 b4 b5 ty s w f t bd t2 hs hd z1 q1 q5 q4 _ rfl _ rfl _ rfl _ rfl x0 x24 x1
        · exact rread_fq1 a0 a1 a2 a3 a4 a5 b0 b1 b2 b3 b4 b5 ty s w f t bd t2 hs hd z1 q1 q5 q4 _ rfl _ rfl _ rfl _ rfl x0 x24 x1
      · by_cases x0' : byteAt (bts bd) 0 = 136
        · by_cases x24 : byteAt (bts bd) 24 = 2
          · exact rread_fr1 a0 a1 a2 a3 a4 a5 b0 b1 b2 b3 b4 b5 ty s w f t bd t2 hs hd z1 q1 q5 q4 _ rfl _ rfl _ rfl _ rfl x0' x24 x1
          · exact rread_fs1 a0 a1 a2 a3 a4 a5 b0 b1 b2 b3 b4 b5 ty s w f t bd t2 hs hd z1 q1 q5 q4 _ rfl _ rfl _ rfl _ rfl x0' x24 x1
        · exact rread_ft1 a0 a1 a2 a3 a4 a5 b0 b1 b2 b3 b4 b5 ty s w f t bd t2 hs hd z1 q1 q5 q4 _ rfl _ rfl _ rfl _ rfl x0 x0' x1
  rw [if_neg h3]
  by_cases hA : isF (bts bd) 135 1 = true
  · have hx : byteAt (bts bd) 0 = 135 ∧ byteAt (bts bd) 1 = 0 ∧ byteAt (bts bd) 24 = 1 ∧ byteAt (bts bd) 25 = 1 := by simpa [isF, and_assoc] using hA
    by_cases hS : fd (tot (pseu f t 58 32 ++ bts bd)) ≠ 65535
    · rw [if_pos hS]; exact rread_bad_ask a0 a1 a2 a3 a4 a5 b0 b1 b2 b3 b4 b5 ty s w f t bd t2 hs hd z1 q1 q5 q4 _ rfl _ rfl _ rfl _ rfl hx.1 hx.2.1 hx.2.2.1 hx.2.2.2 _ rfl hS
    · rw [if_neg hS, if_pos hA]
      exact rread_ask a0 a1 a2 a3 a4 a5 b0 b1 b2 b3 b4 b5 ty s w f t bd t2 hs hd z1 q1 q5 q4 _ rfl _ rfl _ rfl _ rfl hx.1 hx.2.1 hx.2.2.1 hx.2.2.2 _ rfl (by simpa using hS) _ _ _ _ _ _ ⟨rfl, rfl, rfl, rfl, rfl, rfl⟩ _ (ext_seg bd 8 24 16 rfl)
  · have hT : isF (bts bd) 136 2 = true := by
      rcases h : isF (bts bd) 136 2 with _ | _
      · exact absurd ⟨by simpa using hA, h⟩ h3
      · rfl
    have hx : byteAt (bts bd) 0 = 136 ∧ byteAt (bts bd) 1 = 0 ∧ byteAt (bts bd) 24 = 2 ∧ byteAt (bts bd) 25 = 1 := by simpa [isF, and_assoc] using hT
    by_cases hS : fd (tot (pseu f t 58 32 ++ bts bd)) ≠ 65535
    · rw [if_pos hS]; exact rread_bad_tell a0 a1 a2 a3 a4 a5 b0 b1 b2 b3 b4 b5 ty s w f t bd t2 hs hd z1 q1 q5 q4 _ rfl _ rfl _ rfl _ rfl hx.1 hx.2.1 hx.2.2.1 hx.2.2.2 _ rfl hS
    · rw [if_neg hS, if_neg hA]
      exact rread_tell a0 a1 a2 a3 a4 a5 b0 b1 b2 b3 b4 b5 ty s w f t bd t2 hs hd z1 q1 q5 q4 _ rfl _ rfl _ rfl _ rfl hx.1 hx.2.1 hx.2.2.1 hx.2.2.2 _ rfl (by simpa using hS) _ _ _ _ _ _ ⟨rfl, rfl, rfl, rfl, rfl, rfl⟩ _ (ext_seg bd 8 24 16 rfl) _ rfl _ rfl

end Go.Proofs.YtdoefjhdipkkeaaDoor
