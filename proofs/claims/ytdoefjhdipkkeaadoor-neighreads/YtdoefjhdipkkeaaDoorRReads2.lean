/-
  What outriderref04.Read does with an ND of no form.
-/
import Derived.Test.YtdoefjhdipkkeaaDoorRReads1
import Derived.Test.YtdoefjhdipkkeaaDoorRdecs
import Derived.Test.YtdoefjhdipkkeaaDoorNdSizes
import Derived.Test.YtdoefjhdipkkeaaDoorPseudo
namespace Go.Proofs.YtdoefjhdipkkeaaDoor
open Go.RowKit
set_option linter.unusedVariables false
set_option maxRecDepth 10000

set_option linter.unusedSectionVars false
section
variable (a0 a1 a2 a3 a4 a5 b0 b1 b2 b3 b4 b5 ty : Int) (s : ByteArray) (w : World) (f t : ByteArray) (bd : ByteArray) (ht : ty = 34525) (hs : s.size ≤ 140737488351232) (hd : dec (bts s) = (⟨f, t, 58, 255, bd⟩, 0)) (hf16 : f.size ≤ 16) (h6 : f.size = 16) (ht6 : t.size = 16) (hb32 : bd.size = 32)
include ht hs hd hf16 h6 ht6 hb32
set_option maxHeartbeats 4000000 in
set_option maxRecDepth 100000 in
theorem rread_fp1 (x0 : Int) (hx0 : byteAt (bts bd) 0 = x0) (x1 : Int) (hx1 : byteAt (bts bd) 1 = x1) (x24 : Int) (hx24 : byteAt (bts bd) 24 = x24) (x25 : Int) (hx25 : byteAt (bts bd) 25 = x25) (k0 : x0 = 135) (k24 : x24 = 1) (k2 : x1 ≠ 0) : Calls Tryd.prog 19 #[.agg #[.int .u8 a0, .int .u8 a1, .int .u8 a2, .int .u8 a3, .int .u8 a4, .int .u8 a5, .int .u8 b0, .int .u8 b1, .int .u8 b2, .int .u8 b3, .int .u8 b4, .int .u8 b5, .int .i64 ty, .string s]] w (Told (Nt.zero, 40) w) := by
  have n2 : ((f.size : Int) != 16) = false := by simp [h6]
  have n5 : ((bd.size : Int) != 32) = false := by simp [hb32]
  have m32 : (bd.size : Int) = 32 := by omega
  have i0 : ((bd[0]'(by omega)).toNat : Int) = x0 := by rw [at_idx]; exact hx0
  have i1 : ((bd[1]'(by omega)).toNat : Int) = x1 := by rw [at_idx]; exact hx1
  have i24 : ((bd[24]'(by omega)).toNat : Int) = x24 := by rw [at_idx]; exact hx24
  have i25 : ((bd[25]'(by omega)).toNat : Int) = x25 := by rw [at_idx]; exact hx25
  have e1 : (x0 == 135) = true := by simp [k0]
  have e2 : (x24 == 1) = true := by simp [k24]
  have e3 : (x0 == 136) = false := by simp [k0]
  have e4 : (x1 != 0) = true := by simp [k2]
  clear k0 k24
  clear k2
  clear hx0 hx1 hx24 hx25
  have g0 : (ty == 2054) = false := by simp [ht]
  have g00 : (ty != 34525) = false := by simp [ht]
  obtain ⟨c1, w1, hr1, ho1, hb1, hz1, -⟩ := conv_bytes ((w.alloc (.cells #[.int .u8 a0, .int .u8 a1, .int .u8 a2, .int .u8 a3, .int .u8 a4, .int .u8 a5, .int .u8 b0, .int .u8 b1, .int .u8 b2, .int .u8 b3, .int .u8 b4, .int .u8 b5, .int .i64 ty, .string s] 36)).alloc (.cells #[.int .i64 0, .int .u8 0, .int .u8 0, .int .u8 0, .int .u8 0, .int .u8 0, .int .u8 0, .string ⟨#[]⟩, .string ⟨#[]⟩, .bool false] 42)) ((w.alloc (.cells #[.int .u8 a0, .int .u8 a1, .int .u8 a2, .int .u8 a3, .int .u8 a4, .int .u8 a5, .int .u8 b0, .int .u8 b1, .int .u8 b2, .int .u8 b3, .int .u8 b4, .int .u8 b5, .int .i64 ty, .string s] 36)).alloc (.cells #[.int .i64 0, .int .u8 0, .int .u8 0, .int .u8 0, .int .u8 0, .int .u8 0, .int .u8 0, .string ⟨#[]⟩, .string ⟨#[]⟩, .bool false] 42)).heap.size s 9 Tryd.underlying9 (Nat.le_refl _) (by omega) (w.heap.size + 2) (by simp) s.size rfl
  have HD := Lib.hid (rdec_any (some ⟨w.heap.size + 2, 0, none⟩) s.size c1 (bts s) w1 (ho1.part (bts_byt s)) (by omega) f t 58 255 bd 0 hd)
  have HB1 := Lib.hid hb1
  have z1 : w.heap.size + 2 ≤ w1.heap.size := by have := hb1.size; simpa using this
  clear hb1 hz1 ho1 hd ht
  go_enter Tryd.func19, Tryd.ntmps19
  go_wp2_with fail
  refine HD.out.mono ?_
  rintro e w2 ⟨rfl, hb2⟩
  have HB2 := Lib.hid (below_then HB1.out (by simpa using z1) hb2)
  have z2 : w.heap.size + 2 ≤ w2.heap.size := by have := HB2.out.size; simpa using this
  obtain ⟨hc2, hf2⟩ : (∀ b o, b < w.heap.size + 2 → w2.cell? ⟨b, o, none⟩ = ((w.alloc (.cells #[.int .u8 a0, .int .u8 a1, .int .u8 a2, .int .u8 a3, .int .u8 a4, .int .u8 a5, .int .u8 b0, .int .u8 b1, .int .u8 b2, .int .u8 b3, .int .u8 b4, .int .u8 b5, .int .i64 ty, .string s] 36)).alloc (.cells #[.int .i64 0, .int .u8 0, .int .u8 0, .int .u8 0, .int .u8 0, .int .u8 0, .int .u8 0, .string ⟨#[]⟩, .string ⟨#[]⟩, .bool false] 42)).cell? ⟨b, o, none⟩) ∧ (∀ b o, b < w.heap.size + 2 → w2.frozen? ⟨b, o, none⟩ = ((w.alloc (.cells #[.int .u8 a0, .int .u8 a1, .int .u8 a2, .int .u8 a3, .int .u8 a4, .int .u8 a5, .int .u8 b0, .int .u8 b1, .int .u8 b2, .int .u8 b3, .int .u8 b4, .int .u8 b5, .int .i64 ty, .string s] 36)).alloc (.cells #[.int .i64 0, .int .u8 0, .int .u8 0, .int .u8 0, .int .u8 0, .int .u8 0, .int .u8 0, .string ⟨#[]⟩, .string ⟨#[]⟩, .bool false] 42)).frozen? ⟨b, o, none⟩) :=
    ⟨fun b o h => HB2.out.cell (p := ⟨b, o, none⟩) (by simpa using h), fun b o h => HB2.out.frozen (p := ⟨b, o, none⟩) (by simpa using h)⟩
  have y2 : w.heap.size + 1 < w2.heap.size := z2
  clear hb2 HD
  go_wp2
  exact bodyPost_ret (v := .tuple #[.agg #[.int .i64 0, .int .u8 0, .int .u8 0, .int .u8 0, .int .u8 0, .int .u8 0, .int .u8 0, .string ⟨#[]⟩, .string ⟨#[]⟩, .bool false], .int .i64 40]) (by simp [results, Tryd.results19, go_sem, hc2, World.cell?_alloc_lt, y2]) rfl ⟨rfl, below_alloc (below10r ((((Below.refl w.heap.size w).alloc (Nat.le_refl _) (.cells #[.int .u8 a0, .int .u8 a1, .int .u8 a2, .int .u8 a3, .int .u8 a4, .int .u8 a5, .int .u8 b0, .int .u8 b1, .int .u8 b2, .int .u8 b3, .int .u8 b4, .int .u8 b5, .int .i64 ty, .string s] 36)).alloc (by simp) (.cells #[.int .i64 0, .int .u8 0, .int .u8 0, .int .u8 0, .int .u8 0, .int .u8 0, .int .u8 0, .string ⟨#[]⟩, .string ⟨#[]⟩, .bool false] 42)).trans (HB2.out.mono (by simp; omega)))) _⟩
set_option maxHeartbeats 4000000 in
set_option maxRecDepth 100000 in
theorem rread_fp2 (x0 : Int) (hx0 : byteAt (bts bd) 0 = x0) (x1 : Int) (hx1 : byteAt (bts bd) 1 = x1) (x24 : Int) (hx24 : byteAt (bts bd) 24 = x24) (x25 : Int) (hx25 : byteAt (bts bd) 25 = x25) (k0 : x0 = 135) (k24 : x24 = 1) (k2 : x1 = 0) (k3 : x25 ≠ 1) : Calls Tryd.prog 19 #[.agg #[.int .u8 a0, .int .u8 a1, .int .u8 a2, .int .u8 a3, .int .u8 a4, .int .u8 a5, .int .u8 b0, .int .u8 b1, .int .u8 b2, .int .u8 b3, .int .u8 b4, .int .u8 b5, .int .i64 ty, .string s]] w (Told (Nt.zero, 40) w) := by
  have n2 : ((f.size : Int) != 16) = false := by simp [h6]
  have n5 : ((bd.size : Int) != 32) = false := by simp [hb32]
  have m32 : (bd.size : Int) = 32 := by omega
  have i0 : ((bd[0]'(by omega)).toNat : Int) = x0 := by rw [at_idx]; exact hx0
  have i1 : ((bd[1]'(by omega)).toNat : Int) = x1 := by rw [at_idx]; exact hx1
  have i24 : ((bd[24]'(by omega)).toNat : Int) = x24 := by rw [at_idx]; exact hx24
  have i25 : ((bd[25]'(by omega)).toNat : Int) = x25 := by rw [at_idx]; exact hx25
  have e1 : (x0 == 135) = true := by simp [k0]
  have e2 : (x24 == 1) = true := by simp [k24]
  have e3 : (x0 == 136) = false := by simp [k0]
  have e4 : (x1 != 0) = false := by simp [k2]
  have e5 : (x25 != 1) = true := by simp [k3]
  clear k0 k24
  clear k2 k3
  clear hx0 hx1 hx24 hx25
  have g0 : (ty == 2054) = false := by simp [ht]
  have g00 : (ty != 34525) = false := by simp [ht]
  obtain ⟨c1, w1, hr1, ho1, hb1, hz1, -⟩ := conv_bytes ((w.alloc (.cells #[.int .u8 a0, .int .u8 a1, .int .u8 a2, .int .u8 a3, .int .u8 a4, .int .u8 a5, .int .u8 b0, .int .u8 b1, .int .u8 b2, .int .u8 b3, .int .u8 b4, .int .u8 b5, .int .i64 ty, .string s] 36)).alloc (.cells #[.int .i64 0, .int .u8 0, .int .u8 0, .int .u8 0, .int .u8 0, .int .u8 0, .int .u8 0, .string ⟨#[]⟩, .string ⟨#[]⟩, .bool false] 42)) ((w.alloc (.cells #[.int .u8 a0, .int .u8 a1, .int .u8 a2, .int .u8 a3, .int .u8 a4, .int .u8 a5, .int .u8 b0, .int .u8 b1, .int .u8 b2, .int .u8 b3, .int .u8 b4, .int .u8 b5, .int .i64 ty, .string s] 36)).alloc (.cells #[.int .i64 0, .int .u8 0, .int .u8 0, .int .u8 0, .int .u8 0, .int .u8 0, .int .u8 0, .string ⟨#[]⟩, .string ⟨#[]⟩, .bool false] 42)).heap.size s 9 Tryd.underlying9 (Nat.le_refl _) (by omega) (w.heap.size + 2) (by simp) s.size rfl
  have HD := Lib.hid (rdec_any (some ⟨w.heap.size + 2, 0, none⟩) s.size c1 (bts s) w1 (ho1.part (bts_byt s)) (by omega) f t 58 255 bd 0 hd)
  have HB1 := Lib.hid hb1
  have z1 : w.heap.size + 2 ≤ w1.heap.size := by have := hb1.size; simpa using this
  clear hb1 hz1 ho1 hd ht
  go_enter Tryd.func19, Tryd.ntmps19
  go_wp2_with fail
  refine HD.out.mono ?_
  rintro e w2 ⟨rfl, hb2⟩
  have HB2 := Lib.hid (below_then HB1.out (by simpa using z1) hb2)
  have z2 : w.heap.size + 2 ≤ w2.heap.size := by have := HB2.out.size; simpa using this
  obtain ⟨hc2, hf2⟩ : (∀ b o, b < w.heap.size + 2 → w2.cell? ⟨b, o, none⟩ = ((w.alloc (.cells #[.int .u8 a0, .int .u8 a1, .int .u8 a2, .int .u8 a3, .int .u8 a4, .int .u8 a5, .int .u8 b0, .int .u8 b1, .int .u8 b2, .int .u8 b3, .int .u8 b4, .int .u8 b5, .int .i64 ty, .string s] 36)).alloc (.cells #[.int .i64 0, .int .u8 0, .int .u8 0, .int .u8 0, .int .u8 0, .int .u8 0, .int .u8 0, .string ⟨#[]⟩, .string ⟨#[]⟩, .bool false] 42)).cell? ⟨b, o, none⟩) ∧ (∀ b o, b < w.heap.size + 2 → w2.frozen? ⟨b, o, none⟩ = ((w.alloc (.cells #[.int .u8 a0, .int .u8 a1, .int .u8 a2, .int .u8 a3, .int .u8 a4, .int .u8 a5, .int .u8 b0, .int .u8 b1, .int .u8 b2, .int .u8 b3, .int .u8 b4, .int .u8 b5, .int .i64 ty, .string s] 36)).alloc (.cells #[.int .i64 0, .int .u8 0, .int .u8 0, .int .u8 0, .int .u8 0, .int .u8 0, .int .u8 0, .string ⟨#[]⟩, .string ⟨#[]⟩, .bool false] 42)).frozen? ⟨b, o, none⟩) :=
    ⟨fun b o h => HB2.out.cell (p := ⟨b, o, none⟩) (by simpa using h), fun b o h => HB2.out.frozen (p := ⟨b, o, none⟩) (by simpa using h)⟩
  have y2 : w.heap.size + 1 < w2.heap.size := z2
  clear hb2 HD
  go_wp2
  exact bodyPost_ret (v := .tuple #[.agg #[.int .i64 0, .int .u8 0, .int .u8 0, .int .u8 0, .int .u8 0, .int .u8 0, .int .u8 0, .string ⟨#[]⟩, .string ⟨#[]⟩, .bool false], .int .i64 40]) (by simp [results, Tryd.results19, go_sem, hc2, World.cell?_alloc_lt, y2]) rfl ⟨rfl, below_alloc (below10r ((((Below.refl w.heap.size w).alloc (Nat.le_refl _) (.cells #[.int .u8 a0, .int .u8 a1, .int .u8 a2, .int .u8 a3, .int .u8 a4, .int .u8 a5, .int .u8 b0, .int .u8 b1, .int .u8 b2, .int .u8 b3, .int .u8 b4, .int .u8 b5, .int .i64 ty, .string s] 36)).alloc (by simp) (.cells #[.int .i64 0, .int .u8 0, .int .u8 0, .int .u8 0, .int .u8 0, .int .u8 0, .int .u8 0, .string ⟨#[]⟩, .string ⟨#[]⟩, .bool false] 42)).trans (HB2.out.mono (by simp; omega)))) _⟩
set_option maxHeartbeats 4000000 in
set_option maxRecDepth 100000 in
theorem rread_fq1 (x0 : Int) (hx0 : byteAt (bts bd) 0 = x0) (x1 : Int) (hx1 : byteAt (bts bd) 1 = x1) (x24 : Int) (hx24 : byteAt (bts bd) 24 = x24) (x25 : Int) (hx25 : byteAt (bts bd) 25 = x25) (k0 : x0 = 135) (k24 : x24 ≠ 1) (k2 : x1 ≠ 0) : Calls Tryd.prog 19 #[.agg #[.int .u8 a0, .int .u8 a1, .int .u8 a2, .int .u8 a3, .int .u8 a4, .int .u8 a5, .int .u8 b0, .int .u8 b1, .int .u8 b2, .int .u8 b3, .int .u8 b4, .int .u8 b5, .int .i64 ty, .string s]] w (Told (Nt.zero, 40) w) := by
  have n2 : ((f.size : Int) != 16) = false := by simp [h6]
  have n5 : ((bd.size : Int) != 32) = false := by simp [hb32]
  have m32 : (bd.size : Int) = 32 := by omega
  have i0 : ((bd[0]'(by omega)).toNat : Int) = x0 := by rw [at_idx]; exact hx0
  have i1 : ((bd[1]'(by omega)).toNat : Int) = x1 := by rw [at_idx]; exact hx1
  have i24 : ((bd[24]'(by omega)).toNat : Int) = x24 := by rw [at_idx]; exact hx24
  have i25 : ((bd[25]'(by omega)).toNat : Int) = x25 := by rw [at_idx]; exact hx25
  have e1 : (x0 == 135) = true := by simp [k0]
  have e2 : (x24 == 1) = false := by simp [k24]
  have e3 : (x0 == 136) = false := by simp [k0]
  have e4 : (x1 != 0) = true := by simp [k2]
  clear k0 k24
  clear k2
  clear hx0 hx1 hx24 hx25
  have g0 : (ty == 2054) = false := by simp [ht]
  have g00 : (ty != 34525) = false := by simp [ht]
  obtain ⟨c1, w1, hr1, ho1, hb1, hz1, -⟩ := conv_bytes ((w.alloc (.cells #[.int .u8 a0, .int .u8 a1, .int .u8 a2, .int .u8 a3, .int .u8 a4, .int .u8 a5, .int .u8 b0, .int .u8 b1, .int .u8 b2, .int .u8 b3, .int .u8 b4, .int .u8 b5, .int .i64 ty, .string s] 36)).alloc (.cells #[.int .i64 0, .int .u8 0, .int .u8 0, .int .u8 0, .int .u8 0, .int .u8 0, .int .u8 0, .string ⟨#[]⟩, .string ⟨#[]⟩, .bool false] 42)) ((w.alloc (.cells #[.int .u8 a0, .int .u8 a1, .int .u8 a2, .int .u8 a3, .int .u8 a4, .int .u8 a5, .int .u8 b0, .int .u8 b1, .int .u8 b2, .int .u8 b3, .int .u8 b4, .int .u8 b5, .int .i64 ty, .string s] 36)).alloc (.cells #[.int .i64 0, .int .u8 0, .int .u8 0, .int .u8 0, .int .u8 0, .int .u8 0, .int .u8 0, .string ⟨#[]⟩, .string ⟨#[]⟩, .bool false] 42)).heap.size s 9 Tryd.underlying9 (Nat.le_refl _) (by omega) (w.heap.size + 2) (by simp) s.size rfl
  have HD := Lib.hid (rdec_any (some ⟨w.heap.size + 2, 0, none⟩) s.size c1 (bts s) w1 (ho1.part (bts_byt s)) (by omega) f t 58 255 bd 0 hd)
  have HB1 := Lib.hid hb1
  have z1 : w.heap.size + 2 ≤ w1.heap.size := by have := hb1.size; simpa using this
  clear hb1 hz1 ho1 hd ht
  go_enter Tryd.func19, Tryd.ntmps19
  go_wp2_with fail
  refine HD.out.mono ?_
  rintro e w2 ⟨rfl, hb2⟩
  have HB2 := Lib.hid (below_then HB1.out (by simpa using z1) hb2)
  have z2 : w.heap.size + 2 ≤ w2.heap.size := by have := HB2.out.size; simpa using this
  obtain ⟨hc2, hf2⟩ : (∀ b o, b < w.heap.size + 2 → w2.cell? ⟨b, o, none⟩ = ((w.alloc (.cells #[.int .u8 a0, .int .u8 a1, .int .u8 a2, .int .u8 a3, .int .u8 a4, .int .u8 a5, .int .u8 b0, .int .u8 b1, .int .u8 b2, .int .u8 b3, .int .u8 b4, .int .u8 b5, .int .i64 ty, .string s] 36)).alloc (.cells #[.int .i64 0, .int .u8 0, .int .u8 0, .int .u8 0, .int .u8 0, .int .u8 0, .int .u8 0, .string ⟨#[]⟩, .string ⟨#[]⟩, .bool false] 42)).cell? ⟨b, o, none⟩) ∧ (∀ b o, b < w.heap.size + 2 → w2.frozen? ⟨b, o, none⟩ = ((w.alloc (.cells #[.int .u8 a0, .int .u8 a1, .int .u8 a2, .int .u8 a3, .int .u8 a4, .int .u8 a5, .int .u8 b0, .int .u8 b1, .int .u8 b2, .int .u8 b3, .int .u8 b4, .int .u8 b5, .int .i64 ty, .string s] 36)).alloc (.cells #[.int .i64 0, .int .u8 0, .int .u8 0, .int .u8 0, .int .u8 0, .int .u8 0, .int .u8 0, .string ⟨#[]⟩, .string ⟨#[]⟩, .bool false] 42)).frozen? ⟨b, o, none⟩) :=
    ⟨fun b o h => HB2.out.cell (p := ⟨b, o, none⟩) (by simpa using h), fun b o h => HB2.out.frozen (p := ⟨b, o, none⟩) (by simpa using h)⟩
  have y2 : w.heap.size + 1 < w2.heap.size := z2
  clear hb2 HD
  go_wp2
  exact bodyPost_ret (v := .tuple #[.agg #[.int .i64 0, .int .u8 0, .int .u8 0, .int .u8 0, .int .u8 0, .int .u8 0, .int .u8 0, .string ⟨#[]⟩, .string ⟨#[]⟩, .bool false], .int .i64 40]) (by simp [results, Tryd.results19, go_sem, hc2, World.cell?_alloc_lt, y2]) rfl ⟨rfl, below_alloc (below10r ((((Below.refl w.heap.size w).alloc (Nat.le_refl _) (.cells #[.int .u8 a0, .int .u8 a1, .int .u8 a2, .int .u8 a3, .int .u8 a4, .int .u8 a5, .int .u8 b0, .int .u8 b1, .int .u8 b2, .int .u8 b3, .int .u8 b4, .int .u8 b5, .int .i64 ty, .string s] 36)).alloc (by simp) (.cells #[.int .i64 0, .int .u8 0, .int .u8 0, .int .u8 0, .int .u8 0, .int .u8 0, .int .u8 0, .string ⟨#[]⟩, .string ⟨#[]⟩, .bool false] 42)).trans (HB2.out.mono (by simp; omega)))) _⟩
set_option maxHeartbeats 4000000 in
set_option maxRecDepth 100000 in
theorem rread_fq2 (x0 : Int) (hx0 : byteAt (bts bd) 0 = x0) (x1 : Int) (hx1 : byteAt (bts bd) 1 = x1) (x24 : Int) (hx24 : byteAt (bts bd) 24 = x24) (x25 : Int) (hx25 : byteAt (bts bd) 25 = x25) (k0 : x0 = 135) (k24 : x24 ≠ 1) (k2 : x1 = 0) (k3 : x25 ≠ 1) : Calls Tryd.prog 19 #[.agg #[.int .u8 a0, .int .u8 a1, .int .u8 a2, .int .u8 a3, .int .u8 a4, .int .u8 a5, .int .u8 b0, .int .u8 b1, .int .u8 b2, .int .u8 b3, .int .u8 b4, .int .u8 b5, .int .i64 ty, .string s]] w (Told (Nt.zero, 40) w) := by
  have n2 : ((f.size : Int) != 16) = false := by simp [h6]
  have n5 : ((bd.size : Int) != 32) = false := by simp [hb32]
  have m32 : (bd.size : Int) = 32 := by omega
  have i0 : ((bd[0]'(by omega)).toNat : Int) = x0 := by rw [at_idx]; exact hx0
  have i1 : ((bd[1]'(by omega)).toNat : Int) = x1 := by rw [at_idx]; exact hx1
  have i24 : ((bd[24]'(by omega)).toNat : Int) = x24 := by rw [at_idx]; exact hx24
  have i25 : ((bd[25]'(by omega)).toNat : Int) = x25 := by rw [at_idx]; exact hx25
  have e1 : (x0 == 135) = true := by simp [k0]
  have e2 : (x24 == 1) = false := by simp [k24]
  have e3 : (x0 == 136) = false := by simp [k0]
  have e4 : (x1 != 0) = false := by simp [k2]
  have e5 : (x25 != 1) = true := by simp [k3]
  clear k0 k24
  clear k2 k3
  clear hx0 hx1 hx24 hx25
  have g0 : (ty == 2054) = false := by simp [ht]
  have g00 : (ty != 34525) = false := by simp [ht]
  obtain ⟨c1, w1, hr1, ho1, hb1, hz1, -⟩ := conv_bytes ((w.alloc (.cells #[.int .u8 a0, .int .u8 a1, .int .u8 a2, .int .u8 a3, .int .u8 a4, .int .u8 a5, .int .u8 b0, .int .u8 b1, .int .u8 b2, .int .u8 b3, .int .u8 b4, .int .u8 b5, .int .i64 ty, .string s] 36)).alloc (.cells #[.int .i64 0, .int .u8 0, .int .u8 0, .int .u8 0, .int .u8 0, .int .u8 0, .int .u8 0, .string ⟨#[]⟩, .string ⟨#[]⟩, .bool false] 42)) ((w.alloc (.cells #[.int .u8 a0, .int .u8 a1, .int .u8 a2, .int .u8 a3, .int .u8 a4, .int .u8 a5, .int .u8 b0, .int .u8 b1, .int .u8 b2, .int .u8 b3, .int .u8 b4, .int .u8 b5, .int .i64 ty, .string s] 36)).alloc (.cells #[.int .i64 0, .int .u8 0, .int .u8 0, .int .u8 0, .int .u8 0, .int .u8 0, .int .u8 0, .string ⟨#[]⟩, .string ⟨#[]⟩, .bool false] 42)).heap.size s 9 Tryd.underlying9 (Nat.le_refl _) (by omega) (w.heap.size + 2) (by simp) s.size rfl
  have HD := Lib.hid (rdec_any (some ⟨w.heap.size + 2, 0, none⟩) s.size c1 (bts s) w1 (ho1.part (bts_byt s)) (by omega) f t 58 255 bd 0 hd)
  have HB1 := Lib.hid hb1
  have z1 : w.heap.size + 2 ≤ w1.heap.size := by have := hb1.size; simpa using this
  clear hb1 hz1 ho1 hd ht
  go_enter Tryd.func19, Tryd.ntmps19
  go_wp2_with fail
  refine HD.out.mono ?_
  rintro e w2 ⟨rfl, hb2⟩
  have HB2 := Lib.hid (below_then HB1.out (by simpa using z1) hb2)
  have z2 : w.heap.size + 2 ≤ w2.heap.size := by have := HB2.out.size; simpa using this
  obtain ⟨hc2, hf2⟩ : (∀ b o, b < w.heap.size + 2 → w2.cell? ⟨b, o, none⟩ = ((w.alloc (.cells #[.int .u8 a0, .int .u8 a1, .int .u8 a2, .int .u8 a3, .int .u8 a4, .int .u8 a5, .int .u8 b0, .int .u8 b1, .int .u8 b2, .int .u8 b3, .int .u8 b4, .int .u8 b5, .int .i64 ty, .string s] 36)).alloc (.cells #[.int .i64 0, .int .u8 0, .int .u8 0, .int .u8 0, .int .u8 0, .int .u8 0, .int .u8 0, .string ⟨#[]⟩, .string ⟨#[]⟩, .bool false] 42)).cell? ⟨b, o, none⟩) ∧ (∀ b o, b < w.heap.size + 2 → w2.frozen? ⟨b, o, none⟩ = ((w.alloc (.cells #[.int .u8 a0, .int .u8 a1, .int .u8 a2, .int .u8 a3, .int .u8 a4, .int .u8 a5, .int .u8 b0, .int .u8 b1, .int .u8 b2, .int .u8 b3, .int .u8 b4, .int .u8 b5, .int .i64 ty, .string s] 36)).alloc (.cells #[.int .i64 0, .int .u8 0, .int .u8 0, .int .u8 0, .int .u8 0, .int .u8 0, .int .u8 0, .string ⟨#[]⟩, .string ⟨#[]⟩, .bool false] 42)).frozen? ⟨b, o, none⟩) :=
    ⟨fun b o h => HB2.out.cell (p := ⟨b, o, none⟩) (by simpa using h), fun b o h => HB2.out.frozen (p := ⟨b, o, none⟩) (by simpa using h)⟩
  have y2 : w.heap.size + 1 < w2.heap.size := z2
  clear hb2 HD
  go_wp2
  exact bodyPost_ret (v := .tuple #[.agg #[.int .i64 0, .int .u8 0, .int .u8 0, .int .u8 0, .int .u8 0, .int .u8 0, .int .u8 0, .string ⟨#[]⟩, .string ⟨#[]⟩, .bool false], .int .i64 40]) (by simp [results, Tryd.results19, go_sem, hc2, World.cell?_alloc_lt, y2]) rfl ⟨rfl, below_alloc (below10r ((((Below.refl w.heap.size w).alloc (Nat.le_refl _) (.cells #[.int .u8 a0, .int .u8 a1, .int .u8 a2, .int .u8 a3, .int .u8 a4, .int .u8 a5, .int .u8 b0, .int .u8 b1, .int .u8 b2, .int .u8 b3, .int .u8 b4, .int .u8 b5, .int .i64 ty, .string s] 36)).alloc (by simp) (.cells #[.int .i64 0, .int .u8 0, .int .u8 0, .int .u8 0, .int .u8 0, .int .u8 0, .int .u8 0, .string ⟨#[]⟩, .string ⟨#[]⟩, .bool false] 42)).trans (HB2.out.mono (by simp; omega)))) _⟩
set_option maxHeartbeats 4000000 in
set_option maxRecDepth 100000 in
theorem rread_fq3 (x0 : Int) (hx0 : byteAt (bts bd) 0 = x0) (x1 : Int) (hx1 : byteAt (bts bd) 1 = x1) (x24 : Int) (hx24 : byteAt (bts bd) 24 = x24) (x25 : Int) (hx25 : byteAt (bts bd) 25 = x25) (k0 : x0 = 135) (k24 : x24 ≠ 1) (k2 : x1 = 0) (k3 : x25 = 1) : Calls Tryd.prog 19 #[.agg #[.int .u8 a0, .int .u8 a1, .int .u8 a2, .int .u8 a3, .int .u8 a4, .int .u8 a5, .int .u8 b0, .int .u8 b1, .int .u8 b2, .int .u8 b3, .int .u8 b4, .int .u8 b5, .int .i64 ty, .string s]] w (Told (Nt.zero, 40) w) := by
  have n2 : ((f.size : Int) != 16) = false := by simp [h6]
  have n5 : ((bd.size : Int) != 32) = false := by simp [hb32]
  have m32 : (bd.size : Int) = 32 := by omega
  have i0 : ((bd[0]'(by omega)).toNat : Int) = x0 := by rw [at_idx]; exact hx0
  have i1 : ((bd[1]'(by omega)).toNat : Int) = x1 := by rw [at_idx]; exact hx1
  have i24 : ((bd[24]'(by omega)).toNat : Int) = x24 := by rw [at_idx]; exact hx24
  have i25 : ((bd[25]'(by omega)).toNat : Int) = x25 := by rw [at_idx]; exact hx25
  have e1 : (x0 == 135) = true := by simp [k0]
  have e2 : (x24 == 1) = false := by simp [k24]
  have e3 : (x0 == 136) = false := by simp [k0]
  have e4 : (x1 != 0) = false := by simp [k2]
  have e5 : (x25 != 1) = false := by simp [k3]
  clear k0 k24
  clear k2 k3
  clear hx0 hx1 hx24 hx25
  have g0 : (ty == 2054) = false := by simp [ht]
  have g00 : (ty != 34525) = false := by simp [ht]
  obtain ⟨c1, w1, hr1, ho1, hb1, hz1, -⟩ := conv_bytes ((w.alloc (.cells #[.int .u8 a0, .int .u8 a1, .int .u8 a2, .int .u8 a3, .int .u8 a4, .int .u8 a5, .int .u8 b0, .int .u8 b1, .int .u8 b2, .int .u8 b3, .int .u8 b4, .int .u8 b5, .int .i64 ty, .string s] 36)).alloc (.cells #[.int .i64 0, .int .u8 0, .int .u8 0, .int .u8 0, .int .u8 0, .int .u8 0, .int .u8 0, .string ⟨#[]⟩, .string ⟨#[]⟩, .bool false] 42)) ((w.alloc (.cells #[.int .u8 a0, .int .u8 a1, .int .u8 a2, .int .u8 a3, .int .u8 a4, .int .u8 a5, .int .u8 b0, .int .u8 b1, .int .u8 b2, .int .u8 b3, .int .u8 b4, .int .u8 b5, .int .i64 ty, .string s] 36)).alloc (.cells #[.int .i64 0, .int .u8 0, .int .u8 0, .int .u8 0, .int .u8 0, .int .u8 0, .int .u8 0, .string ⟨#[]⟩, .string ⟨#[]⟩, .bool false] 42)).heap.size s 9 Tryd.underlying9 (Nat.le_refl _) (by omega) (w.heap.size + 2) (by simp) s.size rfl
  have HD := Lib.hid (rdec_any (some ⟨w.heap.size + 2, 0, none⟩) s.size c1 (bts s) w1 (ho1.part (bts_byt s)) (by omega) f t 58 255 bd 0 hd)
  have HB1 := Lib.hid hb1
  have z1 : w.heap.size + 2 ≤ w1.heap.size := by have := hb1.size; simpa using this
  clear hb1 hz1 ho1 hd ht
  go_enter Tryd.func19, Tryd.ntmps19
  go_wp2_with fail
  refine HD.out.mono ?_
  rintro e w2 ⟨rfl, hb2⟩
  have HB2 := Lib.hid (below_then HB1.out (by simpa using z1) hb2)
  have z2 : w.heap.size + 2 ≤ w2.heap.size := by have := HB2.out.size; simpa using this
  obtain ⟨hc2, hf2⟩ : (∀ b o, b < w.heap.size + 2 → w2.cell? ⟨b, o, none⟩ = ((w.alloc (.cells #[.int .u8 a0, .int .u8 a1, .int .u8 a2, .int .u8 a3, .int .u8 a4, .int .u8 a5, .int .u8 b0, .int .u8 b1, .int .u8 b2, .int .u8 b3, .int .u8 b4, .int .u8 b5, .int .i64 ty, .string s] 36)).alloc (.cells #[.int .i64 0, .int .u8 0, .int .u8 0, .int .u8 0, .int .u8 0, .int .u8 0, .int .u8 0, .string ⟨#[]⟩, .string ⟨#[]⟩, .bool false] 42)).cell? ⟨b, o, none⟩) ∧ (∀ b o, b < w.heap.size + 2 → w2.frozen? ⟨b, o, none⟩ = ((w.alloc (.cells #[.int .u8 a0, .int .u8 a1, .int .u8 a2, .int .u8 a3, .int .u8 a4, .int .u8 a5, .int .u8 b0, .int .u8 b1, .int .u8 b2, .int .u8 b3, .int .u8 b4, .int .u8 b5, .int .i64 ty, .string s] 36)).alloc (.cells #[.int .i64 0, .int .u8 0, .int .u8 0, .int .u8 0, .int .u8 0, .int .u8 0, .int .u8 0, .string ⟨#[]⟩, .string ⟨#[]⟩, .bool false] 42)).frozen? ⟨b, o, none⟩) :=
    ⟨fun b o h => HB2.out.cell (p := ⟨b, o, none⟩) (by simpa using h), fun b o h => HB2.out.frozen (p := ⟨b, o, none⟩) (by simpa using h)⟩
  have y2 : w.heap.size + 1 < w2.heap.size := z2
  clear hb2 HD
  go_wp2
  exact bodyPost_ret (v := .tuple #[.agg #[.int .i64 0, .int .u8 0, .int .u8 0, .int .u8 0, .int .u8 0, .int .u8 0, .int .u8 0, .string ⟨#[]⟩, .string ⟨#[]⟩, .bool false], .int .i64 40]) (by simp [results, Tryd.results19, go_sem, hc2, World.cell?_alloc_lt, y2]) rfl ⟨rfl, below_alloc (below10r ((((Below.refl w.heap.size w).alloc (Nat.le_refl _) (.cells #[.int .u8 a0, .int .u8 a1, .int .u8 a2, .int .u8 a3, .int .u8 a4, .int .u8 a5, .int .u8 b0, .int .u8 b1, .int .u8 b2, .int .u8 b3, .int .u8 b4, .int .u8 b5, .int .i64 ty, .string s] 36)).alloc (by simp) (.cells #[.int .i64 0, .int .u8 0, .int .u8 0, .int .u8 0, .int .u8 0, .int .u8 0, .int .u8 0, .string ⟨#[]⟩, .string ⟨#[]⟩, .bool false] 42)).trans (HB2.out.mono (by simp; omega)))) _⟩
set_option maxHeartbeats 4000000 in
set_option maxRecDepth 100000 in
theorem rread_fr1 (x0 : Int) (hx0 : byteAt (bts bd) 0 = x0) (x1 : Int) (hx1 : byteAt (bts bd) 1 = x1) (x24 : Int) (hx24 : byteAt (bts bd) 24 = x24) (x25 : Int) (hx25 : byteAt (bts bd) 25 = x25) (k0 : x0 = 136) (k24 : x24 = 2) (k2 : x1 ≠ 0) : Calls Tryd.prog 19 #[.agg #[.int .u8 a0, .int .u8 a1, .int .u8 a2, .int .u8 a3, .int .u8 a4, .int .u8 a5, .int .u8 b0, .int .u8 b1, .int .u8 b2, .int .u8 b3, .int .u8 b4, .int .u8 b5, .int .i64 ty, .string s]] w (Told (Nt.zero, 40) w) := by
  have n2 : ((f.size : Int) != 16) = false := by simp [h6]
  have n5 : ((bd.size : Int) != 32) = false := by simp [hb32]
  have m32 : (bd.size : Int) = 32 := by omega
  have i0 : ((bd[0]'(by omega)).toNat : Int) = x0 := by rw [at_idx]; exact hx0
  have i1 : ((bd[1]'(by omega)).toNat : Int) = x1 := by rw [at_idx]; exact hx1
  have i24 : ((bd[24]'(by omega)).toNat : Int) = x24 := by rw [at_idx]; exact hx24
  have i25 : ((bd[25]'(by omega)).toNat : Int) = x25 := by rw [at_idx]; exact hx25
  have e1 : (x0 == 135) = false := by simp [k0]
  have e3 : (x0 == 136) = true := by simp [k0]
  have e2 : (x24 == 2) = true := by simp [k24]
  have e4 : (x1 != 0) = true := by simp [k2]
  clear k0 k24
  clear k2
  clear hx0 hx1 hx24 hx25
  have g0 : (ty == 2054) = false := by simp [ht]
  have g00 : (ty != 34525) = false := by simp [ht]
  obtain ⟨c1, w1, hr1, ho1, hb1, hz1, -⟩ := conv_bytes ((w.alloc (.cells #[.int .u8 a0, .int .u8 a1, .int .u8 a2, .int .u8 a3, .int .u8 a4, .int .u8 a5, .int .u8 b0, .int .u8 b1, .int .u8 b2, .int .u8 b3, .int .u8 b4, .int .u8 b5, .int .i64 ty, .string s] 36)).alloc (.cells #[.int .i64 0, .int .u8 0, .int .u8 0, .int .u8 0, .int .u8 0, .int .u8 0, .int .u8 0, .string ⟨#[]⟩, .string ⟨#[]⟩, .bool false] 42)) ((w.alloc (.cells #[.int .u8 a0, .int .u8 a1, .int .u8 a2, .int .u8 a3, .int .u8 a4, .int .u8 a5, .int .u8 b0, .int .u8 b1, .int .u8 b2, .int .u8 b3, .int .u8 b4, .int .u8 b5, .int .i64 ty, .string s] 36)).alloc (.cells #[.int .i64 0, .int .u8 0, .int .u8 0, .int .u8 0, .int .u8 0, .int .u8 0, .int .u8 0, .string ⟨#[]⟩, .string ⟨#[]⟩, .bool false] 42)).heap.size s 9 Tryd.underlying9 (Nat.le_refl _) (by omega) (w.heap.size + 2) (by simp) s.size rfl
  have HD := Lib.hid (rdec_any (some ⟨w.heap.size + 2, 0, none⟩) s.size c1 (bts s) w1 (ho1.part (bts_byt s)) (by omega) f t 58 255 bd 0 hd)
  have HB1 := Lib.hid hb1
  have z1 : w.heap.size + 2 ≤ w1.heap.size := by have := hb1.size; simpa using this
  clear hb1 hz1 ho1 hd ht
  go_enter Tryd.func19, Tryd.ntmps19
  go_wp2_with fail
  refine HD.out.mono ?_
  rintro e w2 ⟨rfl, hb2⟩
  have HB2 := Lib.hid (below_then HB1.out (by simpa using z1) hb2)
  have z2 : w.heap.size + 2 ≤ w2.heap.size := by have := HB2.out.size; simpa using this
  obtain ⟨hc2, hf2⟩ : (∀ b o, b < w.heap.size + 2 → w2.cell? ⟨b, o, none⟩ = ((w.alloc (.cells #[.int .u8 a0, .int .u8 a1, .int .u8 a2, .int .u8 a3, .int .u8 a4, .int .u8 a5, .int .u8 b0, .int .u8 b1, .int .u8 b2, .int .u8 b3, .int .u8 b4, .int .u8 b5, .int .i64 ty, .string s] 36)).alloc (.cells #[.int .i64 0, .int .u8 0, .int .u8 0, .int .u8 0, .int .u8 0, .int .u8 0, .int .u8 0, .string ⟨#[]⟩, .string ⟨#[]⟩, .bool false] 42)).cell? ⟨b, o, none⟩) ∧ (∀ b o, b < w.heap.size + 2 → w2.frozen? ⟨b, o, none⟩ = ((w.alloc (.cells #[.int .u8 a0, .int .u8 a1, .int .u8 a2, .int .u8 a3, .int .u8 a4, .int .u8 a5, .int .u8 b0, .int .u8 b1, .int .u8 b2, .int .u8 b3, .int .u8 b4, .int .u8 b5, .int .i64 ty, .string s] 36)).alloc (.cells #[.int .i64 0, .int .u8 0, .int .u8 0, .int .u8 0, .int .u8 0, .int .u8 0, .int .u8 0, .string ⟨#[]⟩, .string ⟨#[]⟩, .bool false] 42)).frozen? ⟨b, o, none⟩) :=
    ⟨fun b o h => HB2.out.cell (p := ⟨b, o, none⟩) (by simpa using h), fun b o h => HB2.out.frozen (p := ⟨b, o, none⟩) (by simpa using h)⟩
  have y2 : w.heap.size + 1 < w2.heap.size := z2
  clear hb2 HD
  go_wp2
  exact bodyPost_ret (v := .tuple #[.agg #[.int .i64 0, .int .u8 0, .int .u8 0, .int .u8 0, .int .u8 0, .int .u8 0, .int .u8 0, .string ⟨#[]⟩, .string ⟨#[]⟩, .bool false], .int .i64 40]) (by simp [results, Tryd.results19, go_sem, hc2, World.cell?_alloc_lt, y2]) rfl ⟨rfl, below_alloc (below10r ((((Below.refl w.heap.size w).alloc (Nat.le_refl _) (.cells #[.int .u8 a0, .int .u8 a1, .int .u8 a2, .int .u8 a3, .int .u8 a4, .int .u8 a5, .int .u8 b0, .int .u8 b1, .int .u8 b2, .int .u8 b3, .int .u8 b4, .int .u8 b5, .int .i64 ty, .string s] 36)).alloc (by simp) (.cells #[.int .i64 0, .int .u8 0, .int .u8 0, .int .u8 0, .int .u8 0, .int .u8 0, .int .u8 0, .string ⟨#[]⟩, .string ⟨#[]⟩, .bool false] 42)).trans (HB2.out.mono (by simp; omega)))) _⟩
set_option maxHeartbeats 4000000 in
set_option maxRecDepth 100000 in
theorem rread_fr2 (x0 : Int) (hx0 : byteAt (bts bd) 0 = x0) (x1 : Int) (hx1 : byteAt (bts bd) 1 = x1) (x24 : Int) (hx24 : byteAt (bts bd) 24 = x24) (x25 : Int) (hx25 : byteAt (bts bd) 25 = x25) (k0 : x0 = 136) (k24 : x24 = 2) (k2 : x1 = 0) (k3 : x25 ≠ 1) : Calls Tryd.prog 19 #[.agg #[.int .u8 a0, .int .u8 a1, .int .u8 a2, .int .u8 a3, .int .u8 a4, .int .u8 a5, .int .u8 b0, .int .u8 b1, .int .u8 b2, .int .u8 b3, .int .u8 b4, .int .u8 b5, .int .i64 ty, .string s]] w (Told (Nt.zero, 40) w) := by
  have n2 : ((f.size : Int) != 16) = false := by simp [h6]
  have n5 : ((bd.size : Int) != 32) = false := by simp [hb32]
  have m32 : (bd.size : Int) = 32 := by omega
  have i0 : ((bd[0]'(by omega)).toNat : Int) = x0 := by rw [at_idx]; exact hx0
  have i1 : ((bd[1]'(by omega)).toNat : Int) = x1 := by rw [at_idx]; exact hx1
  have i24 : ((bd[24]'(by omega)).toNat : Int) = x24 := by rw [at_idx]; exact hx24
  have i25 : ((bd[25]'(by omega)).toNat : Int) = x25 := by rw [at_idx]; exact hx25
  have e1 : (x0 == 135) = false := by simp [k0]
  have e3 : (x0 == 136) = true := by simp [k0]
  have e2 : (x24 == 2) = true := by simp [k24]
  have e4 : (x1 != 0) = false := by simp [k2]
  have e5 : (x25 != 1) = true := by simp [k3]
  clear k0 k24
  clear k2 k3
  clear hx0 hx1 hx24 hx25
  have g0 : (ty == 2054) = false := by simp [ht]
  have g00 : (ty != 34525) = false := by simp [ht]
  obtain ⟨c1, w1, hr1, ho1, hb1, hz1, -⟩ := conv_bytes ((w.alloc (.cells #[.int .u8 a0, .int .u8 a1, .int .u8 a2, .int .u8 a3, .int .u8 a4, .int .u8 a5, .int .u8 b0, .int .u8 b1, .int .u8 b2, .int .u8 b3, .int .u8 b4, .int .u8 b5, .int .i64 ty, .string s] 36)).alloc (.cells #[.int .i64 0, .int .u8 0, .int .u8 0, .int .u8 0, .int .u8 0, .int .u8 0, .int .u8 0, .string ⟨#[]⟩, .string ⟨#[]⟩, .bool false] 42)) ((w.alloc (.cells #[.int .u8 a0, .int .u8 a1, .int .u8 a2, .int .u8 a3, .int .u8 a4, .int .u8 a5, .int .u8 b0, .int .u8 b1, .int .u8 b2, .int .u8 b3, .int .u8 b4, .int .u8 b5, .int .i64 ty, .string s] 36)).alloc (.cells #[.int .i64 0, .int .u8 0, .int .u8 0, .int .u8 0, .int .u8 0, .int .u8 0, .int .u8 0, .string ⟨#[]⟩, .string ⟨#[]⟩, .bool false] 42)).heap.size s 9 Tryd.underlying9 (Nat.le_refl _) (by omega) (w.heap.size + 2) (by simp) s.size rfl
  have HD := Lib.hid (rdec_any (some ⟨w.heap.size + 2, 0, none⟩) s.size c1 (bts s) w1 (ho1.part (bts_byt s)) (by omega) f t 58 255 bd 0 hd)
  have HB1 := Lib.hid hb1
  have z1 : w.heap.size + 2 ≤ w1.heap.size := by have := hb1.size; simpa using this
  clear hb1 hz1 ho1 hd ht
  go_enter Tryd.func19, Tryd.ntmps19
  go_wp2_with fail
  refine HD.out.mono ?_
  rintro e w2 ⟨rfl, hb2⟩
  have HB2 := Lib.hid (below_then HB1.out (by simpa using z1) hb2)
  have z2 : w.heap.size + 2 ≤ w2.heap.size := by have := HB2.out.size; simpa using this
  obtain ⟨hc2, hf2⟩ : (∀ b o, b < w.heap.size + 2 → w2.cell? ⟨b, o, none⟩ = ((w.alloc (.cells #[.int .u8 a0, .int .u8 a1, .int .u8 a2, .int .u8 a3, .int .u8 a4, .int .u8 a5, .int .u8 b0, .int .u8 b1, .int .u8 b2, .int .u8 b3, .int .u8 b4, .int .u8 b5, .int .i64 ty, .string s] 36)).alloc (.cells #[.int .i64 0, .int .u8 0, .int .u8 0, .int .u8 0, .int .u8 0, .int .u8 0, .int .u8 0, .string ⟨#[]⟩, .string ⟨#[]⟩, .bool false] 42)).cell? ⟨b, o, none⟩) ∧ (∀ b o, b < w.heap.size + 2 → w2.frozen? ⟨b, o, none⟩ = ((w.alloc (.cells #[.int .u8 a0, .int .u8 a1, .int .u8 a2, .int .u8 a3, .int .u8 a4, .int .u8 a5, .int .u8 b0, .int .u8 b1, .int .u8 b2, .int .u8 b3, .int .u8 b4, .int .u8 b5, .int .i64 ty, .string s] 36)).alloc (.cells #[.int .i64 0, .int .u8 0, .int .u8 0, .int .u8 0, .int .u8 0, .int .u8 0, .int .u8 0, .string ⟨#[]⟩, .string ⟨#[]⟩, .bool false] 42)).frozen? ⟨b, o, none⟩) :=
    ⟨fun b o h => HB2.out.cell (p := ⟨b, o, none⟩) (by simpa using h), fun b o h => HB2.out.frozen (p := ⟨b, o, none⟩) (by simpa using h)⟩
  have y2 : w.heap.size + 1 < w2.heap.size := z2
  clear hb2 HD
  go_wp2
  exact bodyPost_ret (v := .tuple #[.agg #[.int .i64 0, .int .u8 0, .int .u8 0, .int .u8 0, .int .u8 0, .int .u8 0, .int .u8 0, .string ⟨#[]⟩, .string ⟨#[]⟩, .bool false], .int .i64 40]) (by simp [results, Tryd.results19, go_sem, hc2, World.cell?_alloc_lt, y2]) rfl ⟨rfl, below_alloc (below10r ((((Below.refl w.heap.size w).alloc (Nat.le_refl _) (.cells #[.int .u8 a0, .int .u8 a1, .int .u8 a2, .int .u8 a3, .int .u8 a4, .int .u8 a5, .int .u8 b0, .int .u8 b1, .int .u8 b2, .int .u8 b3, .int .u8 b4, .int .u8 b5, .int .i64 ty, .string s] 36)).alloc (by simp) (.cells #[.int .i64 0, .int .u8 0, .int .u8 0, .int .u8 0, .int .u8 0, .int .u8 0, .int .u8 0, .string ⟨#[]⟩, .string ⟨#[]⟩, .bool false] 42)).trans (HB2.out.mono (by simp; omega)))) _⟩
end

end Go.Proofs.YtdoefjhdipkkeaaDoor

namespace Go.Proofs.YtdoefjhdipkkeaaDoor
open Go.RowKit
set_option linter.unusedVariables false
set_option maxRecDepth 10000

set_option linter.unusedSectionVars false
section
variable (a0 a1 a2 a3 a4 a5 b0 b1 b2 b3 b4 b5 ty : Int) (s : ByteArray) (w : World) (f t : ByteArray) (bd : ByteArray) (ht : ty = 34525) (hs : s.size ≤ 140737488351232) (hd : dec (bts s) = (⟨f, t, 58, 255, bd⟩, 0)) (hf16 : f.size ≤ 16) (h6 : f.size = 16) (ht6 : t.size = 16) (hb32 : bd.size = 32)
include ht hs hd hf16 h6 ht6 hb32
set_option maxHeartbeats 4000000 in
set_option maxRecDepth 100000 in
theorem rread_fs1 (x0 : Int) (hx0 : byteAt (bts bd) 0 = x0) (x1 : Int) (hx1 : byteAt (bts bd) 1 = x1) (x24 : Int) (hx24 : byteAt (bts bd) 24 = x24) (x25 : Int) (hx25 : byteAt (bts bd) 25 = x25) (k0 : x0 = 136) (k24 : x24 ≠ 2) (k2 : x1 ≠ 0) : Calls Tryd.prog 19 #[.agg #[.int .u8 a0, .int .u8 a1, .int .u8 a2, .int .u8 a3, .int .u8 a4, .int .u8 a5, .int .u8 b0, .int .u8 b1, .int .u8 b2, .int .u8 b3, .int .u8 b4, .int .u8 b5, .int .i64 ty, .string s]] w (Told (Nt.zero, 40) w) := by
  have n2 : ((f.size : Int) != 16) = false := by simp [h6]
  have n5 : ((bd.size : Int) != 32) = false := by simp [hb32]
  have m32 : (bd.size : Int) = 32 := by omega
  have i0 : ((bd[0]'(by omega)).toNat : Int) = x0 := by rw [at_idx]; exact hx0
  have i1 : ((bd[1]'(by omega)).toNat : Int) = x1 := by rw [at_idx]; exact hx1
  have i24 : ((bd[24]'(by omega)).toNat : Int) = x24 := by rw [at_idx]; exact hx24
  have i25 : ((bd[25]'(by omega)).toNat : Int) = x25 := by rw [at_idx]; exact hx25
  have e1 : (x0 == 135) = false := by simp [k0]
  have e3 : (x0 == 136) = true := by simp [k0]
  have e2 : (x24 == 2) = false := by simp [k24]
  have e4 : (x1 != 0) = true := by simp [k2]
  clear k0 k24
  clear k2
  clear hx0 hx1 hx24 hx25
  have g0 : (ty == 2054) = false := by simp [ht]
  have g00 : (ty != 34525) = false := by simp [ht]
  obtain ⟨c1, w1, hr1, ho1, hb1, hz1, -⟩ := conv_bytes ((w.alloc (.cells #[.int .u8 a0, .int .u8 a1, .int .u8 a2, .int .u8 a3, .int .u8 a4, .int .u8 a5, .int .u8 b0, .int .u8 b1, .int .u8 b2, .int .u8 b3, .int .u8 b4, .int .u8 b5, .int .i64 ty, .string s] 36)).alloc (.cells #[.int .i64 0, .int .u8 0, .int .u8 0, .int .u8 0, .int .u8 0, .int .u8 0, .int .u8 0, .string ⟨#[]⟩, .string ⟨#[]⟩, .bool false] 42)) ((w.alloc (.cells #[.int .u8 a0, .int .u8 a1, .int .u8 a2, .int .u8 a3, .int .u8 a4, .int .u8 a5, .int .u8 b0, .int .u8 b1, .int .u8 b2, .int .u8 b3, .int .u8 b4, .int .u8 b5, .int .i64 ty, .string s] 36)).alloc (.cells #[.int .i64 0, .int .u8 0, .int .u8 0, .int .u8 0, .int .u8 0, .int .u8 0, .int .u8 0, .string ⟨#[]⟩, .string ⟨#[]⟩, .bool false] 42)).heap.size s 9 Tryd.underlying9 (Nat.le_refl _) (by omega) (w.heap.size + 2) (by simp) s.size rfl
  have HD := Lib.hid (rdec_any (some ⟨w.heap.size + 2, 0, none⟩) s.size c1 (bts s) w1 (ho1.part (bts_byt s)) (by omega) f t 58 255 bd 0 hd)
  have HB1 := Lib.hid hb1
  have z1 : w.heap.size + 2 ≤ w1.heap.size := by have := hb1.size; simpa using this
  clear hb1 hz1 ho1 hd ht
  go_enter Tryd.func19, Tryd.ntmps19
  go_wp2_with fail
  refine HD.out.mono ?_
  rintro e w2 ⟨rfl, hb2⟩
  have HB2 := Lib.hid (below_then HB1.out (by simpa using z1) hb2)
  have z2 : w.heap.size + 2 ≤ w2.heap.size := by have := HB2.out.size; simpa using this
  obtain ⟨hc2, hf2⟩ : (∀ b o, b < w.heap.size + 2 → w2.cell? ⟨b, o, none⟩ = ((w.alloc (.cells #[.int .u8 a0, .int .u8 a1, .int .u8 a2, .int .u8 a3, .int .u8 a4, .int .u8 a5, .int .u8 b0, .int .u8 b1, .int .u8 b2, .int .u8 b3, .int .u8 b4, .int .u8 b5, .int .i64 ty, .string s] 36)).alloc (.cells #[.int .i64 0, .int .u8 0, .int .u8 0, .int .u8 0, .int .u8 0, .int .u8 0, .int .u8 0, .string ⟨#[]⟩, .string ⟨#[]⟩, .bool false] 42)).cell? ⟨b, o, none⟩) ∧ (∀ b o, b < w.heap.size + 2 → w2.frozen? ⟨b, o, none⟩ = ((w.alloc (.cells #[.int .u8 a0, .int .u8 a1, .int .u8 a2, .int .u8 a3, .int .u8 a4, .int .u8 a5, .int .u8 b0, .int .u8 b1, .int .u8 b2, .int .u8 b3, .int .u8 b4, .int .u8 b5, .int .i64 ty, .string s] 36)).alloc (.cells #[.int .i64 0, .int .u8 0, .int .u8 0, .int .u8 0, .int .u8 0, .int .u8 0, .int .u8 0, .string ⟨#[]⟩, .string ⟨#[]⟩, .bool false] 42)).frozen? ⟨b, o, none⟩) :=
    ⟨fun b o h => HB2.out.cell (p := ⟨b, o, none⟩) (by simpa using h), fun b o h => HB2.out.frozen (p := ⟨b, o, none⟩) (by simpa using h)⟩
  have y2 : w.heap.size + 1 < w2.heap.size := z2
  clear hb2 HD
  go_wp2
  exact bodyPost_ret (v := .tuple #[.agg #[.int .i64 0, .int .u8 0, .int .u8 0, .int .u8 0, .int .u8 0, .int .u8 0, .int .u8 0, .string ⟨#[]⟩, .string ⟨#[]⟩, .bool false], .int .i64 40]) (by simp [results, Tryd.results19, go_sem, hc2, World.cell?_alloc_lt, y2]) rfl ⟨rfl, below_alloc (below10r ((((Below.refl w.heap.size w).alloc (Nat.le_refl _) (.cells #[.int .u8 a0, .int .u8 a1, .int .u8 a2, .int .u8 a3, .int .u8 a4, .int .u8 a5, .int .u8 b0, .int .u8 b1, .int .u8 b2, .int .u8 b3, .int .u8 b4, .int .u8 b5, .int .i64 ty, .string s] 36)).alloc (by simp) (.cells #[.int .i64 0, .int .u8 0, .int .u8 0, .int .u8 0, .int .u8 0, .int .u8 0, .int .u8 0, .string ⟨#[]⟩, .string ⟨#[]⟩, .bool false] 42)).trans (HB2.out.mono (by simp; omega)))) _⟩
set_option maxHeartbeats 4000000 in
set_option maxRecDepth 100000 in
theorem rread_fs2 (x0 : Int) (hx0 : byteAt (bts bd) 0 = x0) (x1 : Int) (hx1 : byteAt (bts bd) 1 = x1) (x24 : Int) (hx24 : byteAt (bts bd) 24 = x24) (x25 : Int) (hx25 : byteAt (bts bd) 25 = x25) (k0 : x0 = 136) (k24 : x24 ≠ 2) (k2 : x1 = 0) (k3 : x25 ≠ 1) : Calls Tryd.prog 19 #[.agg #[.int .u8 a0, .int .u8 a1, .int .u8 a2, .int .u8 a3, .int .u8 a4, .int .u8 a5, .int .u8 b0, .int .u8 b1, .int .u8 b2, .int .u8 b3, .int .u8 b4, .int .u8 b5, .int .i64 ty, .string s]] w (Told (Nt.zero, 40) w) := by
  have n2 : ((f.size : Int) != 16) = false := by simp [h6]
  have n5 : ((bd.size : Int) != 32) = false := by simp [hb32]
  have m32 : (bd.size : Int) = 32 := by omega
  have i0 : ((bd[0]'(by omega)).toNat : Int) = x0 := by rw [at_idx]; exact hx0
  have i1 : ((bd[1]'(by omega)).toNat : Int) = x1 := by rw [at_idx]; exact hx1
  have i24 : ((bd[24]'(by omega)).toNat : Int) = x24 := by rw [at_idx]; exact hx24
  have i25 : ((bd[25]'(by omega)).toNat : Int) = x25 := by rw [at_idx]; exact hx25
  have e1 : (x0 == 135) = false := by simp [k0]
  have e3 : (x0 == 136) = true := by simp [k0]
  have e2 : (x24 == 2) = false := by simp [k24]
  have e4 : (x1 != 0) = false := by simp [k2]
  have e5 : (x25 != 1) = true := by simp [k3]
  clear k0 k24
  clear k2 k3
  clear hx0 hx1 hx24 hx25
  have g0 : (ty == 2054) = false := by simp [ht]
  have g00 : (ty != 34525) = false := by simp [ht]
  obtain ⟨c1, w1, hr1, ho1, hb1, hz1, -⟩ := conv_bytes ((w.alloc (.cells #[.int .u8 a0, .int .u8 a1, .int .u8 a2, .int .u8 a3, .int .u8 a4, .int .u8 a5, .int .u8 b0, .int .u8 b1, .int .u8 b2, .int .u8 b3, .int .u8 b4, .int .u8 b5, .int .i64 ty, .string s] 36)).alloc (.cells #[.int .i64 0, .int .u8 0, .int .u8 0, .int .u8 0, .int .u8 0, .int .u8 0, .int .u8 0, .string ⟨#[]⟩, .string ⟨#[]⟩, .bool false] 42)) ((w.alloc (.cells #[.int .u8 a0, .int .u8 a1, .int .u8 a2, .int .u8 a3, .int .u8 a4, .int .u8 a5, .int .u8 b0, .int .u8 b1, .int .u8 b2, .int .u8 b3, .int .u8 b4, .int .u8 b5, .int .i64 ty, .string s] 36)).alloc (.cells #[.int .i64 0, .int .u8 0, .int .u8 0, .int .u8 0, .int .u8 0, .int .u8 0, .int .u8 0, .string ⟨#[]⟩, .string ⟨#[]⟩, .bool false] 42)).heap.size s 9 Tryd.underlying9 (Nat.le_refl _) (by omega) (w.heap.size + 2) (by simp) s.size rfl
  have HD := Lib.hid (rdec_any (some ⟨w.heap.size + 2, 0, none⟩) s.size c1 (bts s) w1 (ho1.part (bts_byt s)) (by omega) f t 58 255 bd 0 hd)
  have HB1 := Lib.hid hb1
  have z1 : w.heap.size + 2 ≤ w1.heap.size := by have := hb1.size; simpa using this
  clear hb1 hz1 ho1 hd ht
  go_enter Tryd.func19, Tryd.ntmps19
  go_wp2_with fail
  refine HD.out.mono ?_
  rintro e w2 ⟨rfl, hb2⟩
  have HB2 := Lib.hid (below_then HB1.out (by simpa using z1) hb2)
  have z2 : w.heap.size + 2 ≤ w2.heap.size := by have := HB2.out.size; simpa using this
  obtain ⟨hc2, hf2⟩ : (∀ b o, b < w.heap.size + 2 → w2.cell? ⟨b, o, none⟩ = ((w.alloc (.cells #[.int .u8 a0, .int .u8 a1, .int .u8 a2, .int .u8 a3, .int .u8 a4, .int .u8 a5, .int .u8 b0, .int .u8 b1, .int .u8 b2, .int .u8 b3, .int .u8 b4, .int .u8 b5, .int .i64 ty, .string s] 36)).alloc (.cells #[.int .i64 0, .int .u8 0, .int .u8 0, .int .u8 0, .int .u8 0, .int .u8 0, .int .u8 0, .string ⟨#[]⟩, .string ⟨#[]⟩, .bool false] 42)).cell? ⟨b, o, none⟩) ∧ (∀ b o, b < w.heap.size + 2 → w2.frozen? ⟨b, o, none⟩ = ((w.alloc (.cells #[.int .u8 a0, .int .u8 a1, .int .u8 a2, .int .u8 a3, .int .u8 a4, .int .u8 a5, .int .u8 b0, .int .u8 b1, .int .u8 b2, .int .u8 b3, .int .u8 b4, .int .u8 b5, .int .i64 ty, .string s] 36)).alloc (.cells #[.int .i64 0, .int .u8 0, .int .u8 0, .int .u8 0, .int .u8 0, .int .u8 0, .int .u8 0, .string ⟨#[]⟩, .string ⟨#[]⟩, .bool false] 42)).frozen? ⟨b, o, none⟩) :=
    ⟨fun b o h => HB2.out.cell (p := ⟨b, o, none⟩) (by simpa using h), fun b o h => HB2.out.frozen (p := ⟨b, o, none⟩) (by simpa using h)⟩
  have y2 : w.heap.size + 1 < w2.heap.size := z2
  clear hb2 HD
  go_wp2
  exact bodyPost_ret (v := .tuple #[.agg #[.int .i64 0, .int .u8 0, .int .u8 0, .int .u8 0, .int .u8 0, .int .u8 0, .int .u8 0, .string ⟨#[]⟩, .string ⟨#[]⟩, .bool false], .int .i64 40]) (by simp [results, Tryd.results19, go_sem, hc2, World.cell?_alloc_lt, y2]) rfl ⟨rfl, below_alloc (below10r ((((Below.refl w.heap.size w).alloc (Nat.le_refl _) (.cells #[.int .u8 a0, .int .u8 a1, .int .u8 a2, .int .u8 a3, .int .u8 a4, .int .u8 a5, .int .u8 b0, .int .u8 b1, .int .u8 b2, .int .u8 b3, .int .u8 b4, .int .u8 b5, .int .i64 ty, .string s] 36)).alloc (by simp) (.cells #[.int .i64 0, .int .u8 0, .int .u8 0, .int .u8 0, .int .u8 0, .int .u8 0, .int .u8 0, .string ⟨#[]⟩, .string ⟨#[]⟩, .bool false] 42)).trans (HB2.out.mono (by simp; omega)))) _⟩
set_option maxHeartbeats 4000000 in
set_option maxRecDepth 100000 in
theorem rread_fs3 (x0 : Int) (hx0 : byteAt (bts bd) 0 = x0) (x1 : Int) (hx1 : byteAt (bts bd) 1 = x1) (x24 : Int) (hx24 : byteAt (bts bd) 24 = x24) (x25 : Int) (hx25 : byteAt (bts bd) 25 = x25) (k0 : x0 = 136) (k24 : x24 ≠ 2) (k2 : x1 = 0) (k3 : x25 = 1) : Calls Tryd.prog 19 #[.agg #[.int .u8 a0, .int .u8 a1, .int .u8 a2, .int .u8 a3, .int .u8 a4, .int .u8 a5, .int .u8 b0, .int .u8 b1, .int .u8 b2, .int .u8 b3, .int .u8 b4, .int .u8 b5, .int .i64 ty, .string s]] w (Told (Nt.zero, 40) w) := by
  have n2 : ((f.size : Int) != 16) = false := by simp [h6]
  have n5 : ((bd.size : Int) != 32) = false := by simp [hb32]
  have m32 : (bd.size : Int) = 32 := by omega
  have i0 : ((bd[0]'(by omega)).toNat : Int) = x0 := by rw [at_idx]; exact hx0
  have i1 : ((bd[1]'(by omega)).toNat : Int) = x1 := by rw [at_idx]; exact hx1
  have i24 : ((bd[24]'(by omega)).toNat : Int) = x24 := by rw [at_idx]; exact hx24
  have i25 : ((bd[25]'(by omega)).toNat : Int) = x25 := by rw [at_idx]; exact hx25
  have e1 : (x0 == 135) = false := by simp [k0]
  have e3 : (x0 == 136) = true := by simp [k0]
  have e2 : (x24 == 2) = false := by simp [k24]
  have e4 : (x1 != 0) = false := by simp [k2]
  have e5 : (x25 != 1) = false := by simp [k3]
  clear k0 k24
  clear k2 k3
  clear hx0 hx1 hx24 hx25
  have g0 : (ty == 2054) = false := by simp [ht]
  have g00 : (ty != 34525) = false := by simp [ht]
  obtain ⟨c1, w1, hr1, ho1, hb1, hz1, -⟩ := conv_bytes ((w.alloc (.cells #[.int .u8 a0, .int .u8 a1, .int .u8 a2, .int .u8 a3, .int .u8 a4, .int .u8 a5, .int .u8 b0, .int .u8 b1, .int .u8 b2, .int .u8 b3, .int .u8 b4, .int .u8 b5, .int .i64 ty, .string s] 36)).alloc (.cells #[.int .i64 0, .int .u8 0, .int .u8 0, .int .u8 0, .int .u8 0, .int .u8 0, .int .u8 0, .string ⟨#[]⟩, .string ⟨#[]⟩, .bool false] 42)) ((w.alloc (.cells #[.int .u8 a0, .int .u8 a1, .int .u8 a2, .int .u8 a3, .int .u8 a4, .int .u8 a5, .int .u8 b0, .int .u8 b1, .int .u8 b2, .int .u8 b3, .int .u8 b4, .int .u8 b5, .int .i64 ty, .string s] 36)).alloc (.cells #[.int .i64 0, .int .u8 0, .int .u8 0, .int .u8 0, .int .u8 0, .int .u8 0, .int .u8 0, .string ⟨#[]⟩, .string ⟨#[]⟩, .bool false] 42)).heap.size s 9 Tryd.underlying9 (Nat.le_refl _) (by omega) (w.heap.size + 2) (by simp) s.size rfl
  have HD := Lib.hid (rdec_any (some ⟨w.heap.size + 2, 0, none⟩) s.size c1 (bts s) w1 (ho1.part (bts_byt s)) (by omega) f t 58 255 bd 0 hd)
  have HB1 := Lib.hid hb1
  have z1 : w.heap.size + 2 ≤ w1.heap.size := by have := hb1.size; simpa using this
  clear hb1 hz1 ho1 hd ht
  go_enter Tryd.func19, Tryd.ntmps19
  go_wp2_with fail
  refine HD.out.mono ?_
  rintro e w2 ⟨rfl, hb2⟩
  have HB2 := Lib.hid (below_then HB1.out (by simpa using z1) hb2)
  have z2 : w.heap.size + 2 ≤ w2.heap.size := by have := HB2.out.size; simpa using this
  obtain ⟨hc2, hf2⟩ : (∀ b o, b < w.heap.size + 2 → w2.cell? ⟨b, o, none⟩ = ((w.alloc (.cells #[.int .u8 a0, .int .u8 a1, .int .u8 a2, .int .u8 a3, .int .u8 a4, .int .u8 a5, .int .u8 b0, .int .u8 b1, .int .u8 b2, .int .u8 b3, .int .u8 b4, .int .u8 b5, .int .i64 ty, .string s] 36)).alloc (.cells #[.int .i64 0, .int .u8 0, .int .u8 0, .int .u8 0, .int .u8 0, .int .u8 0, .int .u8 0, .string ⟨#[]⟩, .string ⟨#[]⟩, .bool false] 42)).cell? ⟨b, o, none⟩) ∧ (∀ b o, b < w.heap.size + 2 → w2.frozen? ⟨b, o, none⟩ = ((w.alloc (.cells #[.int .u8 a0, .int .u8 a1, .int .u8 a2, .int .u8 a3, .int .u8 a4, .int .u8 a5, .int .u8 b0, .int .u8 b1, .int .u8 b2, .int .u8 b3, .int .u8 b4, .int .u8 b5, .int .i64 ty, .string s] 36)).alloc (.cells #[.int .i64 0, .int .u8 0, .int .u8 0, .int .u8 0, .int .u8 0, .int .u8 0, .int .u8 0, .string ⟨#[]⟩, .string ⟨#[]⟩, .bool false] 42)).frozen? ⟨b, o, none⟩) :=
    ⟨fun b o h => HB2.out.cell (p := ⟨b, o, none⟩) (by simpa using h), fun b o h => HB2.out.frozen (p := ⟨b, o, none⟩) (by simpa using h)⟩
  have y2 : w.heap.size + 1 < w2.heap.size := z2
  clear hb2 HD
  go_wp2
  exact bodyPost_ret (v := .tuple #[.agg #[.int .i64 0, .int .u8 0, .int .u8 0, .int .u8 0, .int .u8 0, .int .u8 0, .int .u8 0, .string ⟨#[]⟩, .string ⟨#[]⟩, .bool false], .int .i64 40]) (by simp [results, Tryd.results19, go_sem, hc2, World.cell?_alloc_lt, y2]) rfl ⟨rfl, below_alloc (below10r ((((Below.refl w.heap.size w).alloc (Nat.le_refl _) (.cells #[.int .u8 a0, .int .u8 a1, .int .u8 a2, .int .u8 a3, .int .u8 a4, .int .u8 a5, .int .u8 b0, .int .u8 b1, .int .u8 b2, .int .u8 b3, .int .u8 b4, .int .u8 b5, .int .i64 ty, .string s] 36)).alloc (by simp) (.cells #[.int .i64 0, .int .u8 0, .int .u8 0, .int .u8 0, .int .u8 0, .int .u8 0, .int .u8 0, .string ⟨#[]⟩, .string ⟨#[]⟩, .bool false] 42)).trans (HB2.out.mono (by simp; omega)))) _⟩
set_option maxHeartbeats 4000000 in
set_option maxRecDepth 100000 in
theorem rread_ft1 (x0 : Int) (hx0 : byteAt (bts bd) 0 = x0) (x1 : Int) (hx1 : byteAt (bts bd) 1 = x1) (x24 : Int) (hx24 : byteAt (bts bd) 24 = x24) (x25 : Int) (hx25 : byteAt (bts bd) 25 = x25) (k0 : x0 ≠ 135) (k1 : x0 ≠ 136) (k2 : x1 ≠ 0) : Calls Tryd.prog 19 #[.agg #[.int .u8 a0, .int .u8 a1, .int .u8 a2, .int .u8 a3, .int .u8 a4, .int .u8 a5, .int .u8 b0, .int .u8 b1, .int .u8 b2, .int .u8 b3, .int .u8 b4, .int .u8 b5, .int .i64 ty, .string s]] w (Told (Nt.zero, 40) w) := by
  have n2 : ((f.size : Int) != 16) = false := by simp [h6]
  have n5 : ((bd.size : Int) != 32) = false := by simp [hb32]
  have m32 : (bd.size : Int) = 32 := by omega
  have i0 : ((bd[0]'(by omega)).toNat : Int) = x0 := by rw [at_idx]; exact hx0
  have i1 : ((bd[1]'(by omega)).toNat : Int) = x1 := by rw [at_idx]; exact hx1
  have i24 : ((bd[24]'(by omega)).toNat : Int) = x24 := by rw [at_idx]; exact hx24
  have i25 : ((bd[25]'(by omega)).toNat : Int) = x25 := by rw [at_idx]; exact hx25
  have e1 : (x0 == 135) = false := by simp [k0]
  have e3 : (x0 == 136) = false := by simp [k1]
  have e4 : (x1 != 0) = true := by simp [k2]
  clear k0 k1
  clear k2
  clear hx0 hx1 hx24 hx25
  have g0 : (ty == 2054) = false := by simp [ht]
  have g00 : (ty != 34525) = false := by simp [ht]
  obtain ⟨c1, w1, hr1, ho1, hb1, hz1, -⟩ := conv_bytes ((w.alloc (.cells #[.int .u8 a0, .int .u8 a1, .int .u8 a2, .int .u8 a3, .int .u8 a4, .int .u8 a5, .int .u8 b0, .int .u8 b1, .int .u8 b2, .int .u8 b3, .int .u8 b4, .int .u8 b5, .int .i64 ty, .string s] 36)).alloc (.cells #[.int .i64 0, .int .u8 0, .int .u8 0, .int .u8 0, .int .u8 0, .int .u8 0, .int .u8 0, .string ⟨#[]⟩, .string ⟨#[]⟩, .bool false] 42)) ((w.alloc (.cells #[.int .u8 a0, .int .u8 a1, .int .u8 a2, .int .u8 a3, .int .u8 a4, .int .u8 a5, .int .u8 b0, .int .u8 b1, .int .u8 b2, .int .u8 b3, .int .u8 b4, .int .u8 b5, .int .i64 ty, .string s] 36)).alloc (.cells #[.int .i64 0, .int .u8 0, .int .u8 0, .int .u8 0, .int .u8 0, .int .u8 0, .int .u8 0, .string ⟨#[]⟩, .string ⟨#[]⟩, .bool false] 42)).heap.size s 9 Tryd.underlying9 (Nat.le_refl _) (by omega) (w.heap.size + 2) (by simp) s.size rfl
  have HD := Lib.hid (rdec_any (some ⟨w.heap.size + 2, 0, none⟩) s.size c1 (bts s) w1 (ho1.part (bts_byt s)) (by omega) f t 58 255 bd 0 hd)
  have HB1 := Lib.hid hb1
  have z1 : w.heap.size + 2 ≤ w1.heap.size := by have := hb1.size; simpa using this
  clear hb1 hz1 ho1 hd ht
  go_enter Tryd.func19, Tryd.ntmps19
  go_wp2_with fail
  refine HD.out.mono ?_
  rintro e w2 ⟨rfl, hb2⟩
  have HB2 := Lib.hid (below_then HB1.out (by simpa using z1) hb2)
  have z2 : w.heap.size + 2 ≤ w2.heap.size := by have := HB2.out.size; simpa using this
  obtain ⟨hc2, hf2⟩ : (∀ b o, b < w.heap.size + 2 → w2.cell? ⟨b, o, none⟩ = ((w.alloc (.cells #[.int .u8 a0, .int .u8 a1, .int .u8 a2, .int .u8 a3, .int .u8 a4, .int .u8 a5, .int .u8 b0, .int .u8 b1, .int .u8 b2, .int .u8 b3, .int .u8 b4, .int .u8 b5, .int .i64 ty, .string s] 36)).alloc (.cells #[.int .i64 0, .int .u8 0, .int .u8 0, .int .u8 0, .int .u8 0, .int .u8 0, .int .u8 0, .string ⟨#[]⟩, .string ⟨#[]⟩, .bool false] 42)).cell? ⟨b, o, none⟩) ∧ (∀ b o, b < w.heap.size + 2 → w2.frozen? ⟨b, o, none⟩ = ((w.alloc (.cells #[.int .u8 a0, .int .u8 a1, .int .u8 a2, .int .u8 a3, .int .u8 a4, .int .u8 a5, .int .u8 b0, .int .u8 b1, .int .u8 b2, .int .u8 b3, .int .u8 b4, .int .u8 b5, .int .i64 ty, .string s] 36)).alloc (.cells #[.int .i64 0, .int .u8 0, .int .u8 0, .int .u8 0, .int .u8 0, .int .u8 0, .int .u8 0, .string ⟨#[]⟩, .string ⟨#[]⟩, .bool false] 42)).frozen? ⟨b, o, none⟩) :=
    ⟨fun b o h => HB2.out.cell (p := ⟨b, o, none⟩) (by simpa using h), fun b o h => HB2.out.frozen (p := ⟨b, o, none⟩) (by simpa using h)⟩
  have y2 : w.heap.size + 1 < w2.heap.size := z2
  clear hb2 HD
  go_wp2
  exact bodyPost_ret (v := .tuple #[.agg #[.int .i64 0, .int .u8 0, .int .u8 0, .int .u8 0, .int .u8 0, .int .u8 0, .int .u8 0, .string ⟨#[]⟩, .string ⟨#[]⟩, .bool false], .int .i64 40]) (by simp [results, Tryd.results19, go_sem, hc2, World.cell?_alloc_lt, y2]) rfl ⟨rfl, below_alloc (below10r ((((Below.refl w.heap.size w).alloc (Nat.le_refl _) (.cells #[.int .u8 a0, .int .u8 a1, .int .u8 a2, .int .u8 a3, .int .u8 a4, .int .u8 a5, .int .u8 b0, .int .u8 b1, .int .u8 b2, .int .u8 b3, .int .u8 b4, .int .u8 b5, .int .i64 ty, .string s] 36)).alloc (by simp) (.cells #[.int .i64 0, .int .u8 0, .int .u8 0, .int .u8 0, .int .u8 0, .int .u8 0, .int .u8 0, .string ⟨#[]⟩, .string ⟨#[]⟩, .bool false] 42)).trans (HB2.out.mono (by simp; omega)))) _⟩
set_option maxHeartbeats 4000000 in
set_option maxRecDepth 100000 in
theorem rread_ft2 (x0 : Int) (hx0 : byteAt (bts bd) 0 = x0) (x1 : Int) (hx1 : byteAt (bts bd) 1 = x1) (x24 : Int) (hx24 : byteAt (bts bd) 24 = x24) (x25 : Int) (hx25 : byteAt (bts bd) 25 = x25) (k0 : x0 ≠ 135) (k1 : x0 ≠ 136) (k2 : x1 = 0) (k3 : x25 ≠ 1) : Calls Tryd.prog 19 #[.agg #[.int .u8 a0, .int .u8 a1, .int .u8 a2, .int .u8 a3, .int .u8 a4, .int .u8 a5, .int .u8 b0, .int .u8 b1, .int .u8 b2, .int .u8 b3, .int .u8 b4, .int .u8 b5, .int .i64 ty, .string s]] w (Told (Nt.zero, 40) w) := by
  have n2 : ((f.size : Int) != 16) = false := by simp [h6]
  have n5 : ((bd.size : Int) != 32) = false := by simp [hb32]
  have m32 : (bd.size : Int) = 32 := by omega
  have i0 : ((bd[0]'(by omega)).toNat : Int) = x0 := by rw [at_idx]; exact hx0
  have i1 : ((bd[1]'(by omega)).toNat : Int) = x1 := by rw [at_idx]; exact hx1
  have i24 : ((bd[24]'(by omega)).toNat : Int) = x24 := by rw [at_idx]; exact hx24
  have i25 : ((bd[25]'(by omega)).toNat : Int) = x25 := by rw [at_idx]; exact hx25
  have e1 : (x0 == 135) = false := by simp [k0]
  have e3 : (x0 == 136) = false := by simp [k1]
  have e4 : (x1 != 0) = false := by simp [k2]
  have e5 : (x25 != 1) = true := by simp [k3]
  clear k0 k1
  clear k2 k3
  clear hx0 hx1 hx24 hx25
  have g0 : (ty == 2054) = false := by simp [ht]
  have g00 : (ty != 34525) = false := by simp [ht]
  obtain ⟨c1, w1, hr1, ho1, hb1, hz1, -⟩ := conv_bytes ((w.alloc (.cells #[.int .u8 a0, .int .u8 a1, .int .u8 a2, .int .u8 a3, .int .u8 a4, .int .u8 a5, .int .u8 b0, .int .u8 b1, .int .u8 b2, .int .u8 b3, .int .u8 b4, .int .u8 b5, .int .i64 ty, .string s] 36)).alloc (.cells #[.int .i64 0, .int .u8 0, .int .u8 0, .int .u8 0, .int .u8 0, .int .u8 0, .int .u8 0, .string ⟨#[]⟩, .string ⟨#[]⟩, .bool false] 42)) ((w.alloc (.cells #[.int .u8 a0, .int .u8 a1, .int .u8 a2, .int .u8 a3, .int .u8 a4, .int .u8 a5, .int .u8 b0, .int .u8 b1, .int .u8 b2, .int .u8 b3, .int .u8 b4, .int .u8 b5, .int .i64 ty, .string s] 36)).alloc (.cells #[.int .i64 0, .int .u8 0, .int .u8 0, .int .u8 0, .int .u8 0, .int .u8 0, .int .u8 0, .string ⟨#[]⟩, .string ⟨#[]⟩, .bool false] 42)).heap.size s 9 Tryd.underlying9 (Nat.le_refl _) (by omega) (w.heap.size + 2) (by simp) s.size rfl
  have HD := Lib.hid (rdec_any (some ⟨w.heap.size + 2, 0, none⟩) s.size c1 (bts s) w1 (ho1.part (bts_byt s)) (by omega) f t 58 255 bd 0 hd)
  have HB1 := Lib.hid hb1
  have z1 : w.heap.size + 2 ≤ w1.heap.size := by have := hb1.size; simpa using this
  clear hb1 hz1 ho1 hd ht
  go_enter Tryd.func19, Tryd.ntmps19
  go_wp2_with fail
  refine HD.out.mono ?_
  rintro e w2 ⟨rfl, hb2⟩
  have HB2 := Lib.hid (below_then HB1.out (by simpa using z1) hb2)
  have z2 : w.heap.size + 2 ≤ w2.heap.size := by have := HB2.out.size; simpa using this
  obtain ⟨hc2, hf2⟩ : (∀ b o, b < w.heap.size + 2 → w2.cell? ⟨b, o, none⟩ = ((w.alloc (.cells #[.int .u8 a0, .int .u8 a1, .int .u8 a2, .int .u8 a3, .int .u8 a4, .int .u8 a5, .int .u8 b0, .int .u8 b1, .int .u8 b2, .int .u8 b3, .int .u8 b4, .int .u8 b5, .int .i64 ty, .string s] 36)).alloc (.cells #[.int .i64 0, .int .u8 0, .int .u8 0, .int .u8 0, .int .u8 0, .int .u8 0, .int .u8 0, .string ⟨#[]⟩, .string ⟨#[]⟩, .bool false] 42)).cell? ⟨b, o, none⟩) ∧ (∀ b o, b < w.heap.size + 2 → w2.frozen? ⟨b, o, none⟩ = ((w.alloc (.cells #[.int .u8 a0, .int .u8 a1, .int .u8 a2, .int .u8 a3, .int .u8 a4, .int .u8 a5, .int .u8 b0, .int .u8 b1, .int .u8 b2, .int .u8 b3, .int .u8 b4, .int .u8 b5, .int .i64 ty, .string s] 36)).alloc (.cells #[.int .i64 0, .int .u8 0, .int .u8 0, .int .u8 0, .int .u8 0, .int .u8 0, .int .u8 0, .string ⟨#[]⟩, .string ⟨#[]⟩, .bool false] 42)).frozen? ⟨b, o, none⟩) :=
    ⟨fun b o h => HB2.out.cell (p := ⟨b, o, none⟩) (by simpa using h), fun b o h => HB2.out.frozen (p := ⟨b, o, none⟩) (by simpa using h)⟩
  have y2 : w.heap.size + 1 < w2.heap.size := z2
  clear hb2 HD
  go_wp2
  exact bodyPost_ret (v := .tuple #[.agg #[.int .i64 0, .int .u8 0, .int .u8 0, .int .u8 0, .int .u8 0, .int .u8 0, .int .u8 0, .string ⟨#[]⟩, .string ⟨#[]⟩, .bool false], .int .i64 40]) (by simp [results, Tryd.results19, go_sem, hc2, World.cell?_alloc_lt, y2]) rfl ⟨rfl, below_alloc (below10r ((((Below.refl w.heap.size w).alloc (Nat.le_refl _) (.cells #[.int .u8 a0, .int .u8 a1, .int .u8 a2, .int .u8 a3, .int .u8 a4, .int .u8 a5, .int .u8 b0, .int .u8 b1, .int .u8 b2, .int .u8 b3, .int .u8 b4, .int .u8 b5, .int .i64 ty, .string s] 36)).alloc (by simp) (.cells #[.int .i64 0, .int .u8 0, .int .u8 0, .int .u8 0, .int .u8 0, .int .u8 0, .int .u8 0, .string ⟨#[]⟩, .string ⟨#[]⟩, .bool false] 42)).trans (HB2.out.mono (by simp; omega)))) _⟩
set_option maxHeartbeats 4000000 in
set_option maxRecDepth 100000 in
theorem rread_ft3 (x0 : Int) (hx0 : byteAt (bts bd) 0 = x0) (x1 : Int) (hx1 : byteAt (bts bd) 1 = x1) (x24 : Int) (hx24 : byteAt (bts bd) 24 = x24) (x25 : Int) (hx25 : byteAt (bts bd) 25 = x25) (k0 : x0 ≠ 135) (k1 : x0 ≠ 136) (k2 : x1 = 0) (k3 : x25 = 1) : Calls Tryd.prog 19 #[.agg #[.int .u8 a0, .int .u8 a1, .int .u8 a2, .int .u8 a3, .int .u8 a4, .int .u8 a5, .int .u8 b0, .int .u8 b1, .int .u8 b2, .int .u8 b3, .int .u8 b4, .int .u8 b5, .int .i64 ty, .string s]] w (Told (Nt.zero, 40) w) := by
  have n2 : ((f.size : Int) != 16) = false := by simp [h6]
  have n5 : ((bd.size : Int) != 32) = false := by simp [hb32]
  have m32 : (bd.size : Int) = 32 := by omega
  have i0 : ((bd[0]'(by omega)).toNat : Int) = x0 := by rw [at_idx]; exact hx0
  have i1 : ((bd[1]'(by omega)).toNat : Int) = x1 := by rw [at_idx]; exact hx1
  have i24 : ((bd[24]'(by omega)).toNat : Int) = x24 := by rw [at_idx]; exact hx24
  have i25 : ((bd[25]'(by omega)).toNat : Int) = x25 := by rw [at_idx]; exact hx25
  have e1 : (x0 == 135) = false := by simp [k0]
  have e3 : (x0 == 136) = false := by simp [k1]
  have e4 : (x1 != 0) = false := by simp [k2]
  have e5 : (x25 != 1) = false := by simp [k3]
  clear k0 k1
  clear k2 k3
  clear hx0 hx1 hx24 hx25
  have g0 : (ty == 2054) = false := by simp [ht]
  have g00 : (ty != 34525) = false := by simp [ht]
  obtain ⟨c1, w1, hr1, ho1, hb1, hz1, -⟩ := conv_bytes ((w.alloc (.cells #[.int .u8 a0, .int .u8 a1, .int .u8 a2, .int .u8 a3, .int .u8 a4, .int .u8 a5, .int .u8 b0, .int .u8 b1, .int .u8 b2, .int .u8 b3, .int .u8 b4, .int .u8 b5, .int .i64 ty, .string s] 36)).alloc (.cells #[.int .i64 0, .int .u8 0, .int .u8 0, .int .u8 0, .int .u8 0, .int .u8 0, .int .u8 0, .string ⟨#[]⟩, .string ⟨#[]⟩, .bool false] 42)) ((w.alloc (.cells #[.int .u8 a0, .int .u8 a1, .int .u8 a2, .int .u8 a3, .int .u8 a4, .int .u8 a5, .int .u8 b0, .int .u8 b1, .int .u8 b2, .int .u8 b3, .int .u8 b4, .int .u8 b5, .int .i64 ty, .string s] 36)).alloc (.cells #[.int .i64 0, .int .u8 0, .int .u8 0, .int .u8 0, .int .u8 0, .int .u8 0, .int .u8 0, .string ⟨#[]⟩, .string ⟨#[]⟩, .bool false] 42)).heap.size s 9 Tryd.underlying9 (Nat.le_refl _) (by omega) (w.heap.size + 2) (by simp) s.size rfl
  have HD := Lib.hid (rdec_any (some ⟨w.heap.size + 2, 0, none⟩) s.size c1 (bts s) w1 (ho1.part (bts_byt s)) (by omega) f t 58 255 bd 0 hd)
  have HB1 := Lib.hid hb1
  have z1 : w.heap.size + 2 ≤ w1.heap.size := by have := hb1.size; simpa using this
  clear hb1 hz1 ho1 hd ht
  go_enter Tryd.func19, Tryd.ntmps19
  go_wp2_with fail
  refine HD.out.mono ?_
  rintro e w2 ⟨rfl, hb2⟩
  have HB2 := Lib.hid (below_then HB1.out (by simpa using z1) hb2)
  have z2 : w.heap.size + 2 ≤ w2.heap.size := by have := HB2.out.size; simpa using this
  obtain ⟨hc2, hf2⟩ : (∀ b o, b < w.heap.size + 2 → w2.cell? ⟨b, o, none⟩ = ((w.alloc (.cells #[.int .u8 a0, .int .u8 a1, .int .u8 a2, .int .u8 a3, .int .u8 a4, .int .u8 a5, .int .u8 b0, .int .u8 b1, .int .u8 b2, .int .u8 b3, .int .u8 b4, .int .u8 b5, .int .i64 ty, .string s] 36)).alloc (.cells #[.int .i64 0, .int .u8 0, .int .u8 0, .int .u8 0, .int .u8 0, .int .u8 0, .int .u8 0, .string ⟨#[]⟩, .string ⟨#[]⟩, .bool false] 42)).cell? ⟨b, o, none⟩) ∧ (∀ b o, b < w.heap.size + 2 → w2.frozen? ⟨b, o, none⟩ = ((w.alloc (.cells #[.int .u8 a0, .int .u8 a1, .int .u8 a2, .int .u8 a3, .int .u8 a4, .int .u8 a5, .int .u8 b0, .int .u8 b1, .int .u8 b2, .int .u8 b3, .int .u8 b4, .int .u8 b5, .int .i64 ty, .string s] 36)).alloc (.cells #[.int .i64 0, .int .u8 0, .int .u8 0, .int .u8 0, .int .u8 0, .int .u8 0, .int .u8 0, .string ⟨#[]⟩, .string ⟨#[]⟩, .bool false] 42)).frozen? ⟨b, o, none⟩) :=
    ⟨fun b o h => HB2.out.cell (p := ⟨b, o, none⟩) (by simpa using h), fun b o h => HB2.out.frozen (p := ⟨b, o, none⟩) (by simpa using h)⟩
  have y2 : w.heap.size + 1 < w2.heap.size := z2
  clear hb2 HD
  go_wp2
  exact bodyPost_ret (v := .tuple #[.agg #[.int .i64 0, .int .u8 0, .int .u8 0, .int .u8 0, .int .u8 0, .int .u8 0, .int .u8 0, .string ⟨#[]⟩, .string ⟨#[]⟩, .bool false], .int .i64 40]) (by simp [results, Tryd.results19, go_sem, hc2, World.cell?_alloc_lt, y2]) rfl ⟨rfl, below_alloc (below10r ((((Below.refl w.heap.size w).alloc (Nat.le_refl _) (.cells #[.int .u8 a0, .int .u8 a1, .int .u8 a2, .int .u8 a3, .int .u8 a4, .int .u8 a5, .int .u8 b0, .int .u8 b1, .int .u8 b2, .int .u8 b3, .int .u8 b4, .int .u8 b5, .int .i64 ty, .string s] 36)).alloc (by simp) (.cells #[.int .i64 0, .int .u8 0, .int .u8 0, .int .u8 0, .int .u8 0, .int .u8 0, .int .u8 0, .string ⟨#[]⟩, .string ⟨#[]⟩, .bool false] 42)).trans (HB2.out.mono (by simp; omega)))) _⟩
end

end Go.Proofs.YtdoefjhdipkkeaaDoor
