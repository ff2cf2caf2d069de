/-
  What outriderref05.Quoted does of an error.
-/
import Derived.Test.YtomcniakffipfaaDoorRqbase
namespace Go.Proofs.YtomcniakffipfaaDoor
open Go.RowKit
set_option linter.unusedVariables false
set_option maxRecDepth 10000


set_option maxHeartbeats 1000000 in
theorem rq4_11_sum (f t : ByteArray) (l : Int) (s : ByteArray) (w : World) (hf : f.size = 4) (ht : t.size = 4) (hs : 0 < s.size) (hs2 : s.size ≤ 3000) (hx : byteAt (bts s) 0 = 11) (v : Int) (hv : fd (tot (bts s)) = v) (h0 : v ≠ 65535) : Calls Tryd.prog 7 #[.agg #[.string f, .string t, .int .i64 1, .int .i64 l, .string s]] w fun e w' => e = .returned (.tuple #[.agg #[.int .i64 0, .string ⟨#[]⟩, .string ⟨#[]⟩, .int .i64 0, .int .i64 0], .int .i64 52]) ∧ Below w.heap.size w w' := by
  have hx0 : ((s[0]'hs).toNat : Int) = 11 := by rw [← byteAt_text s 0 hs]; exact hx
  have i0 : (0 : Int) < (s.size : Int) := by omega
  have dz : decide ((s.size : Int) = 0) = false := decide_eq_false (by omega)
  have dz3 : ((s.size : Int) == 0) = false := beq_eq_false_iff_ne.2 (by omega)
  clear hx
  have HV := Lib.hid hv
  have dv : (v != 65535) = true := by simpa using h0
  clear hv
  obtain ⟨c2, w2, hr2, ho2, hb2, -, -⟩ := conv_bytes ((w.alloc (.cells #[.string f, .string t, .int .i64 1, .int .i64 l, .string s] 24)).alloc (.cells #[.int .i64 0, .string ⟨#[]⟩, .string ⟨#[]⟩, .int .i64 0, .int .i64 0] 27)) ((w.alloc (.cells #[.string f, .string t, .int .i64 1, .int .i64 l, .string s] 24)).alloc (.cells #[.int .i64 0, .string ⟨#[]⟩, .string ⟨#[]⟩, .int .i64 0, .int .i64 0] 27)).heap.size s 9 Tryd.underlying9 (Nat.le_refl _) (by omega) (w.heap.size + 1 + 1) (by simp) s.size rfl
  have HQ2 := Lib.hid ((QW.new w f t 1 l s).next hb2)
  have HP2 := Lib.hid (ho2.part (bts_byt s))
  clear ho2 hb2
  go_enter Tryd.func7, Tryd.ntmps7
  go_wp2_with fail
  refine (rsum_any (some ⟨w.heap.size + 1 + 1, 0, none⟩) s.size c2 _ w2 HP2.out (by omega)).mono ?_
  rintro e w3 ⟨rfl, rfl⟩
  rw [HV.out]
  obtain ⟨z0, z1, z2, z3, z4⟩ := HQ2.out.2.1
  have zf : ∀ o, w2.frozen? ⟨w.heap.size + 1, o, none⟩ = false := HQ2.out.2.2.1
  have n2 : w.heap.size + 1 < w2.heap.size := World.block_lt_of_cell? _ _ z0
  go_wp2
  exact bodyPost_ret (v := .tuple #[.agg #[.int .i64 0, .string ⟨#[]⟩, .string ⟨#[]⟩, .int .i64 0, .int .i64 0], .int .i64 52]) (by simp [results, Tryd.results7, go_sem, *]) rfl ⟨rfl, below5 HQ2.out.2.2.2.1 (Nat.le_succ _)⟩

set_option maxHeartbeats 1000000 in
theorem rq4_11_short (f t : ByteArray) (l : Int) (s : ByteArray) (w : World) (hf : f.size = 4) (ht : t.size = 4) (hs : 0 < s.size) (hs2 : s.size ≤ 3000) (hx : byteAt (bts s) 0 = 11) (hv : fd (tot (bts s)) = 65535) (hn : s.size < 32) : Calls Tryd.prog 7 #[.agg #[.string f, .string t, .int .i64 1, .int .i64 l, .string s]] w fun e w' => e = .returned (.tuple #[.agg #[.int .i64 0, .string ⟨#[]⟩, .string ⟨#[]⟩, .int .i64 0, .int .i64 0], .int .i64 53]) ∧ Below w.heap.size w w' := by
  have hx0 : ((s[0]'hs).toNat : Int) = 11 := by rw [← byteAt_text s 0 hs]; exact hx
  have i0 : (0 : Int) < (s.size : Int) := by omega
  have dz : decide ((s.size : Int) = 0) = false := decide_eq_false (by omega)
  have dz3 : ((s.size : Int) == 0) = false := beq_eq_false_iff_ne.2 (by omega)
  clear hx
  have HV := Lib.hid hv
  have dn : decide (32 ≤ (s.size : Int)) = false := decide_eq_false (by omega)
  have dn2 : decide (32 ≤ s.size) = false := decide_eq_false (by omega)
  clear hv
  obtain ⟨c2, w2, hr2, ho2, hb2, -, -⟩ := conv_bytes ((w.alloc (.cells #[.string f, .string t, .int .i64 1, .int .i64 l, .string s] 24)).alloc (.cells #[.int .i64 0, .string ⟨#[]⟩, .string ⟨#[]⟩, .int .i64 0, .int .i64 0] 27)) ((w.alloc (.cells #[.string f, .string t, .int .i64 1, .int .i64 l, .string s] 24)).alloc (.cells #[.int .i64 0, .string ⟨#[]⟩, .string ⟨#[]⟩, .int .i64 0, .int .i64 0] 27)).heap.size s 9 Tryd.underlying9 (Nat.le_refl _) (by omega) (w.heap.size + 1 + 1) (by simp) s.size rfl
  have HQ2 := Lib.hid ((QW.new w f t 1 l s).next hb2)
  have HP2 := Lib.hid (ho2.part (bts_byt s))
  clear ho2 hb2
  go_enter Tryd.func7, Tryd.ntmps7
  go_wp2_with fail
  refine (rsum_any (some ⟨w.heap.size + 1 + 1, 0, none⟩) s.size c2 _ w2 HP2.out (by omega)).mono ?_
  rintro e w3 ⟨rfl, rfl⟩
  rw [HV.out]
  obtain ⟨z0, z1, z2, z3, z4⟩ := HQ2.out.2.1
  have zf : ∀ o, w2.frozen? ⟨w.heap.size + 1, o, none⟩ = false := HQ2.out.2.2.1
  have n2 : w.heap.size + 1 < w2.heap.size := World.block_lt_of_cell? _ _ z0
  go_wp2
  exact bodyPost_ret (v := .tuple #[.agg #[.int .i64 0, .string ⟨#[]⟩, .string ⟨#[]⟩, .int .i64 0, .int .i64 0], .int .i64 53]) (by simp [results, Tryd.results7, go_sem, *]) rfl ⟨rfl, below5 HQ2.out.2.2.2.1 (Nat.le_succ _)⟩

set_option maxHeartbeats 1000000 in
theorem rq4_11_first (f t : ByteArray) (l : Int) (s : ByteArray) (w : World) (hf : f.size = 4) (ht : t.size = 4) (hs : 0 < s.size) (hs2 : s.size ≤ 3000) (hx : byteAt (bts s) 0 = 11) (hv : fd (tot (bts s)) = 65535) (hn : 32 ≤ s.size) (y : Int) (h8 : byteAt (bts s) 8 = y) (h0 : y ≠ 69) : Calls Tryd.prog 7 #[.agg #[.string f, .string t, .int .i64 1, .int .i64 l, .string s]] w fun e w' => e = .returned (.tuple #[.agg #[.int .i64 0, .string ⟨#[]⟩, .string ⟨#[]⟩, .int .i64 0, .int .i64 0], .int .i64 53]) ∧ Below w.heap.size w w' := by
  have hx0 : ((s[0]'hs).toNat : Int) = 11 := by rw [← byteAt_text s 0 hs]; exact hx
  have i0 : (0 : Int) < (s.size : Int) := by omega
  have dz : decide ((s.size : Int) = 0) = false := decide_eq_false (by omega)
  have dz3 : ((s.size : Int) == 0) = false := beq_eq_false_iff_ne.2 (by omega)
  clear hx
  have HV := Lib.hid hv
  have dn : decide (32 ≤ (s.size : Int)) = true := decide_eq_true (by omega)
  have dn2 : decide (32 ≤ s.size) = true := decide_eq_true (by omega)
  have hb8 : ((s[8]'(by omega)).toNat : Int) = y := by rw [← byteAt_text s 8 (by omega)]; exact h8
  have i8 : (8 : Int) < (s.size : Int) := by omega
  have by8 : 0 ≤ y ∧ y ≤ 255 := by rw [← hb8]; exact byte_le _
  have d8 : (y == 69) = false := by simpa using h0
  clear hv h8
  obtain ⟨c2, w2, hr2, ho2, hb2, -, -⟩ := conv_bytes ((w.alloc (.cells #[.string f, .string t, .int .i64 1, .int .i64 l, .string s] 24)).alloc (.cells #[.int .i64 0, .string ⟨#[]⟩, .string ⟨#[]⟩, .int .i64 0, .int .i64 0] 27)) ((w.alloc (.cells #[.string f, .string t, .int .i64 1, .int .i64 l, .string s] 24)).alloc (.cells #[.int .i64 0, .string ⟨#[]⟩, .string ⟨#[]⟩, .int .i64 0, .int .i64 0] 27)).heap.size s 9 Tryd.underlying9 (Nat.le_refl _) (by omega) (w.heap.size + 1 + 1) (by simp) s.size rfl
  have HQ2 := Lib.hid ((QW.new w f t 1 l s).next hb2)
  have HP2 := Lib.hid (ho2.part (bts_byt s))
  clear ho2 hb2
  go_enter Tryd.func7, Tryd.ntmps7
  go_wp2_with fail
  refine (rsum_any (some ⟨w.heap.size + 1 + 1, 0, none⟩) s.size c2 _ w2 HP2.out (by omega)).mono ?_
  rintro e w3 ⟨rfl, rfl⟩
  rw [HV.out]
  obtain ⟨z0, z1, z2, z3, z4⟩ := HQ2.out.2.1
  have zf : ∀ o, w2.frozen? ⟨w.heap.size + 1, o, none⟩ = false := HQ2.out.2.2.1
  have n2 : w.heap.size + 1 < w2.heap.size := World.block_lt_of_cell? _ _ z0
  go_wp2
  exact bodyPost_ret (v := .tuple #[.agg #[.int .i64 0, .string ⟨#[]⟩, .string ⟨#[]⟩, .int .i64 0, .int .i64 0], .int .i64 53]) (by simp [results, Tryd.results7, go_sem, *]) rfl ⟨rfl, below5 HQ2.out.2.2.2.1 (Nat.le_succ _)⟩

set_option maxHeartbeats 1000000 in
theorem rq4_11_proto (f t : ByteArray) (l : Int) (s : ByteArray) (w : World) (hf : f.size = 4) (ht : t.size = 4) (hs : 0 < s.size) (hs2 : s.size ≤ 3000) (hx : byteAt (bts s) 0 = 11) (hv : fd (tot (bts s)) = 65535) (hn : 32 ≤ s.size) (y : Int) (h8 : byteAt (bts s) 8 = y) (h0 : y = 69) (q : Int) (h17 : byteAt (bts s) 17 = q) (hq : portsB q = false) : Calls Tryd.prog 7 #[.agg #[.string f, .string t, .int .i64 1, .int .i64 l, .string s]] w fun e w' => e = .returned (.tuple #[.agg #[.int .i64 0, .string ⟨#[]⟩, .string ⟨#[]⟩, .int .i64 0, .int .i64 0], .int .i64 53]) ∧ Below w.heap.size w w' := by
  have hx0 : ((s[0]'hs).toNat : Int) = 11 := by rw [← byteAt_text s 0 hs]; exact hx
  have i0 : (0 : Int) < (s.size : Int) := by omega
  have dz : decide ((s.size : Int) = 0) = false := decide_eq_false (by omega)
  have dz3 : ((s.size : Int) == 0) = false := beq_eq_false_iff_ne.2 (by omega)
  clear hx
  have HV := Lib.hid hv
  have dn : decide (32 ≤ (s.size : Int)) = true := decide_eq_true (by omega)
  have dn2 : decide (32 ≤ s.size) = true := decide_eq_true (by omega)
  have hb8 : ((s[8]'(by omega)).toNat : Int) = y := by rw [← byteAt_text s 8 (by omega)]; exact h8
  have i8 : (8 : Int) < (s.size : Int) := by omega
  have by8 : 0 ≤ y ∧ y ≤ 255 := by rw [← hb8]; exact byte_le _
  have d8 : (y == 69) = true := by simpa using h0
  have hb17 : ((s[17]'(by omega)).toNat : Int) = q := by rw [← byteAt_text s 17 (by omega)]; exact h17
  have i17 : (17 : Int) < (s.size : Int) := by omega
  simp [portsB] at hq
  have d6 : (q == 6) = false := by simpa using hq.1
  have d17 : (q == 17) = false := by simpa using hq.2
  clear hv h8 h17 hq h0
  obtain ⟨c2, w2, hr2, ho2, hb2, -, -⟩ := conv_bytes ((w.alloc (.cells #[.string f, .string t, .int .i64 1, .int .i64 l, .string s] 24)).alloc (.cells #[.int .i64 0, .string ⟨#[]⟩, .string ⟨#[]⟩, .int .i64 0, .int .i64 0] 27)) ((w.alloc (.cells #[.string f, .string t, .int .i64 1, .int .i64 l, .string s] 24)).alloc (.cells #[.int .i64 0, .string ⟨#[]⟩, .string ⟨#[]⟩, .int .i64 0, .int .i64 0] 27)).heap.size s 9 Tryd.underlying9 (Nat.le_refl _) (by omega) (w.heap.size + 1 + 1) (by simp) s.size rfl
  have HQ2 := Lib.hid ((QW.new w f t 1 l s).next hb2)
  have HP2 := Lib.hid (ho2.part (bts_byt s))
  clear ho2 hb2
  go_enter Tryd.func7, Tryd.ntmps7
  go_wp2_with fail
  refine (rsum_any (some ⟨w.heap.size + 1 + 1, 0, none⟩) s.size c2 _ w2 HP2.out (by omega)).mono ?_
  rintro e w3 ⟨rfl, rfl⟩
  rw [HV.out]
  obtain ⟨z0, z1, z2, z3, z4⟩ := HQ2.out.2.1
  have zf : ∀ o, w2.frozen? ⟨w.heap.size + 1, o, none⟩ = false := HQ2.out.2.2.1
  have n2 : w.heap.size + 1 < w2.heap.size := World.block_lt_of_cell? _ _ z0
  go_wp2
  exact bodyPost_ret (v := .tuple #[.agg #[.int .i64 0, .string ⟨#[]⟩, .string ⟨#[]⟩, .int .i64 0, .int .i64 0], .int .i64 53]) (by simp [results, Tryd.results7, go_sem, *]) rfl ⟨rfl, below5 HQ2.out.2.2.2.1 (Nat.le_succ _)⟩


set_option maxHeartbeats 2000000 in
theorem rq4_11_yes6 (f t : ByteArray) (l : Int) (s : ByteArray) (w : World) (hf : f.size = 4) (ht : t.size = 4) (hs : 0 < s.size) (hs2 : s.size ≤ 3000) (hx : byteAt (bts s) 0 = 11) (hv : fd (tot (bts s)) = 65535) (hn : 32 ≤ s.size) (y : Int) (h8 : byteAt (bts s) 8 = y) (h0 : y = 69) (h17 : byteAt (bts s) 17 = 6) (g u sa sc : ByteArray) (a c : Int) (hg : s.extract 20 24 = g) (hu : s.extract 24 28 = u) (hsa : s.extract 28 30 = sa) (hsc : s.extract 30 32 = sc) (ha : twoAt (bts sa) 0 = a) (hc : twoAt (bts sc) 0 = c) : Calls Tryd.prog 7 #[.agg #[.string f, .string t, .int .i64 1, .int .i64 l, .string s]] w fun e w' => e = .returned (.tuple #[.agg #[.int .i64 6, .string g, .string u, .int .i64 a, .int .i64 c], .int .i64 0]) ∧ Below w.heap.size w w' := by
  have hx0 : ((s[0]'hs).toNat : Int) = 11 := by rw [← byteAt_text s 0 hs]; exact hx
  have i0 : (0 : Int) < (s.size : Int) := by omega
  have dz : decide ((s.size : Int) = 0) = false := decide_eq_false (by omega)
  have dz3 : ((s.size : Int) == 0) = false := beq_eq_false_iff_ne.2 (by omega)
  clear hx
  have HV := Lib.hid hv
  have za : sa.size = 2 := by rw [← hsa]; simp; omega
  have zc : sc.size = 2 := by rw [← hsc]; simp; omega
  have HTa := Lib.hid ha
  have HTc := Lib.hid hc
  have dn : decide (32 ≤ (s.size : Int)) = true := decide_eq_true (by omega)
  have dn2 : decide (32 ≤ s.size) = true := decide_eq_true (by omega)
  have k1 : (24 : Int) ≤ (s.size : Int) := by omega
  have k2 : (28 : Int) ≤ (s.size : Int) := by omega
  have k3 : (30 : Int) ≤ (s.size : Int) := by omega
  have k4 : (32 : Int) ≤ (s.size : Int) := by omega
  have hb8 : ((s[8]'(by omega)).toNat : Int) = y := by rw [← byteAt_text s 8 (by omega)]; exact h8
  have i8 : (8 : Int) < (s.size : Int) := by omega
  have by8 : 0 ≤ y ∧ y ≤ 255 := by rw [← hb8]; exact byte_le _
  have d8 : (y == 69) = true := by simpa using h0
  have hb17 : ((s[17]'(by omega)).toNat : Int) = 6 := by rw [← byteAt_text s 17 (by omega)]; exact h17
  have i17 : (17 : Int) < (s.size : Int) := by omega
  have hw6 : IntKind.i64.wrap 6 = 6 := rfl
  clear hv h8 h17 ha hc h0
  obtain ⟨c2, w2, hr2, ho2, hb2, -, -⟩ := conv_bytes ((w.alloc (.cells #[.string f, .string t, .int .i64 1, .int .i64 l, .string s] 24)).alloc (.cells #[.int .i64 0, .string ⟨#[]⟩, .string ⟨#[]⟩, .int .i64 0, .int .i64 0] 27)) ((w.alloc (.cells #[.string f, .string t, .int .i64 1, .int .i64 l, .string s] 24)).alloc (.cells #[.int .i64 0, .string ⟨#[]⟩, .string ⟨#[]⟩, .int .i64 0, .int .i64 0] 27)).heap.size s 9 Tryd.underlying9 (Nat.le_refl _) (by omega) (w.heap.size + 1 + 1) (by simp) s.size rfl
  have HQ2 := Lib.hid ((QW.new w f t 1 l s).next hb2)
  have HP2 := Lib.hid (ho2.part (bts_byt s))
  clear ho2 hb2
  go_enter Tryd.func7, Tryd.ntmps7
  go_wp2_with fail
  refine (rsum_any (some ⟨w.heap.size + 1 + 1, 0, none⟩) s.size c2 _ w2 HP2.out (by omega)).mono ?_
  rintro e w3 ⟨rfl, rfl⟩
  rw [HV.out]
  obtain ⟨z0, z1, z2, z3, z4⟩ := HQ2.out.2.1
  have zf : ∀ o, w2.frozen? ⟨w.heap.size + 1, o, none⟩ = false := HQ2.out.2.2.1
  have n2 : w.heap.size + 1 < w2.heap.size := World.block_lt_of_cell? _ _ z0
  go_wp2_with fail
  refine wp_region_held_drew (S := fun W => True) (by kernel_rfl) trivial (fun hHeld => ?_)
  refine wpAnyH_take (i := 0) (oi := ({ dst := some 108, op := Go.Op.move (Go.Operand.tmp 4), type := 9, pos := _, after := #[], guard := none } : Oper)) (v := ?_) rfl (by kernel_rfl) (by kernel_rfl) (by kernel_rfl) (fun _ _ _ h => h) (Or.inl ⟨by rfl, ?_⟩) (by assumption) ?_
  rotate_left
  · intro W' hSw
    try dsimp only at hSw
    go_simp
    try with_reducible rfl
  try simp only [Act.put, List.setIfInBounds_toArray, List.set_cons_zero, List.set_cons_succ]
  refine wpAnyH_take (i := 1) (oi := ({ dst := some 109, op := Go.Op.index 9 (Go.Operand.tmp 108) (Go.Operand.const (Go.Value.int Go.IntKind.i64 17)), type := 5, pos := _, after := #[{ on := 0, ground := Go.Ground.data }], guard := none } : Oper)) (v := ?_) rfl (by kernel_rfl) (by kernel_rfl) (by kernel_rfl) (fun _ _ _ h => h) (Or.inl ⟨by rfl, ?_⟩) (by assumption) ?_
  rotate_left
  · intro W' hSw
    try dsimp only at hSw
    go_simp
    try with_reducible rfl
  try simp only [Act.put, List.setIfInBounds_toArray, List.set_cons_zero, List.set_cons_succ]
  refine wpAnyH_take (i := 2) (oi := ({ dst := some 110, op := Go.Op.convert 5 3 (Go.Operand.tmp 109), type := 3, pos := _, after := #[{ on := 1, ground := Go.Ground.data }], guard := none } : Oper)) (v := ?_) rfl (by kernel_rfl) (by kernel_rfl) (by kernel_rfl) (fun _ _ _ h => h) (Or.inl ⟨by rfl, ?_⟩) (by assumption) ?_
  rotate_left
  · intro W' hSw
    try dsimp only at hSw
    go_simp
    try with_reducible rfl
  try simp only [Act.put, List.setIfInBounds_toArray, List.set_cons_zero, List.set_cons_succ]
  refine wpAnyH_take (i := 3) (oi := ({ dst := some 111, op := Go.Op.move (Go.Operand.tmp 4), type := 9, pos := _, after := #[], guard := none } : Oper)) (v := ?_) rfl (by kernel_rfl) (by kernel_rfl) (by kernel_rfl) (fun _ _ _ h => h) (Or.inl ⟨by rfl, ?_⟩) (by assumption) ?_
  rotate_left
  · intro W' hSw
    try dsimp only at hSw
    go_simp
    try with_reducible rfl
  try simp only [Act.put, List.setIfInBounds_toArray, List.set_cons_zero, List.set_cons_succ]
  refine wpAnyH_take (i := 4) (oi := ({ dst := some 112, op := Go.Op.slice 9 (Go.Operand.tmp 111) (some (Go.Operand.const (Go.Value.int Go.IntKind.i64 20))) (some (Go.Operand.const (Go.Value.int Go.IntKind.i64 24))) none, type := 9, pos := _, after := #[{ on := 3, ground := Go.Ground.data }], guard := none } : Oper)) (v := ?_) rfl (by kernel_rfl) (by kernel_rfl) (by kernel_rfl) (fun _ _ _ h => h) (Or.inl ⟨by rfl, ?_⟩) (by assumption) ?_
  rotate_left
  · intro W' hSw
    try dsimp only at hSw
    go_simp
    try with_reducible rfl
  try simp only [Act.put, List.setIfInBounds_toArray, List.set_cons_zero, List.set_cons_succ]
  refine wpAnyH_take (i := 5) (oi := ({ dst := some 113, op := Go.Op.move (Go.Operand.tmp 4), type := 9, pos := _, after := #[], guard := none } : Oper)) (v := ?_) rfl (by kernel_rfl) (by kernel_rfl) (by kernel_rfl) (fun _ _ _ h => h) (Or.inl ⟨by rfl, ?_⟩) (by assumption) ?_
  rotate_left
  · intro W' hSw
    try dsimp only at hSw
    go_simp
    try with_reducible rfl
  try simp only [Act.put, List.setIfInBounds_toArray, List.set_cons_zero, List.set_cons_succ]
  refine wpAnyH_take (i := 6) (oi := ({ dst := some 114, op := Go.Op.slice 9 (Go.Operand.tmp 113) (some (Go.Operand.const (Go.Value.int Go.IntKind.i64 24))) (some (Go.Operand.const (Go.Value.int Go.IntKind.i64 28))) none, type := 9, pos := _, after := #[{ on := 5, ground := Go.Ground.data }], guard := none } : Oper)) (v := ?_) rfl (by kernel_rfl) (by kernel_rfl) (by kernel_rfl) (fun _ _ _ h => h) (Or.inl ⟨by rfl, ?_⟩) (by assumption) ?_
  rotate_left
  · intro W' hSw
    try dsimp only at hSw
    go_simp
    try with_reducible rfl
  try simp only [Act.put, List.setIfInBounds_toArray, List.set_cons_zero, List.set_cons_succ]
  refine wpAnyH_take (i := 7) (oi := ({ dst := some 115, op := Go.Op.move (Go.Operand.tmp 4), type := 9, pos := _, after := #[], guard := none } : Oper)) (v := ?_) rfl (by kernel_rfl) (by kernel_rfl) (by kernel_rfl) (fun _ _ _ h => h) (Or.inl ⟨by rfl, ?_⟩) (by assumption) ?_
  rotate_left
  · intro W' hSw
    try dsimp only at hSw
    go_simp
    try with_reducible rfl
  try simp only [Act.put, List.setIfInBounds_toArray, List.set_cons_zero, List.set_cons_succ]
  refine wpAnyH_take (i := 8) (oi := ({ dst := some 116, op := Go.Op.slice 9 (Go.Operand.tmp 115) (some (Go.Operand.const (Go.Value.int Go.IntKind.i64 28))) (some (Go.Operand.const (Go.Value.int Go.IntKind.i64 30))) none, type := 9, pos := _, after := #[{ on := 7, ground := Go.Ground.data }], guard := none } : Oper)) (v := ?_) rfl (by kernel_rfl) (by kernel_rfl) (by kernel_rfl) (fun _ _ _ h => h) (Or.inl ⟨by rfl, ?_⟩) (by assumption) ?_
  rotate_left
  · intro W' hSw
    try dsimp only at hSw
    go_simp
    try with_reducible rfl
  try simp only [Act.put, List.setIfInBounds_toArray, List.set_cons_zero, List.set_cons_succ]
  refine wpAnyH_take (i := 10) (oi := ({ dst := some 118, op := Go.Op.move (Go.Operand.tmp 4), type := 9, pos := _, after := #[], guard := none } : Oper)) (v := ?_) rfl (by kernel_rfl) (by kernel_rfl) (by kernel_rfl) (fun _ _ _ h => h) (Or.inl ⟨by rfl, ?_⟩) (by assumption) ?_
  rotate_left
  · intro W' hSw
    try dsimp only at hSw
    go_simp
    try with_reducible rfl
  try simp only [Act.put, List.setIfInBounds_toArray, List.set_cons_zero, List.set_cons_succ]
  refine wpAnyH_take (i := 11) (oi := ({ dst := some 119, op := Go.Op.slice 9 (Go.Operand.tmp 118) (some (Go.Operand.const (Go.Value.int Go.IntKind.i64 30))) (some (Go.Operand.const (Go.Value.int Go.IntKind.i64 32))) none, type := 9, pos := _, after := #[{ on := 10, ground := Go.Ground.data }], guard := none } : Oper)) (v := ?_) rfl (by kernel_rfl) (by kernel_rfl) (by kernel_rfl) (fun _ _ _ h => h) (Or.inl ⟨by rfl, ?_⟩) (by assumption) ?_
  rotate_left
  · intro W' hSw
    try dsimp only at hSw
    go_simp
    try with_reducible rfl
  try simp only [Act.put, List.setIfInBounds_toArray, List.set_cons_zero, List.set_cons_succ]
  refine wpAnyH_ready (rs := [9]) (by kernel_rfl) (by simp) ?_
  refine AllReadyH.cons (o := ({ dst := some 117, op := Go.Op.call { callee := Go.Callee.value (Go.Operand.func 23), args := #[Go.Operand.tmp 116], argTypes := #[9] }, type := 3, pos := _, after := #[{ on := 8, ground := Go.Ground.data }], guard := none } : Oper)) rfl (fun K hK => ?_) AllReadyH.nil
  go_simp
  refine (number_at za HTa.out).mono ?_
  rintro e w3 ⟨rfl, q3, rfl⟩
  go_wp2_with fail
  refine hK.out _ _ ?_ (fun hHeld => ?_)
  · exact trivial
  clear hK K
  try simp only [Act.put, List.setIfInBounds_toArray, List.set_cons_zero, List.set_cons_succ]
  refine wpAnyH_ready (rs := [12]) (by kernel_rfl) (by simp) ?_
  refine AllReadyH.cons (o := ({ dst := some 120, op := Go.Op.call { callee := Go.Callee.value (Go.Operand.func 23), args := #[Go.Operand.tmp 119], argTypes := #[9] }, type := 3, pos := _, after := #[{ on := 11, ground := Go.Ground.data }, { on := 9, ground := Go.Ground.chain }], guard := none } : Oper)) rfl (fun K hK => ?_) AllReadyH.nil
  go_simp
  refine (number_at zc HTc.out).mono ?_
  rintro e w4 ⟨rfl, q4, rfl⟩
  go_wp2_with fail
  refine hK.out _ _ ?_ (fun hHeld => ?_)
  · exact trivial
  clear hK K
  try simp only [Act.put, List.setIfInBounds_toArray, List.set_cons_zero, List.set_cons_succ]
  refine wpAnyH_take (i := 13) (oi := ({ dst := some 121, op := Go.Op.build 27 #[(0, Go.Operand.tmp 110), (1, Go.Operand.tmp 112), (2, Go.Operand.tmp 114), (3, Go.Operand.tmp 117), (4, Go.Operand.tmp 120)], type := 27, pos := _, after := #[{ on := 2, ground := Go.Ground.data }, { on := 4, ground := Go.Ground.data }, { on := 6, ground := Go.Ground.data }, { on := 9, ground := Go.Ground.data }, { on := 12, ground := Go.Ground.data }], guard := none } : Oper)) (v := ?_) rfl (by kernel_rfl) (by kernel_rfl) (by kernel_rfl) (fun _ _ _ h => h) (Or.inl ⟨by rfl, ?_⟩) (by assumption) ?_
  rotate_left
  · intro W' hSw
    try dsimp only at hSw
    go_simp
    try with_reducible rfl
  try simp only [Act.put, List.setIfInBounds_toArray, List.set_cons_zero, List.set_cons_succ]
  refine wpAnyH_ready (rs := [14]) (by kernel_rfl) (by simp) ?_
  refine AllReadyH.cons (o := ({ dst := none, op := Go.Op.store 27 (Go.Operand.tmp 2) (Go.Operand.tmp 121), type := 0, pos := _, after := #[{ on := 13, ground := Go.Ground.data }, { on := 12, ground := Go.Ground.chain }, { on := 0, ground := Go.Ground.phase }, { on := 1, ground := Go.Ground.phase }, { on := 2, ground := Go.Ground.phase }, { on := 3, ground := Go.Ground.phase }, { on := 4, ground := Go.Ground.phase }, { on := 5, ground := Go.Ground.phase }, { on := 6, ground := Go.Ground.phase }, { on := 7, ground := Go.Ground.phase }, { on := 8, ground := Go.Ground.phase }, { on := 9, ground := Go.Ground.phase }, { on := 10, ground := Go.Ground.phase }, { on := 11, ground := Go.Ground.phase }, { on := 12, ground := Go.Ground.phase }, { on := 13, ground := Go.Ground.phase }], guard := none } : Oper)) rfl (fun K hK => ?_) AllReadyH.nil
  go_simp
  refine hK.out _ _ ?_ (fun hHeld => ?_)
  · exact trivial
  clear hK K
  try simp only [Act.put, List.setIfInBounds_toArray, List.set_cons_zero, List.set_cons_succ]
  refine wpAnyH_take (i := 15) (oi := ({ dst := some 3, op := Go.Op.assign (Go.Operand.const (Go.Value.int Go.IntKind.i64 0)), type := 28, pos := _, after := #[{ on := 14, ground := Go.Ground.chain }, { on := 0, ground := Go.Ground.phase }, { on := 1, ground := Go.Ground.phase }, { on := 2, ground := Go.Ground.phase }, { on := 3, ground := Go.Ground.phase }, { on := 4, ground := Go.Ground.phase }, { on := 5, ground := Go.Ground.phase }, { on := 6, ground := Go.Ground.phase }, { on := 7, ground := Go.Ground.phase }, { on := 8, ground := Go.Ground.phase }, { on := 9, ground := Go.Ground.phase }, { on := 10, ground := Go.Ground.phase }, { on := 11, ground := Go.Ground.phase }, { on := 12, ground := Go.Ground.phase }, { on := 13, ground := Go.Ground.phase }, { on := 14, ground := Go.Ground.phase }], guard := none } : Oper)) (v := ?_) rfl (by kernel_rfl) (by kernel_rfl) (by kernel_rfl) (fun _ _ _ h => h) (Or.inl ⟨by rfl, ?_⟩) (by assumption) ?_
  rotate_left
  · intro W' hSw
    try dsimp only at hSw
    go_simp
    try with_reducible rfl
  try simp only [Act.put, List.setIfInBounds_toArray, List.set_cons_zero, List.set_cons_succ]
  refine wpAnyH_done (by kernel_rfl) ?_ _
  go_wp2
  exact bodyPost_ret (v := .tuple #[.agg #[.int .i64 6, .string g, .string u, .int .i64 a, .int .i64 c], .int .i64 0]) (by simp [results, Tryd.results7, go_sem, *]) rfl ⟨rfl, below5 (below_drewN HQ2.out.2.2.2.1 _) (Nat.le_succ _)⟩

set_option maxHeartbeats 2000000 in
theorem rq4_11_yes17 (f t : ByteArray) (l : Int) (s : ByteArray) (w : World) (hf : f.size = 4) (ht : t.size = 4) (hs : 0 < s.size) (hs2 : s.size ≤ 3000) (hx : byteAt (bts s) 0 = 11) (hv : fd (tot (bts s)) = 65535) (hn : 32 ≤ s.size) (y : Int) (h8 : byteAt (bts s) 8 = y) (h0 : y = 69) (h17 : byteAt (bts s) 17 = 17) (g u sa sc : ByteArray) (a c : Int) (hg : s.extract 20 24 = g) (hu : s.extract 24 28 = u) (hsa : s.extract 28 30 = sa) (hsc : s.extract 30 32 = sc) (ha : twoAt (bts sa) 0 = a) (hc : twoAt (bts sc) 0 = c) : Calls Tryd.prog 7 #[.agg #[.string f, .string t, .int .i64 1, .int .i64 l, .string s]] w fun e w' => e = .returned (.tuple #[.agg #[.int .i64 17, .string g, .string u, .int .i64 a, .int .i64 c], .int .i64 0]) ∧ Below w.heap.size w w' := by
  have hx0 : ((s[0]'hs).toNat : Int) = 11 := by rw [← byteAt_text s 0 hs]; exact hx
  have i0 : (0 : Int) < (s.size : Int) := by omega
  have dz : decide ((s.size : Int) = 0) = false := decide_eq_false (by omega)
  have dz3 : ((s.size : Int) == 0) = false := beq_eq_false_iff_ne.2 (by omega)
  clear hx
  have HV := Lib.hid hv
  have za : sa.size = 2 := by rw [← hsa]; simp; omega
  have zc : sc.size = 2 := by rw [← hsc]; simp; omega
  have HTa := Lib.hid ha
  have HTc := Lib.hid hc
  have dn : decide (32 ≤ (s.size : Int)) = true := decide_eq_true (by omega)
  have dn2 : decide (32 ≤ s.size) = true := decide_eq_true (by omega)
  have k1 : (24 : Int) ≤ (s.size : Int) := by omega
  have k2 : (28 : Int) ≤ (s.size : Int) := by omega
  have k3 : (30 : Int) ≤ (s.size : Int) := by omega
  have k4 : (32 : Int) ≤ (s.size : Int) := by omega
  have hb8 : ((s[8]'(by omega)).toNat : Int) = y := by rw [← byteAt_text s 8 (by omega)]; exact h8
  have i8 : (8 : Int) < (s.size : Int) := by omega
  have by8 : 0 ≤ y ∧ y ≤ 255 := by rw [← hb8]; exact byte_le _
  have d8 : (y == 69) = true := by simpa using h0
  have hb17 : ((s[17]'(by omega)).toNat : Int) = 17 := by rw [← byteAt_text s 17 (by omega)]; exact h17
  have i17 : (17 : Int) < (s.size : Int) := by omega
  have hw6 : IntKind.i64.wrap 17 = 17 := rfl
  clear hv h8 h17 ha hc h0
  obtain ⟨c2, w2, hr2, ho2, hb2, -, -⟩ := conv_bytes ((w.alloc (.cells #[.string f, .string t, .int .i64 1, .int .i64 l, .string s] 24)).alloc (.cells #[.int .i64 0, .string ⟨#[]⟩, .string ⟨#[]⟩, .int .i64 0, .int .i64 0] 27)) ((w.alloc (.cells #[.string f, .string t, .int .i64 1, .int .i64 l, .string s] 24)).alloc (.cells #[.int .i64 0, .string ⟨#[]⟩, .string ⟨#[]⟩, .int .i64 0, .int .i64 0] 27)).heap.size s 9 Tryd.underlying9 (Nat.le_refl _) (by omega) (w.heap.size + 1 + 1) (by simp) s.size rfl
  have HQ2 := Lib.hid ((QW.new w f t 1 l s).next hb2)
  have HP2 := Lib.hid (ho2.part (bts_byt s))
  clear ho2 hb2
  go_enter Tryd.func7, Tryd.ntmps7
  go_wp2_with fail
  refine (rsum_any (some ⟨w.heap.size + 1 + 1, 0, none⟩) s.size c2 _ w2 HP2.out (by omega)).mono ?_
  rintro e w3 ⟨rfl, rfl⟩
  rw [HV.out]
  obtain ⟨z0, z1, z2, z3, z4⟩ := HQ2.out.2.1
  have zf : ∀ o, w2.frozen? ⟨w.heap.size + 1, o, none⟩ = false := HQ2.out.2.2.1
  have n2 : w.heap.size + 1 < w2.heap.size := World.block_lt_of_cell? _ _ z0
  go_wp2_with fail
  refine wp_region_held_drew (S := fun W => True) (by kernel_rfl) trivial (fun hHeld => ?_)
  refine wpAnyH_take (i := 0) (oi := ({ dst := some 108, op := Go.Op.move (Go.Operand.tmp 4), type := 9, pos := _, after := #[], guard := none } : Oper)) (v := ?_) rfl (by kernel_rfl) (by kernel_rfl) (by kernel_rfl) (fun _ _ _ h => h) (Or.inl ⟨by rfl, ?_⟩) (by assumption) ?_
  rotate_left
  · intro W' hSw
    try dsimp only at hSw
    go_simp
    try with_reducible rfl
  try simp only [Act.put, List.setIfInBounds_toArray, List.set_cons_zero, List.set_cons_succ]
  refine wpAnyH_take (i := 1) (oi := ({ dst := some 109, op := Go.Op.index 9 (Go.Operand.tmp 108) (Go.Operand.const (Go.Value.int Go.IntKind.i64 17)), type := 5, pos := _, after := #[{ on := 0, ground := Go.Ground.data }], guard := none } : Oper)) (v := ?_) rfl (by kernel_rfl) (by kernel_rfl) (by kernel_rfl) (fun _ _ _ h => h) (Or.inl ⟨by rfl, ?_⟩) (by assumption) ?_
  rotate_left
  · intro W' hSw
    try dsimp only at hSw
    go_simp
    try with_reducible rfl
  try simp only [Act.put, List.setIfInBounds_toArray, List.set_cons_zero, List.set_cons_succ]
  refine wpAnyH_take (i := 2) (oi := ({ dst := some 110, op := Go.Op.convert 5 3 (Go.Operand.tmp 109), type := 3, pos := _, after := #[{ on := 1, ground := Go.Ground.data }], guard := none } : Oper)) (v := ?_) rfl (by kernel_rfl) (by kernel_rfl) (by kernel_rfl) (fun _ _ _ h => h) (Or.inl ⟨by rfl, ?_⟩) (by assumption) ?_
  rotate_left
  · intro W' hSw
    try dsimp only at hSw
    go_simp
    try with_reducible rfl
  try simp only [Act.put, List.setIfInBounds_toArray, List.set_cons_zero, List.set_cons_succ]
  refine wpAnyH_take (i := 3) (oi := ({ dst := some 111, op := Go.Op.move (Go.Operand.tmp 4), type := 9, pos := _, after := #[], guard := none } : Oper)) (v := ?_) rfl (by kernel_rfl) (by kernel_rfl) (by kernel_rfl) (fun _ _ _ h => h) (Or.inl ⟨by rfl, ?_⟩) (by assumption) ?_
  rotate_left
  · intro W' hSw
    try dsimp only at hSw
    go_simp
    try with_reducible rfl
  try simp only [Act.put, List.setIfInBounds_toArray, List.set_cons_zero, List.set_cons_succ]
  refine wpAnyH_take (i := 4) (oi := ({ dst := some 112, op := Go.Op.slice 9 (Go.Operand.tmp 111) (some (Go.Operand.const (Go.Value.int Go.IntKind.i64 20))) (some (Go.Operand.const (Go.Value.int Go.IntKind.i64 24))) none, type := 9, pos := _, after := #[{ on := 3, ground := Go.Ground.data }], guard := none } : Oper)) (v := ?_) rfl (by kernel_rfl) (by kernel_rfl) (by kernel_rfl) (fun _ _ _ h => h) (Or.inl ⟨by rfl, ?_⟩) (by assumption) ?_
  rotate_left
  · intro W' hSw
    try dsimp only at hSw
    go_simp
    try with_reducible rfl
  try simp only [Act.put, List.setIfInBounds_toArray, List.set_cons_zero, List.set_cons_succ]
  refine wpAnyH_take (i := 5) (oi := ({ dst := some 113, op := Go.Op.move (Go.Operand.tmp 4), type := 9, pos := _, after := #[], guard := none } : Oper)) (v := ?_) rfl (by kernel_rfl) (by kernel_rfl) (by kernel_rfl) (fun _ _ _ h => h) (Or.inl ⟨by rfl, ?_⟩) (by assumption) ?_
  rotate_left
  · intro W' hSw
    try dsimp only at hSw
    go_simp
    try with_reducible rfl
  try simp only [Act.put, List.setIfInBounds_toArray, List.set_cons_zero, List.set_cons_succ]
  refine wpAnyH_take (i := 6) (oi := ({ dst := some 114, op := Go.Op.slice 9 (Go.Operand.tmp 113) (some (Go.Operand.const (Go.Value.int Go.IntKind.i64 24))) (some (Go.Operand.const (Go.Value.int Go.IntKind.i64 28))) none, type := 9, pos := _, after := #[{ on := 5, ground := Go.Ground.data }], guard := none } : Oper)) (v := ?_) rfl (by kernel_rfl) (by kernel_rfl) (by kernel_rfl) (fun _ _ _ h => h) (Or.inl ⟨by rfl, ?_⟩) (by assumption) ?_
  rotate_left
  · intro W' hSw
    try dsimp only at hSw
    go_simp
    try with_reducible rfl
  try simp only [Act.put, List.setIfInBounds_toArray, List.set_cons_zero, List.set_cons_succ]
  refine wpAnyH_take (i := 7) (oi := ({ dst := some 115, op := Go.Op.move (Go.Operand.tmp 4), type := 9, pos := _, after := #[], guard := none } : Oper)) (v := ?_) rfl (by kernel_rfl) (by kernel_rfl) (by kernel_rfl) (fun _ _ _ h => h) (Or.inl ⟨by rfl, ?_⟩) (by assumption) ?_
  rotate_left
  · intro W' hSw
    try dsimp only at hSw
    go_simp
    try with_reducible rfl
  try simp only [Act.put, List.setIfInBounds_toArray, List.set_cons_zero, List.set_cons_succ]
  refine wpAnyH_take (i := 8) (oi := ({ dst := some 116, op := Go.Op.slice 9 (Go.Operand.tmp 115) (some (Go.Operand.const (Go.Value.int Go.IntKind.i64 28))) (some (Go.Operand.const (Go.Value.int Go.IntKind.i64 30))) none, type := 9, pos := _, after := #[{ on := 7, ground := Go.Ground.data }], guard := none } : Oper)) (v := ?_) rfl (by kernel_rfl) (by kernel_rfl) (by kernel_rfl) (fun _ _ _ h => h) (Or.inl ⟨by rfl, ?_⟩) (by assumption) ?_
  rotate_left
  · intro W' hSw
    try dsimp only at hSw
    go_simp
    try with_reducible rfl
  try simp only [Act.put, List.setIfInBounds_toArray, List.set_cons_zero, List.set_cons_succ]
  refine wpAnyH_take (i := 10) (oi := ({ dst := some 118, op := Go.Op.move (Go.Operand.tmp 4), type := 9, pos := _, after := #[], guard := none } : Oper)) (v := ?_) rfl (by kernel_rfl) (by kernel_rfl) (by kernel_rfl) (fun _ _ _ h => h) (Or.inl ⟨by rfl, ?_⟩) (by assumption) ?_
  rotate_left
  · intro W' hSw
    try dsimp only at hSw
    go_simp
    try with_reducible rfl
  try simp only [Act.put, List.setIfInBounds_toArray, List.set_cons_zero, List.set_cons_succ]
  refine wpAnyH_take (i := 11) (oi := ({ dst := some 119, op := Go.Op.slice 9 (Go.Operand.tmp 118) (some (Go.Operand.const (Go.Value.int Go.IntKind.i64 30))) (some (Go.Operand.const (Go.Value.int Go.IntKind.i64 32))) none, type := 9, pos := _, after := #[{ on := 10, ground := Go.Ground.data }], guard := none } : Oper)) (v := ?_) rfl (by kernel_rfl) (by kernel_rfl) (by kernel_rfl) (fun _ _ _ h => h) (Or.inl ⟨by rfl, ?_⟩) (by assumption) ?_
  rotate_left
  · intro W' hSw
    try dsimp only at hSw
    go_simp
    try with_reducible rfl
  try simp only [Act.put, List.setIfInBounds_toArray, List.set_cons_zero, List.set_cons_succ]
  refine wpAnyH_ready (rs := [9]) (by kernel_rfl) (by simp) ?_
  refine AllReadyH.cons (o := ({ dst := some 117, op := Go.Op.call { callee := Go.Callee.value (Go.Operand.func 23), args := #[Go.Operand.tmp 116], argTypes := #[9] }, type := 3, pos := _, after := #[{ on := 8, ground := Go.Ground.data }], guard := none } : Oper)) rfl (fun K hK => ?_) AllReadyH.nil
  go_simp
  refine (number_at za HTa.out).mono ?_
  rintro e w3 ⟨rfl, q3, rfl⟩
  go_wp2_with fail
  refine hK.out _ _ ?_ (fun hHeld => ?_)
  · exact trivial
  clear hK K
  try simp only [Act.put, List.setIfInBounds_toArray, List.set_cons_zero, List.set_cons_succ]
  refine wpAnyH_ready (rs := [12]) (by kernel_rfl) (by simp) ?_
  refine AllReadyH.cons (o := ({ dst := some 120, op := Go.Op.call { callee := Go.Callee.value (Go.Operand.func 23), args := #[Go.Operand.tmp 119], argTypes := #[9] }, type := 3, pos := _, after := #[{ on := 11, ground := Go.Ground.data }, { on := 9, ground := Go.Ground.chain }], guard := none } : Oper)) rfl (fun K hK => ?_) AllReadyH.nil
  go_simp
  refine (number_at zc HTc.out).mono ?_
  rintro e w4 ⟨rfl, q4, rfl⟩
  go_wp2_with fail
  refine hK.out _ _ ?_ (fun hHeld => ?_)
  · exact trivial
  clear hK K
  try simp only [Act.put, List.setIfInBounds_toArray, List.set_cons_zero, List.set_cons_succ]
  refine wpAnyH_take (i := 13) (oi := ({ dst := some 121, op := Go.Op.build 27 #[(0, Go.Operand.tmp 110), (1, Go.Operand.tmp 112), (2, Go.Operand.tmp 114), (3, Go.Operand.tmp 117), (4, Go.Operand.tmp 120)], type := 27, pos := _, after := #[{ on := 2, ground := Go.Ground.data }, { on := 4, ground := Go.Ground.data }, { on := 6, ground := Go.Ground.data }, { on := 9, ground := Go.Ground.data }, { on := 12, ground := Go.Ground.data }], guard := none } : Oper)) (v := ?_) rfl (by kernel_rfl) (by kernel_rfl) (by kernel_rfl) (fun _ _ _ h => h) (Or.inl ⟨by rfl, ?_⟩) (by assumption) ?_
  rotate_left
  · intro W' hSw
    try dsimp only at hSw
    go_simp
    try with_reducible rfl
  try simp only [Act.put, List.setIfInBounds_toArray, List.set_cons_zero, List.set_cons_succ]
  refine wpAnyH_ready (rs := [14]) (by kernel_rfl) (by simp) ?_
  refine AllReadyH.cons (o := ({ dst := none, op := Go.Op.store 27 (Go.Operand.tmp 2) (Go.Operand.tmp 121), type := 0, pos := _, after := #[{ on := 13, ground := Go.Ground.data }, { on := 12, ground := Go.Ground.chain }, { on := 0, ground := Go.Ground.phase }, { on := 1, ground := Go.Ground.phase }, { on := 2, ground := Go.Ground.phase }, { on := 3, ground := Go.Ground.phase }, { on := 4, ground := Go.Ground.phase }, { on := 5, ground := Go.Ground.phase }, { on := 6, ground := Go.Ground.phase }, { on := 7, ground := Go.Ground.phase }, { on := 8, ground := Go.Ground.phase }, { on := 9, ground := Go.Ground.phase }, { on := 10, ground := Go.Ground.phase }, { on := 11, ground := Go.Ground.phase }, { on := 12, ground := Go.Ground.phase }, { on := 13, ground := Go.Ground.phase }], guard := none } : Oper)) rfl (fun K hK => ?_) AllReadyH.nil
  go_simp
  refine hK.out _ _ ?_ (fun hHeld => ?_)
  · exact trivial
  clear hK K
  try simp only [Act.put, List.setIfInBounds_toArray, List.set_cons_zero, List.set_cons_succ]
  refine wpAnyH_take (i := 15) (oi := ({ dst := some 3, op := Go.Op.assign (Go.Operand.const (Go.Value.int Go.IntKind.i64 0)), type := 28, pos := _, after := #[{ on := 14, ground := Go.Ground.chain }, { on := 0, ground := Go.Ground.phase }, { on := 1, ground := Go.Ground.phase }, { on := 2, ground := Go.Ground.phase }, { on := 3, ground := Go.Ground.phase }, { on := 4, ground := Go.Ground.phase }, { on := 5, ground := Go.Ground.phase }, { on := 6, ground := Go.Ground.phase }, { on := 7, ground := Go.Ground.phase }, { on := 8, ground := Go.Ground.phase }, { on := 9, ground := Go.Ground.phase }, { on := 10, ground := Go.Ground.phase }, { on := 11, ground := Go.Ground.phase }, { on := 12, ground := Go.Ground.phase }, { on := 13, ground := Go.Ground.phase }, { on := 14, ground := Go.Ground.phase }], guard := none } : Oper)) (v := ?_) rfl (by kernel_rfl) (by kernel_rfl) (by kernel_rfl) (fun _ _ _ h => h) (Or.inl ⟨by rfl, ?_⟩) (by assumption) ?_
  rotate_left
  · intro W' hSw
    try dsimp only at hSw
    go_simp
    try with_reducible rfl
  try simp only [Act.put, List.setIfInBounds_toArray, List.set_cons_zero, List.set_cons_succ]
  refine wpAnyH_done (by kernel_rfl) ?_ _
  go_wp2
  exact bodyPost_ret (v := .tuple #[.agg #[.int .i64 17, .string g, .string u, .int .i64 a, .int .i64 c], .int .i64 0]) (by simp [results, Tryd.results7, go_sem, *]) rfl ⟨rfl, below5 (below_drewN HQ2.out.2.2.2.1 _) (Nat.le_succ _)⟩

end Go.Proofs.YtomcniakffipfaaDoor
