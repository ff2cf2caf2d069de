/-
  What ports.Quoted does.
-/
import Derived.Test.YtomcniakffipfaaDoorQquote
namespace Go.Proofs.YtomcniakffipfaaDoor
open Go.RowKit
set_option linter.unusedVariables false
set_option maxRecDepth 10000

/-- What stays in memory while ports.Quoted, or the reference's, reads. -/
def QW (w W : World) (f t : ByteArray) (p l : Int) (s : ByteArray) : Prop :=
  Boxed W w.heap.size f t p l s ∧ BoxF W (w.heap.size + 1) ⟨#[]⟩ ⟨#[]⟩ 0 0 0 ∧ Free W (w.heap.size + 1) ∧ Below w.heap.size w W ∧ w.heap.size + 1 + 1 ≤ W.heap.size
theorem QW.step {w W W' : World} {f t : ByteArray} {p l : Int} {s : ByteArray} {B : Nat} (h : QW w W f t p l s) (hb : Below B W W') (hB : w.heap.size + 1 + 1 ≤ B) : QW w W' f t p l s := by
  obtain ⟨h1, h2, h3, h4, h5⟩ := h
  exact ⟨h1.below hb (by omega), h2.below hb (by omega), h3.below hb (by omega), h4.trans (hb.mono (by omega)), Nat.le_trans h5 hb.size⟩
theorem QW.next {w W W' : World} {f t : ByteArray} {p l : Int} {s : ByteArray} (h : QW w W f t p l s) (hb : Below W.heap.size W W') : QW w W' f t p l s := h.step hb h.2.2.2.2
theorem QW.new (w : World) (f t : ByteArray) (p l : Int) (s : ByteArray) : QW w ((w.alloc (.cells #[.string f, .string t, .int .i64 p, .int .i64 l, .string s] 24)).alloc (.cells #[.int .i64 0, .string ⟨#[]⟩, .string ⟨#[]⟩, .int .i64 0, .int .i64 0] 27)) f t p l s :=
  ⟨(Boxed.new w f t p l s).below ((Below.refl (w.heap.size + 1) _).alloc (by simp) _) (by simp), by simp [BoxF, go_sem], fun o => by simp [go_sem], ((Below.refl _ _).alloc (Nat.le_refl _) _).alloc (by simp) _, by simp⟩
theorem QW.glob {w W : World} {f t : ByteArray} {p l : Int} {s : ByteArray} (h : QW w W f t p l s) (hG : Glob w) : Glob W := hG.below h.2.2.2.1 hG.size

set_option maxHeartbeats 1000000 in
theorem quoted_none (f t : ByteArray) (p l : Int) (s : ByteArray) (w : World) (hf : f.size ≤ 140737488351232) (ht : t.size ≤ 140737488351232) (hs : s.size ≤ 3000) (h4 : er4 f t p s = false) (h6 : er6 f t p s = false) : Calls Tryd.prog 6 #[.agg #[.string f, .string t, .int .i64 p, .int .i64 l, .string s]] w fun e w' => e = .returned (.tuple #[.agg #[.int .i64 0, .string ⟨#[]⟩, .string ⟨#[]⟩, .int .i64 0, .int .i64 0], .int .i64 51]) ∧ Below w.heap.size w w' := by
  have HE4 := Lib.hid h4
  have HE6 := Lib.hid h6
  clear h4 h6
  go_enter Tryd.func6, Tryd.ntmps6
  go_wp2_with fail
  refine (isError4_at hf ht (by omega) HE4.out).mono ?_
  rintro e w1 ⟨rfl, hb1⟩
  have HQ1 := Lib.hid ((QW.new w f t p l s).next hb1)
  clear hb1
  obtain ⟨x0, x1, x2, x3, x4⟩ := HQ1.out.1
  have n1 : w.heap.size < w1.heap.size := World.block_lt_of_cell? _ _ x0
  obtain ⟨z0, z1, z2, z3, z4⟩ := HQ1.out.2.1
  have zf : ∀ o, w1.frozen? ⟨w.heap.size + 1, o, none⟩ = false := HQ1.out.2.2.1
  have n2 : w.heap.size + 1 < w1.heap.size := World.block_lt_of_cell? _ _ z0
  go_wp2_with fail
  refine (isError6_at hf ht (by omega) HE6.out).mono ?_
  rintro e w2 ⟨rfl, hb2⟩
  have HQ2 := Lib.hid (HQ1.out.next hb2)
  clear x0 x1 x2 x3 x4 n1 z0 z1 z2 z3 z4 zf n2 hb2
  obtain ⟨x0, x1, x2, x3, x4⟩ := HQ2.out.1
  have n1 : w.heap.size < w2.heap.size := World.block_lt_of_cell? _ _ x0
  obtain ⟨z0, z1, z2, z3, z4⟩ := HQ2.out.2.1
  have zf : ∀ o, w2.frozen? ⟨w.heap.size + 1, o, none⟩ = false := HQ2.out.2.2.1
  have n2 : w.heap.size + 1 < w2.heap.size := World.block_lt_of_cell? _ _ z0
  go_wp2
  exact bodyPost_ret (v := .tuple #[.agg #[.int .i64 0, .string ⟨#[]⟩, .string ⟨#[]⟩, .int .i64 0, .int .i64 0], .int .i64 51]) (by simp [results, Tryd.results6, go_sem, *]) rfl ⟨rfl, below5 HQ2.out.2.2.2.1 (Nat.le_succ _)⟩

set_option maxHeartbeats 1000000 in
theorem quoted_sum4 (f t : ByteArray) (p l : Int) (s : ByteArray) (w : World) (hf : f.size ≤ 140737488351232) (ht : t.size ≤ 140737488351232) (hs : s.size ≤ 3000) (h4 : er4 f t p s = true) (v : Int) (hv : fd (tot (bts s)) = v) (h0 : v ≠ 65535) : Calls Tryd.prog 6 #[.agg #[.string f, .string t, .int .i64 p, .int .i64 l, .string s]] w fun e w' => e = .returned (.tuple #[.agg #[.int .i64 0, .string ⟨#[]⟩, .string ⟨#[]⟩, .int .i64 0, .int .i64 0], .int .i64 52]) ∧ Below w.heap.size w w' := by
  have HE4 := Lib.hid h4
  have HV := Lib.hid hv
  have d0 : (v == 65535) = false := by simpa using h0
  clear h4 hv
  go_enter Tryd.func6, Tryd.ntmps6
  go_wp2_with fail
  refine (isError4_at hf ht (by omega) HE4.out).mono ?_
  rintro e w1 ⟨rfl, hb1⟩
  have HQ1 := Lib.hid ((QW.new w f t p l s).next hb1)
  clear hb1
  obtain ⟨x0, x1, x2, x3, x4⟩ := HQ1.out.1
  have n1 : w.heap.size < w1.heap.size := World.block_lt_of_cell? _ _ x0
  obtain ⟨z0, z1, z2, z3, z4⟩ := HQ1.out.2.1
  have zf : ∀ o, w1.frozen? ⟨w.heap.size + 1, o, none⟩ = false := HQ1.out.2.2.1
  have n2 : w.heap.size + 1 < w1.heap.size := World.block_lt_of_cell? _ _ z0
  obtain ⟨c2, w2, hr2, ho2, hb2, -, -⟩ := conv_bytes w1 w1.heap.size s 9 Tryd.underlying9 (Nat.le_refl _) (by omega) w1.heap.size rfl s.size rfl
  have HQ2 := Lib.hid ((HQ1.out.next hb2).next ((Below.refl _ _).alloc (Nat.le_refl _) (.cells #[.slice (some ⟨w1.heap.size, 0, none⟩) s.size c2] 38)))
  have HP2 := Lib.hid (ho2.part (bts_byt s))
  have nn : w1.heap.size ≤ w2.heap.size := hb2.size
  clear ho2 hb2
  go_wp2_with fail
  refine (good_one (a := some ⟨w1.heap.size, 0, none⟩) (n := s.size) (c := c2) (bs := bts s) (s := v) (by simp [go_sem]) (HP2.out.alloc _) (by omega) HV.out).mono ?_
  rintro e w3 ⟨rfl, hk3⟩
  have HQ3 : Hid (QW w w3 f t p l s) := Lib.hid (by obtain ⟨k3, rfl⟩ := hk3; exact HQ2.out.next (below_drewN (Below.refl _ _) k3))
  clear hk3 x0 x1 x2 x3 x4 n1 z0 z1 z2 z3 z4 zf n2
  obtain ⟨x0, x1, x2, x3, x4⟩ := HQ3.out.1
  have n1 : w.heap.size < w3.heap.size := World.block_lt_of_cell? _ _ x0
  obtain ⟨z0, z1, z2, z3, z4⟩ := HQ3.out.2.1
  have zf : ∀ o, w3.frozen? ⟨w.heap.size + 1, o, none⟩ = false := HQ3.out.2.2.1
  have n2 : w.heap.size + 1 < w3.heap.size := World.block_lt_of_cell? _ _ z0
  go_wp2
  exact bodyPost_ret (v := .tuple #[.agg #[.int .i64 0, .string ⟨#[]⟩, .string ⟨#[]⟩, .int .i64 0, .int .i64 0], .int .i64 52]) (by simp [results, Tryd.results6, go_sem, *]) rfl ⟨rfl, below5 HQ3.out.2.2.2.1 (Nat.le_succ _)⟩

set_option maxHeartbeats 1000000 in
theorem quoted_pass4 (f t : ByteArray) (p l : Int) (s : ByteArray) (w : World) (hf : f.size ≤ 140737488351232) (ht : t.size ≤ 140737488351232) (hs : s.size ≤ 3000) (hG : Glob w) (h4 : er4 f t p s = true) (hv : fd (tot (bts s)) = 65535) (g u : ByteArray) (q a c r : Int)
    (H : ∀ w : World, Glob w → Calls Tryd.prog 17 #[.string s] w fun e w' => e = .returned (.tuple #[.agg #[.int .i64 q, .string g, .string u, .int .i64 a, .int .i64 c], .int .i64 r]) ∧ Below w.heap.size w w') : Calls Tryd.prog 6 #[.agg #[.string f, .string t, .int .i64 p, .int .i64 l, .string s]] w fun e w' => e = .returned (.tuple #[.agg #[.int .i64 q, .string g, .string u, .int .i64 a, .int .i64 c], .int .i64 r]) ∧ Below w.heap.size w w' := by
  have HE4 := Lib.hid h4
  have HV := Lib.hid hv
  have HG := Lib.hid hG
  have HH := Lib.hid H
  clear h4 hv hG H
  go_enter Tryd.func6, Tryd.ntmps6
  go_wp2_with fail
  refine (isError4_at hf ht (by omega) HE4.out).mono ?_
  rintro e w1 ⟨rfl, hb1⟩
  have HQ1 := Lib.hid ((QW.new w f t p l s).next hb1)
  clear hb1
  obtain ⟨x0, x1, x2, x3, x4⟩ := HQ1.out.1
  have n1 : w.heap.size < w1.heap.size := World.block_lt_of_cell? _ _ x0
  obtain ⟨z0, z1, z2, z3, z4⟩ := HQ1.out.2.1
  have zf : ∀ o, w1.frozen? ⟨w.heap.size + 1, o, none⟩ = false := HQ1.out.2.2.1
  have n2 : w.heap.size + 1 < w1.heap.size := World.block_lt_of_cell? _ _ z0
  obtain ⟨c2, w2, hr2, ho2, hb2, -, -⟩ := conv_bytes w1 w1.heap.size s 9 Tryd.underlying9 (Nat.le_refl _) (by omega) w1.heap.size rfl s.size rfl
  have HQ2 := Lib.hid ((HQ1.out.next hb2).next ((Below.refl _ _).alloc (Nat.le_refl _) (.cells #[.slice (some ⟨w1.heap.size, 0, none⟩) s.size c2] 38)))
  have HP2 := Lib.hid (ho2.part (bts_byt s))
  have nn : w1.heap.size ≤ w2.heap.size := hb2.size
  clear ho2 hb2
  go_wp2_with fail
  refine (good_one (a := some ⟨w1.heap.size, 0, none⟩) (n := s.size) (c := c2) (bs := bts s) (s := 65535) (by simp [go_sem]) (HP2.out.alloc _) (by omega) HV.out).mono ?_
  rintro e w3 ⟨rfl, hk3⟩
  have HQ3 : Hid (QW w w3 f t p l s) := Lib.hid (by obtain ⟨k3, rfl⟩ := hk3; exact HQ2.out.next (below_drewN (Below.refl _ _) k3))
  clear hk3 x0 x1 x2 x3 x4 n1 z0 z1 z2 z3 z4 zf n2
  obtain ⟨x0, x1, x2, x3, x4⟩ := HQ3.out.1
  have n1 : w.heap.size < w3.heap.size := World.block_lt_of_cell? _ _ x0
  obtain ⟨z0, z1, z2, z3, z4⟩ := HQ3.out.2.1
  have zf : ∀ o, w3.frozen? ⟨w.heap.size + 1, o, none⟩ = false := HQ3.out.2.2.1
  have n2 : w.heap.size + 1 < w3.heap.size := World.block_lt_of_cell? _ _ z0
  go_wp2_with fail
  refine (HH.out _ (HQ3.out.glob HG.out)).mono ?_
  rintro e w4 ⟨rfl, hb4⟩
  have HQ4 := Lib.hid (HQ3.out.next hb4)
  clear x0 x1 x2 x3 x4 n1 z0 z1 z2 z3 z4 zf n2 hb4
  obtain ⟨x0, x1, x2, x3, x4⟩ := HQ4.out.1
  have n1 : w.heap.size < w4.heap.size := World.block_lt_of_cell? _ _ x0
  obtain ⟨z0, z1, z2, z3, z4⟩ := HQ4.out.2.1
  have zf : ∀ o, w4.frozen? ⟨w.heap.size + 1, o, none⟩ = false := HQ4.out.2.2.1
  have n2 : w.heap.size + 1 < w4.heap.size := World.block_lt_of_cell? _ _ z0
  go_wp2
  exact bodyPost_ret (v := .tuple #[.agg #[.int .i64 q, .string g, .string u, .int .i64 a, .int .i64 c], .int .i64 r]) (by simp [results, Tryd.results6, go_sem, *]) rfl ⟨rfl, below5 HQ4.out.2.2.2.1 (Nat.le_succ _)⟩

set_option maxHeartbeats 1000000 in
theorem quoted_sum6 (f t : ByteArray) (p l : Int) (s : ByteArray) (w : World) (hf : f.size ≤ 140737488351232) (ht : t.size ≤ 140737488351232) (hs : s.size ≤ 3000) (hp : -9223372036854775808 ≤ p ∧ p ≤ 9223372036854775807) (h4 : er4 f t p s = false) (h6 : er6 f t p s = true) (v : Int) (hv : fd (tot (psx f t p (s.size : Int) ++ bts s)) = v) (h0 : v ≠ 65535) : Calls Tryd.prog 6 #[.agg #[.string f, .string t, .int .i64 p, .int .i64 l, .string s]] w fun e w' => e = .returned (.tuple #[.agg #[.int .i64 0, .string ⟨#[]⟩, .string ⟨#[]⟩, .int .i64 0, .int .i64 0], .int .i64 52]) ∧ Below w.heap.size w w' := by
  have HE4 := Lib.hid h4
  have HE6 := Lib.hid h6
  have HV := Lib.hid hv
  have d0 : (v == 65535) = false := by simpa using h0
  clear h4 h6 hv
  go_enter Tryd.func6, Tryd.ntmps6
  go_wp2_with fail
  refine (isError4_at hf ht (by omega) HE4.out).mono ?_
  rintro e w1 ⟨rfl, hb1⟩
  have HQ1 := Lib.hid ((QW.new w f t p l s).next hb1)
  clear hb1
  obtain ⟨x0, x1, x2, x3, x4⟩ := HQ1.out.1
  have n1 : w.heap.size < w1.heap.size := World.block_lt_of_cell? _ _ x0
  obtain ⟨z0, z1, z2, z3, z4⟩ := HQ1.out.2.1
  have zf : ∀ o, w1.frozen? ⟨w.heap.size + 1, o, none⟩ = false := HQ1.out.2.2.1
  have n2 : w.heap.size + 1 < w1.heap.size := World.block_lt_of_cell? _ _ z0
  go_wp2_with fail
  refine (isError6_at hf ht (by omega) HE6.out).mono ?_
  rintro e w2 ⟨rfl, hb2⟩
  have HQ2 := Lib.hid (HQ1.out.next hb2)
  clear x0 x1 x2 x3 x4 n1 z0 z1 z2 z3 z4 zf n2 hb2
  obtain ⟨x0, x1, x2, x3, x4⟩ := HQ2.out.1
  have n1 : w.heap.size < w2.heap.size := World.block_lt_of_cell? _ _ x0
  obtain ⟨z0, z1, z2, z3, z4⟩ := HQ2.out.2.1
  have zf : ∀ o, w2.frozen? ⟨w.heap.size + 1, o, none⟩ = false := HQ2.out.2.2.1
  have n2 : w.heap.size + 1 < w2.heap.size := World.block_lt_of_cell? _ _ z0
  go_wp2_with fail
  refine (good_pk f t p l s v _ hf ht hs hp HV.out).mono ?_
  rintro e w3 ⟨rfl, hb3⟩
  have HQ3 := Lib.hid (HQ2.out.next hb3.out)
  clear x0 x1 x2 x3 x4 n1 z0 z1 z2 z3 z4 zf n2 hb3
  obtain ⟨x0, x1, x2, x3, x4⟩ := HQ3.out.1
  have n1 : w.heap.size < w3.heap.size := World.block_lt_of_cell? _ _ x0
  obtain ⟨z0, z1, z2, z3, z4⟩ := HQ3.out.2.1
  have zf : ∀ o, w3.frozen? ⟨w.heap.size + 1, o, none⟩ = false := HQ3.out.2.2.1
  have n2 : w.heap.size + 1 < w3.heap.size := World.block_lt_of_cell? _ _ z0
  go_wp2
  exact bodyPost_ret (v := .tuple #[.agg #[.int .i64 0, .string ⟨#[]⟩, .string ⟨#[]⟩, .int .i64 0, .int .i64 0], .int .i64 52]) (by simp [results, Tryd.results6, go_sem, *]) rfl ⟨rfl, below5 HQ3.out.2.2.2.1 (Nat.le_succ _)⟩

set_option maxHeartbeats 1000000 in
theorem quoted_pass6 (f t : ByteArray) (p l : Int) (s : ByteArray) (w : World) (hf : f.size ≤ 140737488351232) (ht : t.size ≤ 140737488351232) (hs : s.size ≤ 3000) (hp : -9223372036854775808 ≤ p ∧ p ≤ 9223372036854775807) (hG : Glob w) (h4 : er4 f t p s = false) (h6 : er6 f t p s = true) (hv : fd (tot (psx f t p (s.size : Int) ++ bts s)) = 65535) (g u : ByteArray) (q a c r : Int)
    (H : ∀ w : World, Glob w → Calls Tryd.prog 20 #[.string s] w fun e w' => e = .returned (.tuple #[.agg #[.int .i64 q, .string g, .string u, .int .i64 a, .int .i64 c], .int .i64 r]) ∧ Below w.heap.size w w') : Calls Tryd.prog 6 #[.agg #[.string f, .string t, .int .i64 p, .int .i64 l, .string s]] w fun e w' => e = .returned (.tuple #[.agg #[.int .i64 q, .string g, .string u, .int .i64 a, .int .i64 c], .int .i64 r]) ∧ Below w.heap.size w w' := by
  have HE4 := Lib.hid h4
  have HE6 := Lib.hid h6
  have HV := Lib.hid hv
  have HG := Lib.hid hG
  have HH := Lib.hid H
  clear h4 h6 hv hG H
  go_enter Tryd.func6, Tryd.ntmps6
  go_wp2_with fail
  refine (isError4_at hf ht (by omega) HE4.out).mono ?_
  rintro e w1 ⟨rfl, hb1⟩
  have HQ1 := Lib.hid ((QW.new w f t p l s).next hb1)
  clear hb1
  obtain ⟨x0, x1, x2, x3, x4⟩ := HQ1.out.1
  have n1 : w.heap.size < w1.heap.size := World.block_lt_of_cell? _ _ x0
  obtain ⟨z0, z1, z2, z3, z4⟩ := HQ1.out.2.1
  have zf : ∀ o, w1.frozen? ⟨w.heap.size + 1, o, none⟩ = false := HQ1.out.2.2.1
  have n2 : w.heap.size + 1 < w1.heap.size := World.block_lt_of_cell? _ _ z0
  go_wp2_with fail
  refine (isError6_at hf ht (by omega) HE6.out).mono ?_
  rintro e w2 ⟨rfl, hb2⟩
  have HQ2 := Lib.hid (HQ1.out.next hb2)
  clear x0 x1 x2 x3 x4 n1 z0 z1 z2 z3 z4 zf n2 hb2
  obtain ⟨x0, x1, x2, x3, x4⟩ := HQ2.out.1
  have n1 : w.heap.size < w2.heap.size := World.block_lt_of_cell? _ _ x0
  obtain ⟨z0, z1, z2, z3, z4⟩ := HQ2.out.2.1
  have zf : ∀ o, w2.frozen? ⟨w.heap.size + 1, o, none⟩ = false := HQ2.out.2.2.1
  have n2 : w.heap.size + 1 < w2.heap.size := World.block_lt_of_cell? _ _ z0
  go_wp2_with fail
  refine (good_pk f t p l s 65535 _ hf ht hs hp HV.out).mono ?_
  rintro e w3 ⟨rfl, hb3⟩
  have HQ3 := Lib.hid (HQ2.out.next hb3.out)
  clear x0 x1 x2 x3 x4 n1 z0 z1 z2 z3 z4 zf n2 hb3
  obtain ⟨x0, x1, x2, x3, x4⟩ := HQ3.out.1
  have n1 : w.heap.size < w3.heap.size := World.block_lt_of_cell? _ _ x0
  obtain ⟨z0, z1, z2, z3, z4⟩ := HQ3.out.2.1
  have zf : ∀ o, w3.frozen? ⟨w.heap.size + 1, o, none⟩ = false := HQ3.out.2.2.1
  have n2 : w.heap.size + 1 < w3.heap.size := World.block_lt_of_cell? _ _ z0
  go_wp2_with fail
  refine (HH.out _ (HQ3.out.glob HG.out)).mono ?_
  rintro e w4 ⟨rfl, hb4⟩
  have HQ4 := Lib.hid (HQ3.out.next hb4)
  clear x0 x1 x2 x3 x4 n1 z0 z1 z2 z3 z4 zf n2 hb4
  obtain ⟨x0, x1, x2, x3, x4⟩ := HQ4.out.1
  have n1 : w.heap.size < w4.heap.size := World.block_lt_of_cell? _ _ x0
  obtain ⟨z0, z1, z2, z3, z4⟩ := HQ4.out.2.1
  have zf : ∀ o, w4.frozen? ⟨w.heap.size + 1, o, none⟩ = false := HQ4.out.2.2.1
  have n2 : w.heap.size + 1 < w4.heap.size := World.block_lt_of_cell? _ _ z0
  go_wp2
  exact bodyPost_ret (v := .tuple #[.agg #[.int .i64 q, .string g, .string u, .int .i64 a, .int .i64 c], .int .i64 r]) (by simp [results, Tryd.results6, go_sem, *]) rfl ⟨rfl, below5 HQ4.out.2.2.2.1 (Nat.le_succ _)⟩


end Go.Proofs.YtomcniakffipfaaDoor
