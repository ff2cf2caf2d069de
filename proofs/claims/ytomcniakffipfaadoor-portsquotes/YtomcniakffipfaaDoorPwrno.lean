/-
  What ports.Write does.
-/
import Derived.Test.YtomcniakffipfaaDoorPudp
namespace Go.Proofs.YtomcniakffipfaaDoor
open Go.RowKit
set_option linter.unusedVariables false
set_option maxRecDepth 10000

theorem below5 {B : Nat} {w W : World} (h : Below B w W) {N : Nat} (hN : B ≤ N) {v0 v1 v2 v3 v4 : Value} :
    Below B w (((((W.setCell ⟨N, 0, none⟩ v0).setCell ⟨N, 1, none⟩ v1).setCell ⟨N, 2, none⟩ v2).setCell ⟨N, 3, none⟩ v3).setCell ⟨N, 4, none⟩ v4) :=
  ((((h.setCell hN _).setCell hN _).setCell hN _).setCell hN _).setCell hN _
/-- No cell of a block is frozen. -/
def Free (W : World) (N : Nat) : Prop := ∀ o, W.frozen? ⟨N, o, none⟩ = false
theorem Free.below {W W' : World} {N B : Nat} (h : Free W N) (hb : Below B W W') (hN : N < B) : Free W' N := fun o => (hb.frozen (p := ⟨N, o, none⟩) hN).trans (h o)
theorem Free.new (w : World) (c : Array Value) (t : TypeId) : Free (w.alloc (.cells c t)) w.heap.size := fun o => by simp [go_sem]
theorem Boxed.body {W : World} {N : Nat} {f t : ByteArray} {p l : Int} {s : ByteArray} (h : Boxed W N f t p l s) (s' : ByteArray) : Boxed (W.setCell ⟨N, 4, none⟩ (.string s')) N f t p l s' := by
  obtain ⟨h0, h1, h2, h3, h4⟩ := h
  have hN := World.block_lt_of_cell? _ _ h0
  refine ⟨?_, ?_, ?_, ?_, ?_⟩ <;> simp [go_sem, *]

/-- All of a head but its Proto is right. -/
def okH (p a b l k : Int) : Bool := portB a && (portB b && (flagB p l && decide (k = 0)))

section
variable (f t : ByteArray) (p0 l0 : Int) (s0 : ByteArray) (p a b l k : Int) (s : ByteArray) (w : World)

set_option maxHeartbeats 400000 in
theorem write_no1 (h1 : portsB p = false) : Calls Tryd.prog 8 #[.agg #[.string f, .string t, .int .i64 p0, .int .i64 l0, .string s0], .agg #[.int .i64 p, .int .i64 a, .int .i64 b, .int .i64 l, .int .i64 k], .string s] w fun e w' => e = .returned (.tuple #[.agg #[.string ⟨#[]⟩, .string ⟨#[]⟩, .int .i64 0, .int .i64 0, .string ⟨#[]⟩], .int .i64 51]) ∧ Below w.heap.size w w' := by
  have H1 := Lib.hid h1
  clear h1
  go_enter Tryd.func8, Tryd.ntmps8
  go_wp2_with (go_at_call 24; refine (hasPorts_at H1.out).mono ?_; rintro e w' ⟨rfl, rfl⟩)
  exact bodyPost_ret (v := .tuple #[.agg #[.string ⟨#[]⟩, .string ⟨#[]⟩, .int .i64 0, .int .i64 0, .string ⟨#[]⟩], .int .i64 51]) (by simp [results, Tryd.results8, go_sem]) rfl ⟨rfl, (((Below.refl _ _).alloc (Nat.le_refl _) _).alloc (by simp) _).alloc (by simp; omega) _⟩

set_option maxHeartbeats 400000 in
theorem write_no2 (h1 : portsB p = true) (h2 : portB a = false) : Calls Tryd.prog 8 #[.agg #[.string f, .string t, .int .i64 p0, .int .i64 l0, .string s0], .agg #[.int .i64 p, .int .i64 a, .int .i64 b, .int .i64 l, .int .i64 k], .string s] w fun e w' => e = .returned (.tuple #[.agg #[.string ⟨#[]⟩, .string ⟨#[]⟩, .int .i64 0, .int .i64 0, .string ⟨#[]⟩], .int .i64 1]) ∧ Below w.heap.size w w' := by
  have H1 := Lib.hid h1
  have H2 := Lib.hid h2
  clear h1 h2
  go_enter Tryd.func8, Tryd.ntmps8
  go_wp2_with (first | (go_at_call 24; refine (hasPorts_at H1.out).mono ?_; rintro e w' ⟨rfl, rfl⟩) | (go_at_call 25; refine (isPort_at H2.out).mono ?_; rintro e w' ⟨rfl, rfl⟩))
  exact bodyPost_ret (v := .tuple #[.agg #[.string ⟨#[]⟩, .string ⟨#[]⟩, .int .i64 0, .int .i64 0, .string ⟨#[]⟩], .int .i64 1]) (by simp [results, Tryd.results8, go_sem]) rfl ⟨rfl, (((Below.refl _ _).alloc (Nat.le_refl _) _).alloc (by simp) _).alloc (by simp; omega) _⟩

set_option maxHeartbeats 400000 in
theorem write_no3 (h1 : portsB p = true) (h2 : portB a = true) (h3 : portB b = false) : Calls Tryd.prog 8 #[.agg #[.string f, .string t, .int .i64 p0, .int .i64 l0, .string s0], .agg #[.int .i64 p, .int .i64 a, .int .i64 b, .int .i64 l, .int .i64 k], .string s] w fun e w' => e = .returned (.tuple #[.agg #[.string ⟨#[]⟩, .string ⟨#[]⟩, .int .i64 0, .int .i64 0, .string ⟨#[]⟩], .int .i64 1]) ∧ Below w.heap.size w w' := by
  have H1 := Lib.hid h1
  have H2 := Lib.hid h2
  have H3 := Lib.hid h3
  clear h1 h2 h3
  go_enter Tryd.func8, Tryd.ntmps8
  go_wp2_with (go_at_call 24; refine (hasPorts_at H1.out).mono ?_; rintro e w' ⟨rfl, rfl⟩)
  refine (isPort_at H2.out).mono ?_
  rintro e w' ⟨rfl, rfl⟩
  go_wp2_with fail
  refine (isPort_at H3.out).mono ?_
  rintro e w' ⟨rfl, rfl⟩
  go_wp2
  exact bodyPost_ret (v := .tuple #[.agg #[.string ⟨#[]⟩, .string ⟨#[]⟩, .int .i64 0, .int .i64 0, .string ⟨#[]⟩], .int .i64 1]) (by simp [results, Tryd.results8, go_sem]) rfl ⟨rfl, (((Below.refl _ _).alloc (Nat.le_refl _) _).alloc (by simp) _).alloc (by simp; omega) _⟩

set_option maxHeartbeats 1000000 in
theorem write_no4 (h1 : portsB p = true) (h2 : portB a = true) (h3 : portB b = true) (h4 : flagB p l = false) : Calls Tryd.prog 8 #[.agg #[.string f, .string t, .int .i64 p0, .int .i64 l0, .string s0], .agg #[.int .i64 p, .int .i64 a, .int .i64 b, .int .i64 l, .int .i64 k], .string s] w fun e w' => e = .returned (.tuple #[.agg #[.string ⟨#[]⟩, .string ⟨#[]⟩, .int .i64 0, .int .i64 0, .string ⟨#[]⟩], .int .i64 1]) ∧ Below w.heap.size w w' := by
  have H1 := Lib.hid h1
  have H2 := Lib.hid h2
  have H3 := Lib.hid h3
  have H4 := Lib.hid h4
  clear h1 h2 h3 h4
  have HX0 := Lib.hid (((Boxed.new w f t p0 l0 s0).below (((Below.refl (w.heap.size + 1) _).alloc (by simp) (.cells #[.int .i64 p, .int .i64 a, .int .i64 b, .int .i64 l, .int .i64 k] 36)).alloc (by simp) (.cells #[.string ⟨#[]⟩, .string ⟨#[]⟩, .int .i64 0, .int .i64 0, .string ⟨#[]⟩] 24)) (by simp)))
  have HY0 : Hid (BoxH (((w.alloc (.cells #[.string f, .string t, .int .i64 p0, .int .i64 l0, .string s0] 24)).alloc (.cells #[.int .i64 p, .int .i64 a, .int .i64 b, .int .i64 l, .int .i64 k] 36)).alloc (.cells #[.string ⟨#[]⟩, .string ⟨#[]⟩, .int .i64 0, .int .i64 0, .string ⟨#[]⟩] 24)) (w.heap.size + 1) p a b l k) := Lib.hid (by simp [BoxH, go_sem])
  have HZ0 : Hid (Boxed (((w.alloc (.cells #[.string f, .string t, .int .i64 p0, .int .i64 l0, .string s0] 24)).alloc (.cells #[.int .i64 p, .int .i64 a, .int .i64 b, .int .i64 l, .int .i64 k] 36)).alloc (.cells #[.string ⟨#[]⟩, .string ⟨#[]⟩, .int .i64 0, .int .i64 0, .string ⟨#[]⟩] 24)) (w.heap.size + 1 + 1) ⟨#[]⟩ ⟨#[]⟩ 0 0 ⟨#[]⟩) := Lib.hid (by simp [Boxed, go_sem])
  have HF0 : Hid (Free (((w.alloc (.cells #[.string f, .string t, .int .i64 p0, .int .i64 l0, .string s0] 24)).alloc (.cells #[.int .i64 p, .int .i64 a, .int .i64 b, .int .i64 l, .int .i64 k] 36)).alloc (.cells #[.string ⟨#[]⟩, .string ⟨#[]⟩, .int .i64 0, .int .i64 0, .string ⟨#[]⟩] 24)) (w.heap.size + 1 + 1)) := Lib.hid (fun o => by simp [go_sem])
  have HBb : Hid (Below w.heap.size w (((w.alloc (.cells #[.string f, .string t, .int .i64 p0, .int .i64 l0, .string s0] 24)).alloc (.cells #[.int .i64 p, .int .i64 a, .int .i64 b, .int .i64 l, .int .i64 k] 36)).alloc (.cells #[.string ⟨#[]⟩, .string ⟨#[]⟩, .int .i64 0, .int .i64 0, .string ⟨#[]⟩] 24))) := Lib.hid ((((Below.refl _ _).alloc (Nat.le_refl _) _).alloc (by simp) _).alloc (by simp; omega) _)
  go_enter Tryd.func8, Tryd.ntmps8
  go_wp2_with (go_at_call 24; refine (hasPorts_at H1.out).mono ?_; rintro e w' ⟨rfl, rfl⟩)
  refine (isPort_at H2.out).mono ?_
  rintro e w' ⟨rfl, rfl⟩
  go_wp2_with fail
  refine (isPort_at H3.out).mono ?_
  rintro e w' ⟨rfl, rfl⟩
  go_wp2_with fail
  refine (mayFlag_at H4.out).mono ?_
  rintro e w1 ⟨rfl, hb1⟩
  have HB1 := Lib.hid (show Below (w.heap.size + 1 + 1 + 1) (((w.alloc (.cells #[.string f, .string t, .int .i64 p0, .int .i64 l0, .string s0] 24)).alloc (.cells #[.int .i64 p, .int .i64 a, .int .i64 b, .int .i64 l, .int .i64 k] 36)).alloc (.cells #[.string ⟨#[]⟩, .string ⟨#[]⟩, .int .i64 0, .int .i64 0, .string ⟨#[]⟩] 24)) w1 by simpa using hb1)
  obtain ⟨x0, x1, x2, x3, x4⟩ := HX0.out.below HB1.out (by omega)
  obtain ⟨y0, y1, y2, y3, y4⟩ := HY0.out.below HB1.out (by omega)
  obtain ⟨z0, z1, z2, z3, z4⟩ := HZ0.out.below HB1.out (by omega)
  have zf : ∀ o, w1.frozen? ⟨w.heap.size + 1 + 1, o, none⟩ = false := HF0.out.below HB1.out (by omega)
  have n1 : w.heap.size + 1 + 1 < w1.heap.size := by have := HB1.out.size; simp at this; omega
  have n2 : w.heap.size + 1 < w1.heap.size := by omega
  have n3 : w.heap.size < w1.heap.size := by omega
  clear hb1
  go_wp2
  exact bodyPost_ret (v := .tuple #[.agg #[.string ⟨#[]⟩, .string ⟨#[]⟩, .int .i64 0, .int .i64 0, .string ⟨#[]⟩], .int .i64 1]) (by simp [results, Tryd.results8, go_sem, *]) rfl ⟨rfl, below5 (HBb.out.trans (HB1.out.mono (by omega))) (by omega)⟩

set_option maxHeartbeats 1000000 in
theorem write_no5 (h1 : portsB p = true) (h2 : portB a = true) (h3 : portB b = true) (h4 : flagB p l = true) (h5 : k ≠ 0) : Calls Tryd.prog 8 #[.agg #[.string f, .string t, .int .i64 p0, .int .i64 l0, .string s0], .agg #[.int .i64 p, .int .i64 a, .int .i64 b, .int .i64 l, .int .i64 k], .string s] w fun e w' => e = .returned (.tuple #[.agg #[.string ⟨#[]⟩, .string ⟨#[]⟩, .int .i64 0, .int .i64 0, .string ⟨#[]⟩], .int .i64 1]) ∧ Below w.heap.size w w' := by
  have H1 := Lib.hid h1
  have H2 := Lib.hid h2
  have H3 := Lib.hid h3
  have H4 := Lib.hid h4
  have h6 : (k != 0) = true := by simpa using h5
  clear h1 h2 h3 h4
  have HX0 := Lib.hid (((Boxed.new w f t p0 l0 s0).below (((Below.refl (w.heap.size + 1) _).alloc (by simp) (.cells #[.int .i64 p, .int .i64 a, .int .i64 b, .int .i64 l, .int .i64 k] 36)).alloc (by simp) (.cells #[.string ⟨#[]⟩, .string ⟨#[]⟩, .int .i64 0, .int .i64 0, .string ⟨#[]⟩] 24)) (by simp)))
  have HY0 : Hid (BoxH (((w.alloc (.cells #[.string f, .string t, .int .i64 p0, .int .i64 l0, .string s0] 24)).alloc (.cells #[.int .i64 p, .int .i64 a, .int .i64 b, .int .i64 l, .int .i64 k] 36)).alloc (.cells #[.string ⟨#[]⟩, .string ⟨#[]⟩, .int .i64 0, .int .i64 0, .string ⟨#[]⟩] 24)) (w.heap.size + 1) p a b l k) := Lib.hid (by simp [BoxH, go_sem])
  have HZ0 : Hid (Boxed (((w.alloc (.cells #[.string f, .string t, .int .i64 p0, .int .i64 l0, .string s0] 24)).alloc (.cells #[.int .i64 p, .int .i64 a, .int .i64 b, .int .i64 l, .int .i64 k] 36)).alloc (.cells #[.string ⟨#[]⟩, .string ⟨#[]⟩, .int .i64 0, .int .i64 0, .string ⟨#[]⟩] 24)) (w.heap.size + 1 + 1) ⟨#[]⟩ ⟨#[]⟩ 0 0 ⟨#[]⟩) := Lib.hid (by simp [Boxed, go_sem])
  have HF0 : Hid (Free (((w.alloc (.cells #[.string f, .string t, .int .i64 p0, .int .i64 l0, .string s0] 24)).alloc (.cells #[.int .i64 p, .int .i64 a, .int .i64 b, .int .i64 l, .int .i64 k] 36)).alloc (.cells #[.string ⟨#[]⟩, .string ⟨#[]⟩, .int .i64 0, .int .i64 0, .string ⟨#[]⟩] 24)) (w.heap.size + 1 + 1)) := Lib.hid (fun o => by simp [go_sem])
  have HBb : Hid (Below w.heap.size w (((w.alloc (.cells #[.string f, .string t, .int .i64 p0, .int .i64 l0, .string s0] 24)).alloc (.cells #[.int .i64 p, .int .i64 a, .int .i64 b, .int .i64 l, .int .i64 k] 36)).alloc (.cells #[.string ⟨#[]⟩, .string ⟨#[]⟩, .int .i64 0, .int .i64 0, .string ⟨#[]⟩] 24))) := Lib.hid ((((Below.refl _ _).alloc (Nat.le_refl _) _).alloc (by simp) _).alloc (by simp; omega) _)
  go_enter Tryd.func8, Tryd.ntmps8
  go_wp2_with (go_at_call 24; refine (hasPorts_at H1.out).mono ?_; rintro e w' ⟨rfl, rfl⟩)
  refine (isPort_at H2.out).mono ?_
  rintro e w' ⟨rfl, rfl⟩
  go_wp2_with fail
  refine (isPort_at H3.out).mono ?_
  rintro e w' ⟨rfl, rfl⟩
  go_wp2_with fail
  refine (mayFlag_at H4.out).mono ?_
  rintro e w1 ⟨rfl, hb1⟩
  have HB1 := Lib.hid (show Below (w.heap.size + 1 + 1 + 1) (((w.alloc (.cells #[.string f, .string t, .int .i64 p0, .int .i64 l0, .string s0] 24)).alloc (.cells #[.int .i64 p, .int .i64 a, .int .i64 b, .int .i64 l, .int .i64 k] 36)).alloc (.cells #[.string ⟨#[]⟩, .string ⟨#[]⟩, .int .i64 0, .int .i64 0, .string ⟨#[]⟩] 24)) w1 by simpa using hb1)
  obtain ⟨x0, x1, x2, x3, x4⟩ := HX0.out.below HB1.out (by omega)
  obtain ⟨y0, y1, y2, y3, y4⟩ := HY0.out.below HB1.out (by omega)
  obtain ⟨z0, z1, z2, z3, z4⟩ := HZ0.out.below HB1.out (by omega)
  have zf : ∀ o, w1.frozen? ⟨w.heap.size + 1 + 1, o, none⟩ = false := HF0.out.below HB1.out (by omega)
  have n1 : w.heap.size + 1 + 1 < w1.heap.size := by have := HB1.out.size; simp at this; omega
  have n2 : w.heap.size + 1 < w1.heap.size := by omega
  have n3 : w.heap.size < w1.heap.size := by omega
  clear hb1
  go_wp2
  exact bodyPost_ret (v := .tuple #[.agg #[.string ⟨#[]⟩, .string ⟨#[]⟩, .int .i64 0, .int .i64 0, .string ⟨#[]⟩], .int .i64 1]) (by simp [results, Tryd.results8, go_sem, *]) rfl ⟨rfl, below5 (HBb.out.trans (HB1.out.mono (by omega))) (by omega)⟩

/-- ports.Write of another Proto is told above; a head that is not right. -/
theorem write_bad (h1 : portsB p = true) (h2 : okH p a b l k = false) : Calls Tryd.prog 8 #[.agg #[.string f, .string t, .int .i64 p0, .int .i64 l0, .string s0], .agg #[.int .i64 p, .int .i64 a, .int .i64 b, .int .i64 l, .int .i64 k], .string s] w fun e w' => e = .returned (.tuple #[.agg #[.string ⟨#[]⟩, .string ⟨#[]⟩, .int .i64 0, .int .i64 0, .string ⟨#[]⟩], .int .i64 1]) ∧ Below w.heap.size w w' := by
  rcases e2 : portB a with _ | _
  · exact write_no2 f t p0 l0 s0 p a b l k s w h1 e2
  rcases e3 : portB b with _ | _
  · exact write_no3 f t p0 l0 s0 p a b l k s w h1 e2 e3
  rcases e4 : flagB p l with _ | _
  · exact write_no4 f t p0 l0 s0 p a b l k s w h1 e2 e3 e4
  refine write_no5 f t p0 l0 s0 p a b l k s w h1 e2 e3 e4 ?_
  intro e5
  simp [okH, e2, e3, e4, e5] at h2

end
end Go.Proofs.YtomcniakffipfaaDoor
