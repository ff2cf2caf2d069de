/-
  The walks of AdvertTurned where no byte is turned.
-/
import Derived.Test.YthhomfchoomelaaTurnFacts
namespace Go.Proofs.Ythhomfchoomelaa
open Go.RowKit
set_option linter.unusedVariables false
set_option maxRecDepth 10000

set_option maxHeartbeats 4000000 in
theorem turned_no (i p e : Int) (A : Option Addr) (n c : Nat) (ss : List ByteArray) (f : ByteArray) (x y : Int) (w : World) (hS : Strs w A n c ss) (hn : n ≤ 140737488351232) (hf : f.size ≤ 140737488351232) (h : okA f i p e ss = false) :
    Calls Try.prog 6 #[.agg #[.int .i64 i, .int .i64 p, .int .i64 e, .slice A n c], .string f, .agg #[.int .i64 x, .int .i64 y]] w fun r w' => r = .returned (.bool true) ∧ Below w.heap.size w w' := by
  have hS1 := (hS.alloc (.cells #[.int .i64 i, .int .i64 p, .int .i64 e, .slice A n c] 24)).alloc (.cells #[.int .i64 x, .int .i64 y] 42)
  have B0 := Lib.hid (((Below.refl w.heap.size w).alloc (Nat.le_refl _) (.cells #[.int .i64 i, .int .i64 p, .int .i64 e, .slice A n c] 24)).alloc (by simp) (.cells #[.int .i64 x, .int .i64 y] 42))
  have HX0 : Hid (((w.alloc (.cells #[.int .i64 i, .int .i64 p, .int .i64 e, .slice A n c] 24)).alloc (.cells #[.int .i64 x, .int .i64 y] 42)).cell? ⟨w.heap.size + 1, 0, none⟩ = some (.int .i64 x) ∧ ((w.alloc (.cells #[.int .i64 i, .int .i64 p, .int .i64 e, .slice A n c] 24)).alloc (.cells #[.int .i64 x, .int .i64 y] 42)).cell? ⟨w.heap.size + 1, 1, none⟩ = some (.int .i64 y)) := Lib.hid (by simp [go_sem])
  have HE := Lib.hid (encode_no hS1 hf hn h)
  clear hS hS1 h
  go_enter Try.func6, Try.ntmps6
  go_wp2_with fail
  refine HE.out.mono ?_
  rintro r w1 ⟨rfl, hb1'⟩
  have hb1 : Below (w.heap.size + 1 + 1) ((w.alloc (.cells #[.int .i64 i, .int .i64 p, .int .i64 e, .slice A n c] 24)).alloc (.cells #[.int .i64 x, .int .i64 y] 42)) w1 := by simpa using hb1'
  have HB1 := Lib.hid (B0.out.trans (hb1.mono (by omega)))
  have cx : w1.cell? ⟨w.heap.size + 1, 0, none⟩ = some (.int .i64 x) := (hb1.cell (p := ⟨_, 0, none⟩) (by simp)).trans HX0.out.1
  have cy : w1.cell? ⟨w.heap.size + 1, 1, none⟩ = some (.int .i64 y) := (hb1.cell (p := ⟨_, 1, none⟩) (by simp)).trans HX0.out.2
  have n1 : w.heap.size + 1 < w1.heap.size := World.block_lt_of_cell? _ _ cx
  have n0 : w.heap.size ≤ w1.heap.size := by omega
  clear hb1 hb1' HX0
  go_wp2_with fail
  refine (alive_any _).mono ?_
  rintro r w2 ⟨rfl, hb2⟩
  go_wp2
  go_ret
  exact ⟨rfl, (HB1.out.alloc n0 _).trans (hb2.mono (by simp; omega))⟩

set_option maxHeartbeats 4000000 in
theorem turned_x (i p e : Int) (A : Option Addr) (n c : Nat) (ss : List ByteArray) (f : ByteArray) (x y : Int) (w : World) (hS : Strs w A n c ss) (hn : n ≤ 140737488351232) (hf : f.size ≤ 140737488351232) (h : okA f i p e ss = true) (hx : x < 0 ∨ y < 1 ∨ 255 < y) :
    Calls Try.prog 6 #[.agg #[.int .i64 i, .int .i64 p, .int .i64 e, .slice A n c], .string f, .agg #[.int .i64 x, .int .i64 y]] w fun r w' => r = .returned (.bool true) ∧ Below w.heap.size w w' := by
  have hS1 := (hS.alloc (.cells #[.int .i64 i, .int .i64 p, .int .i64 e, .slice A n c] 24)).alloc (.cells #[.int .i64 x, .int .i64 y] 42)
  have B0 := Lib.hid (((Below.refl w.heap.size w).alloc (Nat.le_refl _) (.cells #[.int .i64 i, .int .i64 p, .int .i64 e, .slice A n c] 24)).alloc (by simp) (.cells #[.int .i64 x, .int .i64 y] 42))
  have HX0 : Hid (((w.alloc (.cells #[.int .i64 i, .int .i64 p, .int .i64 e, .slice A n c] 24)).alloc (.cells #[.int .i64 x, .int .i64 y] 42)).cell? ⟨w.heap.size + 1, 0, none⟩ = some (.int .i64 x) ∧ ((w.alloc (.cells #[.int .i64 i, .int .i64 p, .int .i64 e, .slice A n c] 24)).alloc (.cells #[.int .i64 x, .int .i64 y] 42)).cell? ⟨w.heap.size + 1, 1, none⟩ = some (.int .i64 y)) := Lib.hid (by simp [go_sem])
  have HE := Lib.hid (encode_yes hS1 h)
  have hq := nq_le h
  have hz := bodyS_size h
  obtain ⟨s, hs⟩ : ∃ s, bodyS f i p e ss = s := ⟨_, rfl⟩
  obtain ⟨t, htt⟩ : ∃ t, toA f = t := ⟨_, rfl⟩
  have ht := toA_size h
  rw [htt] at ht
  rw [hs, htt] at HE
  rw [hs] at hz
  have hs1 : s.size ≤ 1000 := by omega
  have hf16 : f.size ≤ 16 := by omega
  clear hS hS1 h hs htt hz hq ht
  by_cases h1 : x < 0
  · have d1 : decide (x < 0) = true := by simpa using h1
    clear hx
    go_enter Try.func6, Try.ntmps6
    go_wp2_with fail
    refine HE.out.mono ?_
    rintro r w1 ⟨rfl, hb1'⟩
    have hb1 : Below (w.heap.size + 1 + 1) ((w.alloc (.cells #[.int .i64 i, .int .i64 p, .int .i64 e, .slice A n c] 24)).alloc (.cells #[.int .i64 x, .int .i64 y] 42)) w1 := by simpa using hb1'
    have HB1 := Lib.hid (B0.out.trans (hb1.mono (by omega)))
    have cx : w1.cell? ⟨w.heap.size + 1, 0, none⟩ = some (.int .i64 x) := (hb1.cell (p := ⟨_, 0, none⟩) (by simp)).trans HX0.out.1
    have cy : w1.cell? ⟨w.heap.size + 1, 1, none⟩ = some (.int .i64 y) := (hb1.cell (p := ⟨_, 1, none⟩) (by simp)).trans HX0.out.2
    have n1 : w.heap.size + 1 < w1.heap.size := World.block_lt_of_cell? _ _ cx
    have n0 : w.heap.size ≤ w1.heap.size := by omega
    clear hb1 hb1' HX0
    go_wp2_with fail
    refine (alive_any _).mono ?_
    rintro r w2 ⟨rfl, hb2⟩
    go_wp2
    go_ret
    exact ⟨rfl, (HB1.out.alloc n0 _).trans (hb2.mono (by simp; omega))⟩

  have d1 : decide (x < 0) = false := by simpa using h1
  by_cases h2 : y < 1
  · have d2 : decide (y < 1) = true := by simpa using h2
    clear hx
    go_enter Try.func6, Try.ntmps6
    go_wp2_with fail
    refine HE.out.mono ?_
    rintro r w1 ⟨rfl, hb1'⟩
    have hb1 : Below (w.heap.size + 1 + 1) ((w.alloc (.cells #[.int .i64 i, .int .i64 p, .int .i64 e, .slice A n c] 24)).alloc (.cells #[.int .i64 x, .int .i64 y] 42)) w1 := by simpa using hb1'
    have HB1 := Lib.hid (B0.out.trans (hb1.mono (by omega)))
    have cx : w1.cell? ⟨w.heap.size + 1, 0, none⟩ = some (.int .i64 x) := (hb1.cell (p := ⟨_, 0, none⟩) (by simp)).trans HX0.out.1
    have cy : w1.cell? ⟨w.heap.size + 1, 1, none⟩ = some (.int .i64 y) := (hb1.cell (p := ⟨_, 1, none⟩) (by simp)).trans HX0.out.2
    have n1 : w.heap.size + 1 < w1.heap.size := World.block_lt_of_cell? _ _ cx
    have n0 : w.heap.size ≤ w1.heap.size := by omega
    clear hb1 hb1' HX0
    go_wp2_with fail
    refine (alive_any _).mono ?_
    rintro r w2 ⟨rfl, hb2⟩
    go_wp2
    go_ret
    exact ⟨rfl, (HB1.out.alloc n0 _).trans (hb2.mono (by simp; omega))⟩

  have d2 : decide (y < 1) = false := by simpa using h2
  have d3 : decide (255 < y) = true := by simp; omega
  clear hx
  go_enter Try.func6, Try.ntmps6
  go_wp2_with fail
  refine HE.out.mono ?_
  rintro r w1 ⟨rfl, hb1'⟩
  have hb1 : Below (w.heap.size + 1 + 1) ((w.alloc (.cells #[.int .i64 i, .int .i64 p, .int .i64 e, .slice A n c] 24)).alloc (.cells #[.int .i64 x, .int .i64 y] 42)) w1 := by simpa using hb1'
  have HB1 := Lib.hid (B0.out.trans (hb1.mono (by omega)))
  have cx : w1.cell? ⟨w.heap.size + 1, 0, none⟩ = some (.int .i64 x) := (hb1.cell (p := ⟨_, 0, none⟩) (by simp)).trans HX0.out.1
  have cy : w1.cell? ⟨w.heap.size + 1, 1, none⟩ = some (.int .i64 y) := (hb1.cell (p := ⟨_, 1, none⟩) (by simp)).trans HX0.out.2
  have n1 : w.heap.size + 1 < w1.heap.size := World.block_lt_of_cell? _ _ cx
  have n0 : w.heap.size ≤ w1.heap.size := by omega
  clear hb1 hb1' HX0
  go_wp2_with fail
  refine (alive_any _).mono ?_
  rintro r w2 ⟨rfl, hb2⟩
  go_wp2
  go_ret
  exact ⟨rfl, (HB1.out.alloc n0 _).trans (hb2.mono (by simp; omega))⟩

set_option maxHeartbeats 4000000 in
theorem turned_far (i p e : Int) (A : Option Addr) (n c : Nat) (ss : List ByteArray) (f : ByteArray) (x y : Int) (w : World) (hS : Strs w A n c ss) (hn : n ≤ 140737488351232) (hf : f.size ≤ 140737488351232) (h : okA f i p e ss = true) (hx : ((bodyS f i p e ss).size : Int) + (f.size : Int) ≤ x) (hx2 : x ≤ 9223372036854775807) (hy : 1 ≤ y ∧ y ≤ 255) :
    Calls Try.prog 6 #[.agg #[.int .i64 i, .int .i64 p, .int .i64 e, .slice A n c], .string f, .agg #[.int .i64 x, .int .i64 y]] w fun r w' => r = .returned (.bool true) ∧ Below w.heap.size w w' := by
  have hS1 := (hS.alloc (.cells #[.int .i64 i, .int .i64 p, .int .i64 e, .slice A n c] 24)).alloc (.cells #[.int .i64 x, .int .i64 y] 42)
  have B0 := Lib.hid (((Below.refl w.heap.size w).alloc (Nat.le_refl _) (.cells #[.int .i64 i, .int .i64 p, .int .i64 e, .slice A n c] 24)).alloc (by simp) (.cells #[.int .i64 x, .int .i64 y] 42))
  have HX0 : Hid (((w.alloc (.cells #[.int .i64 i, .int .i64 p, .int .i64 e, .slice A n c] 24)).alloc (.cells #[.int .i64 x, .int .i64 y] 42)).cell? ⟨w.heap.size + 1, 0, none⟩ = some (.int .i64 x) ∧ ((w.alloc (.cells #[.int .i64 i, .int .i64 p, .int .i64 e, .slice A n c] 24)).alloc (.cells #[.int .i64 x, .int .i64 y] 42)).cell? ⟨w.heap.size + 1, 1, none⟩ = some (.int .i64 y)) := Lib.hid (by simp [go_sem])
  have HE := Lib.hid (encode_yes hS1 h)
  have hq := nq_le h
  have hz := bodyS_size h
  obtain ⟨s, hs⟩ : ∃ s, bodyS f i p e ss = s := ⟨_, rfl⟩
  obtain ⟨t, htt⟩ : ∃ t, toA f = t := ⟨_, rfl⟩
  have ht := toA_size h
  rw [htt] at ht
  rw [hs, htt] at HE
  rw [hs] at hz
  have hs1 : s.size ≤ 1000 := by omega
  have hf16 : f.size ≤ 16 := by omega
  rw [hs] at hx
  clear hS hS1 h hs htt hz hq ht
  have d1 : decide (x < 0) = false := decide_eq_false (by omega)
  have d2 : decide (y < 1) = false := decide_eq_false (by omega)
  have d3 : decide (255 < y) = false := decide_eq_false (by omega)
  have d4 : decide ((s.size : Int) ≤ x) = true := decide_eq_true (by omega)
  have d5 : decide ((f.size : Int) ≤ x - (s.size : Int)) = true := decide_eq_true (by omega)
  go_enter Try.func6, Try.ntmps6
  go_wp2_with fail
  refine HE.out.mono ?_
  rintro r w1 ⟨rfl, hb1'⟩
  have hb1 : Below (w.heap.size + 1 + 1) ((w.alloc (.cells #[.int .i64 i, .int .i64 p, .int .i64 e, .slice A n c] 24)).alloc (.cells #[.int .i64 x, .int .i64 y] 42)) w1 := by simpa using hb1'
  have HB1 := Lib.hid (B0.out.trans (hb1.mono (by omega)))
  have cx : w1.cell? ⟨w.heap.size + 1, 0, none⟩ = some (.int .i64 x) := (hb1.cell (p := ⟨_, 0, none⟩) (by simp)).trans HX0.out.1
  have cy : w1.cell? ⟨w.heap.size + 1, 1, none⟩ = some (.int .i64 y) := (hb1.cell (p := ⟨_, 1, none⟩) (by simp)).trans HX0.out.2
  have n1 : w.heap.size + 1 < w1.heap.size := World.block_lt_of_cell? _ _ cx
  have n0 : w.heap.size ≤ w1.heap.size := by omega
  clear hb1 hb1' HX0
  go_wp2_with fail
  refine (alive_any _).mono ?_
  rintro r w2 ⟨rfl, hb2⟩
  go_wp2
  go_ret
  exact ⟨rfl, (HB1.out.alloc n0 _).trans (hb2.mono (by simp; omega))⟩

end Go.Proofs.Ythhomfchoomelaa
