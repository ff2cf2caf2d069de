/-
  The walk of PortsTurned where a byte is turned.
-/
import Derived.Test.YtomcniakffipfaaTurnedNo
namespace Go.Proofs.Ytomcniakffipfaa
open Go.RowKit
set_option linter.unusedVariables false
set_option maxRecDepth 10000

attribute [local go_sem ↓] hd_eq
set_option maxHeartbeats 4000000 in
theorem turned_body (f t : ByteArray) (p0 l0 : Int) (s0 : ByteArray) (p a b l k : Int) (i : Nat) (y : Int) (w : World) (hf : f.size ≤ 140737488351232) (ht : t.size ≤ 140737488351232) (h : WrOk f t l0 6 a b l k ⟨#[100, 97, 116, 97]⟩) (hi : i < 24) (hy : 1 ≤ y ∧ y ≤ 255) : Calls Try.prog 5 #[.agg #[.string f, .string t, .int .i64 p0, .int .i64 l0, .string s0], .agg #[.int .i64 p, .int .i64 a, .int .i64 b, .int .i64 l, .int .i64 k], .agg #[.int .i64 (i : Int), .int .i64 y]] w fun e w' => e = .returned (.bool true) ∧ Below w.heap.size w w' := by
  obtain ⟨B, hB⟩ : ∃ B, B = wrBody f t 6 a b l ⟨#[100, 97, 116, 97]⟩ := ⟨_, rfl⟩
  have hsz : B.size = 24 := by rw [hB, wrBody_size]; rfl
  have HBB := Lib.hid hB
  have HOK := Lib.hid h
  have hf16 := (okp_small h.2.2).1
  have HL := Lib.hid (show bts B = wrL f t 6 a b l ⟨#[100, 97, 116, 97]⟩ by rw [hB]; exact bts_strOfNums (wrL_byt h.1 h.2.1))
  obtain ⟨v, hv⟩ : ∃ v, v = byteAt (bts B) i := ⟨_, rfl⟩
  have hvb : 0 ≤ v ∧ v ≤ 255 := by rw [hv]; exact byteAt_bd (bts_byt B) i
  obtain ⟨z, hz, hzb, hzx⟩ := xor_byte v y hvb hy
  obtain ⟨r, hr, hd⟩ := turn_body h (by decide) i z hi hzb (by rw [← HL.out, ← hv]; exact hzx)
  rw [← HL.out] at hd
  obtain ⟨B', hB'⟩ : ∃ B', B' = strOfNums ((bts B).set i z) := ⟨_, rfl⟩
  rw [← hB'] at hd
  have HB' := Lib.hid hB'
  have HD := Lib.hid hd
  have HVV := Lib.hid hv
  have HZ := Lib.hid hzb
  have e1 : ((r == 52) || (r == 53)) = true := by rcases hr with rfl | rfl <;> rfl
  clear h hB hd hB' hv hzb hzx
  have d2 : decide (y < 1) = false := decide_eq_false (by omega)
  have d3 : decide (255 < y) = false := decide_eq_false (by omega)
  have d1 : decide ((i : Int) < 0) = false := decide_eq_false (by omega)
  have d4 : decide (24 ≤ (i : Int)) = false := decide_eq_false (by omega)
  have d4' : decide (24 ≤ i) = false := decide_eq_false (by omega)
  have i1 : (i : Int) < 24 := by omega
  have HX0 : Hid ((((w.alloc (.cells #[.string f, .string t, .int .i64 p0, .int .i64 l0, .string s0] 24)).alloc (.cells #[.int .i64 6, .int .i64 a, .int .i64 b, .int .i64 l, .int .i64 k] 26)).alloc (.cells #[.int .i64 (i : Int), .int .i64 y] 41)).cell? ⟨w.heap.size + 1 + 1, 0, none⟩ = some (.int .i64 (i : Int)) ∧ (((w.alloc (.cells #[.string f, .string t, .int .i64 p0, .int .i64 l0, .string s0] 24)).alloc (.cells #[.int .i64 6, .int .i64 a, .int .i64 b, .int .i64 l, .int .i64 k] 26)).alloc (.cells #[.int .i64 (i : Int), .int .i64 y] 41)).cell? ⟨w.heap.size + 1 + 1, 1, none⟩ = some (.int .i64 y)) := Lib.hid (by simp [go_sem])
  go_enter Try.func5, Try.ntmps5
  go_wp2_with fail
  refine (write_yes f t p0 l0 s0 6 a b l k ⟨#[100, 97, 116, 97]⟩ _ hf ht (by decide) HOK.out).mono ?_
  rintro e w1 ⟨rfl, hb1'⟩
  rw [← HBB.out]
  have hb1 : Below (w.heap.size + 1 + 1 + 1) (((w.alloc (.cells #[.string f, .string t, .int .i64 p0, .int .i64 l0, .string s0] 24)).alloc (.cells #[.int .i64 6, .int .i64 a, .int .i64 b, .int .i64 l, .int .i64 k] 26)).alloc (.cells #[.int .i64 (i : Int), .int .i64 y] 41)) w1 := by simpa using hb1'
  have HB1 := Lib.hid (((((Below.refl w.heap.size _).alloc (Nat.le_refl _) _).alloc (by simp) _).alloc (by simp; omega) _).trans (hb1.mono (by omega)))
  have cx : w1.cell? ⟨w.heap.size + 1 + 1, 0, none⟩ = some (.int .i64 (i : Int)) := (hb1.cell (p := ⟨_, 0, none⟩) (by simp)).trans HX0.out.1
  have cy : w1.cell? ⟨w.heap.size + 1 + 1, 1, none⟩ = some (.int .i64 y) := (hb1.cell (p := ⟨_, 1, none⟩) (by simp)).trans HX0.out.2
  have n1 : w.heap.size + 1 + 1 < w1.heap.size := World.block_lt_of_cell? _ _ cx
  have n0 : w.heap.size ≤ w1.heap.size := by omega
  clear hb1 hb1'
  obtain ⟨c2, w2, hr2, ho2, hb2, -, -⟩ := conv_bytes (w1.alloc (.cells #[.string f, .string t, .int .i64 6, .int .i64 l0, .string B] 24)) (w1.heap.size + 1) B 9 Try.underlying9 (by simp) (by omega) (w1.heap.size + 1) (by simp) 24 hsz
  have HO2 := Lib.hid ho2
  have HB2 := Lib.hid hb2
  have c0 : w2.cell? ⟨w.heap.size + 1 + 1, 0, none⟩ = some (.int .i64 (i : Int)) := (hb2.cell (p := ⟨_, 0, none⟩) (by simp; omega)).trans ((World.cell?_alloc_lt w1 _ ⟨w.heap.size + 1 + 1, 0, none⟩ n1).trans cx)
  have c1 : w2.cell? ⟨w.heap.size + 1 + 1, 1, none⟩ = some (.int .i64 y) := (hb2.cell (p := ⟨_, 1, none⟩) (by simp; omega)).trans ((World.cell?_alloc_lt w1 _ ⟨w.heap.size + 1 + 1, 1, none⟩ n1).trans cy)
  have ck : w2.cell? ⟨w1.heap.size + 1, i, none⟩ = some (.int .u8 v) := by rw [HVV.out]; exact ho2.cell i (by omega)
  have fk : w2.frozen? ⟨w1.heap.size + 1, i, none⟩ = false := ho2.free i (by omega)
  have n2 : w1.heap.size + 1 < w2.heap.size := ho2.lt
  have n3 : w.heap.size + 1 + 1 < w2.heap.size := by omega
  have n4 : w1.heap.size < w2.heap.size := by omega
  have HA2 := Lib.hid ((Boxed.new w1 f t 6 l0 B).below hb2 (by omega))
  have af : ∀ o, w2.frozen? ⟨w1.heap.size, o, none⟩ = false := (Free.new w1 _ _).below hb2 (by omega)
  obtain ⟨a0, a1, a2, a3, a4⟩ := HA2.out
  clear ho2 hb2
  have hos := HO2.out.stored i z
  have HO3 := Lib.hid hos.1
  have hcv : (convert 42 9 (.slice (some ⟨w1.heap.size + 1, 0, none⟩) 24 c2)).run Try.prog (w2.setCell ⟨w1.heap.size + 1, i, none⟩ (.int .u8 z)).drew = .ok (.string B') (w2.setCell ⟨w1.heap.size + 1, i, none⟩ (.int .u8 z)).drew := by
    rw [HB'.out]
    exact convert_part (w := (w2.setCell ⟨w1.heap.size + 1, i, none⟩ (.int .u8 z)).drew) (hos.1.part (byt_set (bts_byt B) i HZ.out)) 9 Try.underlying9
  clear hos
  go_wp2_with fail
  go_region
  go_wp2_with fail
  refine (HD.out _).mono ?_
  rintro e w3 ⟨rfl, hb3'⟩
  have hb3 : Below w2.heap.size (((w2.setCell ⟨w1.heap.size + 1, i, none⟩ (.int .u8 z)).setCell ⟨w1.heap.size, 4, none⟩ (.string B')).drew) w3 := by simpa using hb3'
  have HB3 := Lib.hid ((HB1.out.trans ((((Below.refl w1.heap.size w1).alloc (Nat.le_refl _) _).trans (HB2.out.mono (by omega))).mono n0)).trans ((below_drew (((Below.refl w.heap.size w2).setCell (p := ⟨w1.heap.size + 1, i, none⟩) (show w.heap.size ≤ w1.heap.size + 1 by omega) (.int .u8 z)).setCell (p := ⟨w1.heap.size, 4, none⟩) n0 (.string B'))).trans (hb3.mono (by omega))))
  have n5 : w.heap.size ≤ w3.heap.size := HB3.out.size
  clear hb3 hb3' c0 c1 ck fk a0 a1 a2 a3 a4 af cx cy
  go_wp2_with fail
  refine (alive_any _).mono ?_
  rintro e w4 ⟨rfl, hb4⟩
  obtain ⟨g0, g1, g2, g3, g4⟩ := (BoxH.new w3 0 0 0 0 0).below hb4 (by simp)
  have n6 : w3.heap.size < w4.heap.size := World.block_lt_of_cell? _ _ g0
  have HB4 := Lib.hid ((HB3.out.alloc n5 _).trans (hb4.mono (by simp; omega)))
  clear hb4
  rcases hr with rfl | rfl
  · go_wp2
    go_ret
    exact ⟨by first | rfl | simp, HB4.out⟩
  · go_wp2
    go_ret
    exact ⟨by first | rfl | simp, HB4.out⟩

end Go.Proofs.Ytomcniakffipfaa
