/-
  Notes, and two addresses, in memory.
-/
import Derived.Test.YtdoefjhdipkkeaaDoorLAlive
import Derived.Test.YtdoefjhdipkkeaaDoorEEnc
import Derived.Test.YtdoefjhdipkkeaaDoorRdFacts
namespace Go.Proofs.YtdoefjhdipkkeaaDoor
open Go.RowKit
set_option linter.unusedVariables false
set_option maxRecDepth 10000


theorem note_same (k : Int) (m0 m1 m2 m3 m4 m5 : Int) (u v : ByteArray) (q : Bool) (w : World) : (Op.equalIn 10000 38 (.agg #[.int .i64 k, .int .u8 m0, .int .u8 m1, .int .u8 m2, .int .u8 m3, .int .u8 m4, .int .u8 m5, .string u, .string v, .bool q]) (.agg #[.int .i64 k, .int .u8 m0, .int .u8 m1, .int .u8 m2, .int .u8 m3, .int .u8 m4, .int .u8 m5, .string u, .string v, .bool q])).run Tryd.prog w = .ok true w := by
  rw [show (10000 : Nat) = 9999 + 1 from rfl, run_equalIn_agg w 9999 38 _ _ (by kernel_rfl) (by kernel_rfl)]
  simp [Program.fieldsOf, Tryd.underlying38, Op.eqFields, part, isAgg, run_underlying Tryd.underlying23, run_underlying Tryd.underlying24, run_underlying Tryd.underlying3, run_underlying Tryd.underlying4, E.mac_eq_at 9997, run_equalIn_int w 9998 3 .i64 .i64 _ _ Tryd.underlying3, run_equalIn_string w 9998 24 _ _ Tryd.underlying24, run_equalIn_bool w 9998 4 _ _ Tryd.underlying4]

theorem rnote_same (k : Int) (m0 m1 m2 m3 m4 m5 : Int) (u v : ByteArray) (q : Bool) (w : World) : (Op.equalIn 10000 42 (.agg #[.int .i64 k, .int .u8 m0, .int .u8 m1, .int .u8 m2, .int .u8 m3, .int .u8 m4, .int .u8 m5, .string u, .string v, .bool q]) (.agg #[.int .i64 k, .int .u8 m0, .int .u8 m1, .int .u8 m2, .int .u8 m3, .int .u8 m4, .int .u8 m5, .string u, .string v, .bool q])).run Tryd.prog w = .ok true w := by
  rw [show (10000 : Nat) = 9999 + 1 from rfl, run_equalIn_agg w 9999 42 _ _ (by kernel_rfl) (by kernel_rfl)]
  simp [Program.fieldsOf, Tryd.underlying42, Op.eqFields, part, isAgg, run_underlying Tryd.underlying23, run_underlying Tryd.underlying24, run_underlying Tryd.underlying3, run_underlying Tryd.underlying4, E.mac_eq_at 9997, run_equalIn_int w 9998 3 .i64 .i64 _ _ Tryd.underlying3, run_equalIn_string w 9998 24 _ _ Tryd.underlying24, run_equalIn_bool w 9998 4 _ _ Tryd.underlying4]

/-- Two addresses lie in a block. -/
def Box2 (W : World) (N : Nat) (f t : ByteArray) : Prop := W.cell? ⟨N, 0, none⟩ = some (.string f) ∧ W.cell? ⟨N, 1, none⟩ = some (.string t)
theorem Box2.below {W W' : World} {N B : Nat} {f t : ByteArray} (h : Box2 W N f t) (hb : Below B W W') (hN : N < B) : Box2 W' N f t := ⟨(hb.cell hN).trans h.1, (hb.cell hN).trans h.2⟩
/-- What a frame says lies in a block. -/
def BoxN (W : World) (N : Nat) (k : Int) (m0 m1 m2 m3 m4 m5 : Int) (u v : ByteArray) (q : Bool) : Prop := W.cell? ⟨N, 0, none⟩ = some (.int .i64 k) ∧ W.cell? ⟨N, 1, none⟩ = some (.int .u8 m0) ∧ W.cell? ⟨N, 2, none⟩ = some (.int .u8 m1) ∧ W.cell? ⟨N, 3, none⟩ = some (.int .u8 m2) ∧ W.cell? ⟨N, 4, none⟩ = some (.int .u8 m3) ∧ W.cell? ⟨N, 5, none⟩ = some (.int .u8 m4) ∧ W.cell? ⟨N, 6, none⟩ = some (.int .u8 m5) ∧ W.cell? ⟨N, 7, none⟩ = some (.string u) ∧ W.cell? ⟨N, 8, none⟩ = some (.string v) ∧ W.cell? ⟨N, 9, none⟩ = some (.bool q)
theorem BoxN.below {W W' : World} {N B : Nat} {k : Int} {m0 m1 m2 m3 m4 m5 : Int} {u v : ByteArray} {q : Bool} (h : BoxN W N k m0 m1 m2 m3 m4 m5 u v q) (hb : Below B W W') (hN : N < B) : BoxN W' N k m0 m1 m2 m3 m4 m5 u v q := by
  obtain ⟨h0, h1, h2, h3, h4, h5, h6, h7, h8, h9⟩ := h
  exact ⟨(hb.cell hN).trans h0, (hb.cell hN).trans h1, (hb.cell hN).trans h2, (hb.cell hN).trans h3, (hb.cell hN).trans h4, (hb.cell hN).trans h5, (hb.cell hN).trans h6, (hb.cell hN).trans h7, (hb.cell hN).trans h8, (hb.cell hN).trans h9⟩
theorem BoxN.new (w : World) (k : Int) (m0 m1 m2 m3 m4 m5 : Int) (u v : ByteArray) (q : Bool) : BoxN (w.alloc (.cells #[.int .i64 k, .int .u8 m0, .int .u8 m1, .int .u8 m2, .int .u8 m3, .int .u8 m4, .int .u8 m5, .string u, .string v, .bool q] 38)) w.heap.size k m0 m1 m2 m3 m4 m5 u v q := by
  refine ⟨?_, ?_, ?_, ?_, ?_, ?_, ?_, ?_, ?_, ?_⟩ <;> simp [go_sem]
theorem Sent.part {w' : World} {B g n c : Nat} {a0 a1 a2 a3 a4 a5 m0 m1 m2 m3 m4 m5 ty : Int} {s : ByteArray} (h : Own w' B g n c (E.wire a0 a1 a2 a3 a4 a5 m0 m1 m2 m3 m4 m5 ty s)) (ha : Byt [a0, a1, a2, a3, a4, a5]) (hm : Byt [m0, m1, m2, m3, m4, m5]) (h1 : 1536 ≤ ty) (h2 : ty ≤ 65535) : Part w' ⟨some ⟨g, 0, none⟩, n, c, E.wire a0 a1 a2 a3 a4 a5 m0 m1 m2 m3 m4 m5 ty s⟩ :=
  h.part (E.wire_byt a0 a1 a2 a3 a4 a5 m0 m1 m2 m3 m4 m5 ty s (ha _ (by simp)) (ha _ (by simp)) (ha _ (by simp)) (ha _ (by simp)) (ha _ (by simp)) (ha _ (by simp)) (hm _ (by simp)) (hm _ (by simp)) (hm _ (by simp)) (hm _ (by simp)) (hm _ (by simp)) (hm _ (by simp)) h1 h2)

end Go.Proofs.YtdoefjhdipkkeaaDoor
