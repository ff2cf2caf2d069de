/-
  What advert.Decode does with a packet with which something is amiss; an advertisement's block in memory.
-/
import Derived.Test.YtpcdaidgijkkbaaAsmall
namespace Go.Proofs.Ytpcdaidgijkkbaa
open Go.RowKit
set_option linter.unusedVariables false
set_option maxRecDepth 40000

theorem below4 {B : Nat} {w W : World} (h : Below B w W) {N : Nat} (hN : B ≤ N) {v0 v1 v2 v3 : Value} :
    Below B w ((((W.setCell ⟨N, 0, none⟩ v0).setCell ⟨N, 1, none⟩ v1).setCell ⟨N, 2, none⟩ v2).setCell ⟨N, 3, none⟩ v3) :=
  (((h.setCell hN _).setCell hN _).setCell hN _).setCell hN _
/-- No cell of a block is frozen. -/
def Free (W : World) (N : Nat) : Prop := ∀ o, W.frozen? ⟨N, o, none⟩ = false
theorem Free.below {W W' : World} {N B : Nat} (h : Free W N) (hb : Below B W W') (hN : N < B) : Free W' N := fun o => (hb.frozen (p := ⟨N, o, none⟩) hN).trans (h o)
theorem Free.new (w : World) (c : Array Value) (t : TypeId) : Free (w.alloc (.cells c t)) w.heap.size := fun o => by simp [go_sem]

/-- An advertisement lies in a block of the call's own. -/
def BoxA (W : World) (B : Nat) (i p e : Int) (v : Value) : Prop := W.heap[B]? = some (.cells #[.int .i64 i, .int .i64 p, .int .i64 e, v] 55 (0, 0))
section
variable {W W' : World} {B : Nat} {i p e : Int} {v : Value}
theorem BoxA.lt (h : BoxA W B i p e v) : B < W.heap.size := (Array.getElem?_eq_some_iff.1 h).1
theorem BoxA.cells (h : BoxA W B i p e v) : W.cell? ⟨B, 0, none⟩ = some (.int .i64 i) ∧ W.cell? ⟨B, 1, none⟩ = some (.int .i64 p) ∧ W.cell? ⟨B, 2, none⟩ = some (.int .i64 e) ∧ W.cell? ⟨B, 3, none⟩ = some v := by
  simp [World.cell?, show W.heap[B]? = _ from h]
theorem BoxA.free (h : BoxA W B i p e v) : Free W B := fun o => by simp [World.frozen?, show W.heap[B]? = _ from h]
theorem BoxA.new (W : World) (i p e : Int) (v : Value) : BoxA (W.alloc (.cells #[.int .i64 i, .int .i64 p, .int .i64 e, v] 55)) W.heap.size i p e v := heap_alloc_new W _
theorem BoxA.kept {row : Option Nat} (h : BoxA W B i p e v) (hg : W.grownBy W' row) (hne : some B ≠ row) : BoxA W' B i p e v := (hg.block B h.lt hne).trans h
theorem BoxA.alloc (h : BoxA W B i p e v) (o : Obj) : BoxA (W.alloc o) B i p e v := h.kept (World.grownBy_alloc W o none) (by simp)
theorem BoxA.below {C : Nat} (h : BoxA W B i p e v) (hb : Below C W W') (hB : B < C) : BoxA W' B i p e v := (hb.block B hB).trans h
theorem BoxA.set (v' : Value) (h : BoxA W B i p e v) : BoxA (W.setCell ⟨B, 3, none⟩ v') B i p e v' := by
  obtain ⟨hlt, hk⟩ := Array.getElem?_eq_some_iff.1 h
  show (W.heap.modify B _)[B]? = _
  rw [Array.getElem?_eq_getElem (by rw [Array.size_modify]; exact hlt), Array.getElem_modify_self, hk]
  rfl
theorem grown_set (W : World) (b o : Nat) (v : Value) : W.grownBy (W.setCell ⟨b, o, none⟩ v) (some b) :=
  ⟨rfl, rfl, rfl, by simp, fun k _ hk => heap_setCell_other W ⟨b, o, none⟩ k _ (fun e => hk (by simp [e]))⟩
end

end Go.Proofs.Ytpcdaidgijkkbaa
