/-
  The law's does: what its answer is in memory.
-/
import Derived.Test.YtondjponengedaaPlain
namespace Go.Proofs.Ytondjponengedaa
open Go.RowKit
set_option linter.unusedVariables false
set_option linter.unusedSimpArgs false
set_option maxRecDepth 10000

def zcs : List Value := [.int .i64 0, .string ByteArray.empty, .string ByteArray.empty, .int .i64 0, .int .i64 0, .int .i64 0, .int .i64 0, .int .i64 0]
def acells (err : Int) (e : En) (v : Value) : List Value := .int .i64 err :: (ecs e ++ [v])
/-- An answer, as a value. -/
def ansv (err : Int) (e : En) (v : Value) : Value := .agg #[.int .i64 err, .int .i64 e.fl.proto, .string e.fl.frm, .string e.fl.to_, .int .i64 e.fl.port, .int .i64 e.fl.dest, .int .i64 e.bk, .int .i64 e.st, .int .i64 e.ends, v]

theorem bigS56 (a : Addr) (v : Value) : storeVar 56 a v = bigS 56 a v := rfl
theorem Bx.setAt {w : World} {b : Nat} {t : TypeId} {vs : List Value} (h : Bx w b t vs) (j : Nat) (v : Value) : Bx (w.setCell ⟨b, j, none⟩ v) b t (vs.set j v) := by
  unfold Bx
  rw [heap_setCell_same w b j vs.toArray t v h]
  congr 2
  simp
theorem store56 {W : World} {b : Nat} {tt : TypeId} {cur : List Value} (hb : Bx W b tt cur) (hl : cur.length = 10) (x0 x1 x4 x5 x6 x7 x8 : Int) (x2 x3 : ByteArray) (v : Value) (hv : v.oneCell' = true) :
    ∃ W', (bigS 56 ⟨b, 0, none⟩ (.agg #[.int .i64 x0, .int .i64 x1, .string x2, .string x3, .int .i64 x4, .int .i64 x5, .int .i64 x6, .int .i64 x7, .int .i64 x8, v])).run Try.prog W = .ok () W' ∧ Bx W' b tt [.int .i64 x0, .int .i64 x1, .string x2, .string x3, .int .i64 x4, .int .i64 x5, .int .i64 x6, .int .i64 x7, .int .i64 x8, v] ∧ Only (· = b) W W' := by
  obtain ⟨h1, h2, h3⟩ := store_box (t := 56) hb [.int .i64 x0, .int .i64 x1, .string x2, .string x3, .int .i64 x4, .int .i64 x5, .int .i64 x6, .int .i64 x7, .int .i64 x8, v] 10 hl rfl (fun u hu => by
    simp only [List.mem_cons, List.not_mem_nil, or_false] at hu
    rcases hu with rfl | rfl | rfl | rfl | rfl | rfl | rfl | rfl | rfl | rfl <;> first | rfl | exact hv) (Try.sizeOf56 W)
  exact ⟨_, h1, h2, h3⟩
theorem Bx.ten {w : World} {b : Nat} {t : TypeId} {v0 v1 v2 v3 v4 v5 v6 v7 v8 v9 : Value} (h : Bx w b t [v0, v1, v2, v3, v4, v5, v6, v7, v8, v9]) : w.cell? ⟨b, 0, none⟩ = some v0 ∧ w.cell? ⟨b, 1, none⟩ = some v1 ∧ w.cell? ⟨b, 2, none⟩ = some v2 ∧ w.cell? ⟨b, 3, none⟩ = some v3 ∧ w.cell? ⟨b, 4, none⟩ = some v4 ∧ w.cell? ⟨b, 5, none⟩ = some v5 ∧ w.cell? ⟨b, 6, none⟩ = some v6 ∧ w.cell? ⟨b, 7, none⟩ = some v7 ∧ w.cell? ⟨b, 8, none⟩ = some v8 ∧ w.cell? ⟨b, 9, none⟩ = some v9 :=
  ⟨h.cell 0, h.cell 1, h.cell 2, h.cell 3, h.cell 4, h.cell 5, h.cell 6, h.cell 7, h.cell 8, h.cell 9⟩
/-- What does leaves. -/
def DoesTo (w : World) (B : Nat) (k : List Int) (L' : List En) (a : Ans) (e : Ending) (w' : World) : Prop :=
  ∃ v, e = .returned (ansv a.err a.seen v) ∧ w'.ownsRow w.heap.size 42 8 v a.l.length (ecells a.l) ∧ Ta w' B k L' ∧ Only (· = B) w w'

/-- The world in which the switch stands. -/
def W0 (w : World) (o : Opr) : World := ((w.alloc (.cells (ocs o).toArray 53)).alloc (.cells (acells 0 Z (.slice none 0 0)).toArray 56)).alloc (.cells (acells 0 Z (.slice none 0 0)).toArray 56)
structure D0 (w W : World) (o : Opr) (r a : List Value) : Prop where
  bo : Bx W w.heap.size 53 (ocs o)
  br : Bx W (w.heap.size + 1) 56 r
  ba : Bx W (w.heap.size + 1 + 1) 56 a
theorem d0_start (w : World) (o : Opr) : D0 w (W0 w o) o (acells 0 Z (.slice none 0 0)) (acells 0 Z (.slice none 0 0)) ∧ Below w.heap.size w (W0 w o) := by
  refine ⟨⟨((Bx.new w (ocs o) 53).alloc _).alloc _, ?_, ?_⟩, below_alloc (below_alloc (below_alloc (Below.refl _ _) _) _) _⟩
  · have := (Bx.new (w.alloc (.cells (ocs o).toArray 53)) (acells 0 Z (.slice none 0 0)) 56).alloc (.cells (acells 0 Z (.slice none 0 0)).toArray 56)
    rwa [World.size_alloc] at this
  · have := Bx.new ((w.alloc (.cells (ocs o).toArray 53)).alloc (.cells (acells 0 Z (.slice none 0 0)).toArray 56)) (acells 0 Z (.slice none 0 0)) 56
    rwa [World.size_alloc, World.size_alloc] at this
theorem D0.only {w W W' : World} {B : Nat} {o : Opr} {r a : List Value} (h : D0 w W o r a) (hB : B < w.heap.size) (ho : Only (· = B) W W') : D0 w W' o r a := ⟨h.bo.only ho (by omega), h.br.only ho (by omega), h.ba.only ho (by omega)⟩
theorem D0.below {w W W' : World} {o : Opr} {r a : List Value} (h : D0 w W o r a) (hb : Below W.heap.size W W') : D0 w W' o r a := ⟨h.bo.below hb, h.br.below hb, h.ba.below hb⟩

theorem D0.setA {w W : World} {o : Opr} {r a : List Value} (h : D0 w W o r a) (j : Nat) (v : Value) : D0 w (W.setCell ⟨w.heap.size + 1 + 1, j, none⟩ v) o r (a.set j v) ∧ Only (· = w.heap.size + 1 + 1) W (W.setCell ⟨w.heap.size + 1 + 1, j, none⟩ v) := by
  have ho : Only (· = w.heap.size + 1 + 1) W (W.setCell ⟨w.heap.size + 1 + 1, j, none⟩ v) := (Only.refl (· = w.heap.size + 1 + 1) W).setCell (p := ⟨w.heap.size + 1 + 1, j, none⟩) (.inl rfl) v
  exact ⟨⟨h.bo.only ho (by omega), h.br.only ho (by omega), h.ba.setAt j v⟩, ho⟩
theorem D0.storeE {w W : World} {o : Opr} {r : List Value} {e0 e9 : Value} {m : List Value} (h : D0 w W o r (e0 :: (m ++ [e9]))) (hm : m.length = 8) (x1 x4 x5 x6 x7 x8 : Int) (x2 x3 : ByteArray) :
    ∃ W', (bigS 42 ⟨w.heap.size + 1 + 1, 1, none⟩ (.agg #[.int .i64 x1, .string x2, .string x3, .int .i64 x4, .int .i64 x5, .int .i64 x6, .int .i64 x7, .int .i64 x8])).run Try.prog W = .ok () W' ∧ D0 w W' o r [e0, .int .i64 x1, .string x2, .string x3, .int .i64 x4, .int .i64 x5, .int .i64 x6, .int .i64 x7, .int .i64 x8, e9] ∧ Only (· = w.heap.size + 1 + 1) W W' := by
  have ho := setCells_only (w.heap.size + 1 + 1) 1 (ecs ⟨⟨x1, x2, x3, x4, x5⟩, x6, x7, x8⟩) W
  refine ⟨W.setCells (w.heap.size + 1 + 1) 1 (ecs ⟨⟨x1, x2, x3, x4, x5⟩, x6, x7, x8⟩), ?_, ⟨h.bo.only ho (by omega), h.br.only ho (by omega), ?_⟩, ho⟩
  · have hr := run_storeCells_cells (P := Try.prog) (w.heap.size + 1 + 1) 1 (ecs ⟨⟨x1, x2, x3, x4, x5⟩, x6, x7, x8⟩) 0 W (fun j hj => by
      rw [ecs_len] at hj
      rw [show 1 + 0 + j = j + 1 by omega, h.ba.cell (j + 1), List.getElem?_cons_succ, List.getElem?_append_left (by omega), List.getElem?_eq_getElem (by omega)]; rfl) (fun j hj => h.ba.free _) (ecs_one _)
    unfold bigS storeVar
    simp only [ecs] at hr
    simp [Try.sizeOf42, Value.cells, hr, ecs]
  · have := setCells_heap h.ba 1 (ecs ⟨⟨x1, x2, x3, x4, x5⟩, x6, x7, x8⟩) (by simp [hm, ecs_len])
    obtain ⟨m0, m1, m2, m3, m4, m5, m6, m7, rfl⟩ := list8 m hm
    exact this

end Go.Proofs.Ytondjponengedaa
