/-
  Boxes: blocks of just these cells, and what is stored into them as one.
-/
import Derived.Test.YtkcndgiiangmjaaBd
namespace Go.Proofs.Ytkcndgiiangmjaa
open Go.RowKit
set_option linter.unusedVariables false
set_option linter.unusedSimpArgs false
set_option maxRecDepth 10000

/-- A box: a block of just these cells. -/
def Cb (w : World) (b : Nat) (t : TypeId) (vs : List Value) : Prop := w.heap[b]? = some (.cells vs.toArray t (0, 0))
theorem Cb.below {w w' : World} {b : Nat} {t : TypeId} {vs : List Value} (h : Cb w b t vs) (hb : Below w.heap.size w w') : Cb w' b t vs := (hb.block b (Array.getElem?_eq_some_iff.1 h).1).trans h
theorem Cb.only {w w' : World} {F : Nat → Prop} {b : Nat} {t : TypeId} {vs : List Value} (h : Cb w b t vs) (hb : Only F w w') (hF : ¬ F b) : Cb w' b t vs := (hb.block b (Array.getElem?_eq_some_iff.1 h).1 hF).trans h
theorem Cb.low {w w' : World} {b n : Nat} {t : TypeId} {vs : List Value} (h : Cb w n t vs) (hb : Below b w w') (hn : n < b) : Cb w' n t vs := (hb.block n hn).trans h
theorem Cb.lt {w : World} {b : Nat} {t : TypeId} {vs : List Value} (h : Cb w b t vs) : b < w.heap.size := (Array.getElem?_eq_some_iff.1 h).1
theorem Cb.new (w : World) (vs : List Value) (t : TypeId) : Cb (w.alloc (.cells vs.toArray t)) w.heap.size t vs := heap_alloc_new _ _
theorem Cb.new2 (w : World) (x0 x1 : Value) (t : TypeId) : Cb (w.alloc (.cells #[x0, x1] t)) w.heap.size t [x0, x1] := Cb.new w [x0, x1] t
theorem Cb.new3 (w : World) (x0 x1 x2 : Value) (t : TypeId) : Cb (w.alloc (.cells #[x0, x1, x2] t)) w.heap.size t [x0, x1, x2] := Cb.new w [x0, x1, x2] t
theorem Cb.new6 (w : World) (x0 x1 x2 x3 x4 x5 : Value) (t : TypeId) : Cb (w.alloc (.cells #[x0, x1, x2, x3, x4, x5] t)) w.heap.size t [x0, x1, x2, x3, x4, x5] := Cb.new w [x0, x1, x2, x3, x4, x5] t
theorem Cb.drew {w : World} {b : Nat} {t : TypeId} {vs : List Value} (h : Cb w b t vs) : Cb w.drew b t vs := h
theorem Cb.drewN {w : World} {b : Nat} {t : TypeId} {vs : List Value} (h : Cb w b t vs) (q : Nat) : Cb (w.drewN q) b t vs := h
theorem Cb.alloc {w : World} {b : Nat} {t : TypeId} {vs : List Value} (h : Cb w b t vs) (o : Obj) : Cb (w.alloc o) b t vs := h.below (below_alloc (Below.refl _ _) o)
theorem Cb.cell {w : World} {b : Nat} {t : TypeId} {vs : List Value} (h : Cb w b t vs) (j : Nat) : w.cell? ⟨b, j, none⟩ = vs[j]? := by
  rw [cell_of_row w b j vs.toArray t (0, 0) h]; simp
theorem Cb.free {w : World} {b : Nat} {t : TypeId} {vs : List Value} (h : Cb w b t vs) (j : Nat) : w.frozen? ⟨b, j, none⟩ = false := frozen_of_row w b j vs.toArray t h
theorem Cb.setAt {w : World} {b : Nat} {t : TypeId} {vs : List Value} (h : Cb w b t vs) (j : Nat) (v : Value) : Cb (w.setCell ⟨b, j, none⟩ v) b t (vs.set j v) := by
  unfold Cb
  rw [heap_setCell_same w b j vs.toArray t v h]
  congr 2
  simp
theorem Cb.two {w : World} {b : Nat} {t : TypeId} {v0 v1 : Value} (h : Cb w b t [v0, v1]) : w.cell? ⟨b, 0, none⟩ = some v0 ∧ w.cell? ⟨b, 1, none⟩ = some v1 := ⟨h.cell 0, h.cell 1⟩
theorem Cb.three {w : World} {b : Nat} {t : TypeId} {v0 v1 v2 : Value} (h : Cb w b t [v0, v1, v2]) : w.cell? ⟨b, 0, none⟩ = some v0 ∧ w.cell? ⟨b, 1, none⟩ = some v1 ∧ w.cell? ⟨b, 2, none⟩ = some v2 := ⟨h.cell 0, h.cell 1, h.cell 2⟩
theorem Cb.six {w : World} {b : Nat} {t : TypeId} {v0 v1 v2 v3 v4 v5 : Value} (h : Cb w b t [v0, v1, v2, v3, v4, v5]) : w.cell? ⟨b, 0, none⟩ = some v0 ∧ w.cell? ⟨b, 1, none⟩ = some v1 ∧ w.cell? ⟨b, 2, none⟩ = some v2 ∧ w.cell? ⟨b, 3, none⟩ = some v3 ∧ w.cell? ⟨b, 4, none⟩ = some v4 ∧ w.cell? ⟨b, 5, none⟩ = some v5 :=
  ⟨h.cell 0, h.cell 1, h.cell 2, h.cell 3, h.cell 4, h.cell 5⟩

/-- A struct that is stored, at which the walk stands. -/
def bigS (t : TypeId) (a : Addr) (v : Value) : Sem Unit := storeVar t a v
theorem bigS48 (a : Addr) (v : Value) : storeVar 48 a v = bigS 48 a v := rfl
theorem setCells_only (b i : Nat) (vs : List Value) (w : World) : Only (· = b) w (w.setCells b i vs) := Only.of_grown (setCells_grown b vs i w) fun i hi => by simpa using hi.symm
theorem store_cb {W : World} {b : Nat} {t tt : TypeId} {cur : List Value} (hb : Cb W b tt cur) (vs : List Value) (n : Nat) (hl : cur.length = n) (hv : vs.length = n) (h1 : ∀ v ∈ vs, v.oneCell' = true) (hs : (sizeOf t).run Try.prog W = .ok n W) :
    (bigS t ⟨b, 0, none⟩ (.agg vs.toArray)).run Try.prog W = .ok () (W.setCells b 0 vs) ∧ Cb (W.setCells b 0 vs) b tt vs ∧ Only (· = b) W (W.setCells b 0 vs) := by
  refine ⟨?_, ?_, setCells_only b 0 vs W⟩
  · have hr := run_storeCells_cells (P := Try.prog) b 0 vs 0 W (fun j hj => by
      rw [show 0 + 0 + j = j by omega, hb.cell j, List.getElem?_eq_getElem (by omega)]; rfl) (fun j hj => hb.free _) h1
    have hc : (Value.agg vs.toArray).cells = vs.toArray := rfl
    unfold bigS storeVar
    rw [hc]
    simp [hs, hr, hv]
  · have := setCells_heap hb 0 vs (by simp; omega)
    unfold Cb
    rw [this]
    unfold splice
    congr 2
    simp
    omega
theorem store48 {W : World} {b : Nat} {tt : TypeId} {cur : List Value} (hb : Cb W b tt cur) (hl : cur.length = 6) (x0 x1 x2 x4 : Int) (v3 v5 : Value) (h3 : v3.oneCell' = true) (h5 : v5.oneCell' = true) :
    ∃ W', (bigS 48 ⟨b, 0, none⟩ (.agg #[.int .i64 x0, .int .i64 x1, .int .i64 x2, v3, .int .i64 x4, v5])).run Try.prog W = .ok () W' ∧ Cb W' b tt [.int .i64 x0, .int .i64 x1, .int .i64 x2, v3, .int .i64 x4, v5] ∧ Only (· = b) W W' := by
  obtain ⟨h1, h2, h3⟩ := store_cb (t := 48) hb [.int .i64 x0, .int .i64 x1, .int .i64 x2, v3, .int .i64 x4, v5] 6 hl rfl (fun u hu => by
    simp only [List.mem_cons, List.not_mem_nil, or_false] at hu
    rcases hu with rfl | rfl | rfl | rfl | rfl | rfl <;> first | rfl | exact h3 | exact h5) (Try.sizeOf48 W)
  exact ⟨_, h1, h2, h3⟩
theorem only_below {w W W' : World} {b : Nat} (h : Below w.heap.size w W) (ho : Only (· = b) W W') (hb : w.heap.size ≤ b) : Below w.heap.size w W' :=
  h.trans (Only.below ho h.size fun i hi => by have : i = b := hi; omega)
theorem box48 (W : World) (x0 x1 x2 x4 : Int) (v3 v5 : Value) (h3 : v3.oneCell' = true) (h5 : v5.oneCell' = true) :
    ∃ W', (bigS 48 ⟨W.heap.size, 0, none⟩ (.agg #[.int .i64 x0, .int .i64 x1, .int .i64 x2, v3, .int .i64 x4, v5])).run Try.prog (W.alloc (.cells #[.int .i64 0, .int .i64 0, .int .i64 0, .slice none 0 0, .int .i64 0, .slice none 0 0] 48)) = .ok () W' ∧
      Cb W' W.heap.size 48 [.int .i64 x0, .int .i64 x1, .int .i64 x2, v3, .int .i64 x4, v5] ∧ Below W.heap.size W W' := by
  obtain ⟨W', h1, h2, h3⟩ := store48 (show Cb (W.alloc (.cells #[.int .i64 0, .int .i64 0, .int .i64 0, .slice none 0 0, .int .i64 0, .slice none 0 0] 48)) W.heap.size 48 [.int .i64 0, .int .i64 0, .int .i64 0, .slice none 0 0, .int .i64 0, .slice none 0 0] from Cb.new W _ 48) rfl x0 x1 x2 x4 v3 v5 h3 h5
  exact ⟨W', h1, h2, only_below (below_alloc (Below.refl _ _) _) h3 (Nat.le_refl _)⟩

end Go.Proofs.Ytkcndgiiangmjaa
