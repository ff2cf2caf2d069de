/-
  Structs that are stored, as one step.
-/
import Derived.Test.YtpcdaidgijkkbaaVsmall
namespace Go.Proofs.Ytpcdaidgijkkbaa
open Go.RowKit Go.Maps
set_option linter.unusedVariables false
set_option linter.unusedSimpArgs false
set_option maxRecDepth 40000

theorem setCells_row (g : Nat) (t : TypeId) (fr : Nat × Nat) : ∀ (vs : List Value) (o : Nat) (cur : Array Value) (w : World), w.heap[g]? = some (.cells cur t fr) → o + vs.length ≤ cur.size →
    w.setCells g o vs = w.setRow g (cur.toList.take o ++ vs ++ cur.toList.drop (o + vs.length)).toArray
  | [], o, cur, w, hg, _ => by
    simp only [World.setCells, List.append_nil, List.length_nil, Nat.add_zero, List.take_append_drop, Array.toArray_toList]
    rw [setRow_self w g cur t fr hg]
  | v :: r, o, cur, w, hg, hl => by
    have ih := setCells_row g t fr r (o + 1) (cur.setIfInBounds o v) (w.setRow g (cur.setIfInBounds o v)) (setRow_heap w g cur _ t _ hg) (by simp at hl ⊢; omega)
    rw [World.setCells, setCell_eq_setRow w g o cur t fr v hg, ih, setRow_setRow]
    congr 2
    have e := list_seg_step cur.toList o v r (by simp at hl ⊢; omega)
    simpa [Array.toList_setIfInBounds, Nat.add_assoc] using e
theorem setCells_heap {w : World} {g : Nat} {t : TypeId} {fr : Nat × Nat} {cur : Array Value} (hg : w.heap[g]? = some (.cells cur t fr)) (o : Nat) (vs : List Value) (hl : o + vs.length ≤ cur.size) :
    (w.setCells g o vs).heap[g]? = some (.cells (splice cur.toList o vs).toArray t fr) := by
  rw [setCells_row g t fr vs o cur w hg hl, setRow_heap w g cur _ t _ hg]
  simp [splice]
theorem setCells_grown (g : Nat) : ∀ (vs : List Value) (o : Nat) (w : World), w.grownBy (w.setCells g o vs) (some g)
  | [], _, w => ⟨rfl, rfl, rfl, Nat.le_refl _, fun _ _ _ => rfl⟩
  | v :: r, o, w => by
    have ih := setCells_grown g r (o + 1) (w.setCell ⟨g, o, none⟩ v)
    refine ⟨ih.os, ih.tape, ih.output, by rw [World.setCells]; have := ih.size; simpa using this, fun k hk hne => ?_⟩
    rw [World.setCells, ih.block k (by simpa using hk) hne, Below.heap_setCell _ _ _ _ (fun e => hne (by rw [e]))]

theorem only_below {w W W' : World} {b : Nat} (h : Below w.heap.size w W) (ho : Only (· = b) W W') (hb : w.heap.size ≤ b) : Below w.heap.size w W' :=
  h.trans (Only.below ho h.size fun i hi => by have : i = b := hi; omega)

/-- A struct that is stored, at which the walk stands. -/
def bigS (t : TypeId) (a : Addr) (v : Value) : Sem Unit := storeVar t a v
theorem bigS25 (a : Addr) (v : Value) : storeVar 25 a v = bigS 25 a v := rfl
theorem bigS31 (a : Addr) (v : Value) : storeVar 31 a v = bigS 31 a v := rfl
theorem bigS34 (a : Addr) (v : Value) : storeVar 34 a v = bigS 34 a v := rfl
theorem bigS39 (a : Addr) (v : Value) : storeVar 39 a v = bigS 39 a v := rfl
theorem bigS55 (a : Addr) (v : Value) : storeVar 55 a v = bigS 55 a v := rfl
theorem bigS58 (a : Addr) (v : Value) : storeVar 58 a v = bigS 58 a v := rfl
theorem bigS66 (a : Addr) (v : Value) : storeVar 66 a v = bigS 66 a v := rfl
theorem bigS72 (a : Addr) (v : Value) : storeVar 72 a v = bigS 72 a v := rfl
theorem bigS78 (a : Addr) (v : Value) : storeVar 78 a v = bigS 78 a v := rfl
theorem setCells_only (b i : Nat) (vs : List Value) (w : World) : Only (· = b) w (w.setCells b i vs) := Only.of_grown (setCells_grown b vs i w) fun i hi => by simpa using hi.symm
theorem store_cb {W : World} {b : Nat} {t tt : TypeId} {cur : List Value} (hb : Cb W b tt cur) (vs : List Value) (n : Nat) (hl : cur.length = n) (hv : vs.length = n) (h1 : ∀ v ∈ vs, v.oneCell' = true) (hs : (sizeOf t).run Try.prog W = .ok n W) :
    (bigS t ⟨b, 0, none⟩ (.agg vs.toArray)).run Try.prog W = .ok () (W.setCells b 0 vs) ∧ Cb (W.setCells b 0 vs) b tt vs ∧ Only (· = b) W (W.setCells b 0 vs) := by
  refine ⟨?_, ?_, setCells_only b 0 vs W⟩
  · have hr := run_storeCells_cells (P := Try.prog) b 0 vs 0 W (fun j hj => by
      rw [show 0 + 0 + j = j by omega, hb.cell j, List.getElem?_eq_getElem (by omega)]; rfl) (fun j hj => hb.free _) h1
    have hc : (Value.agg vs.toArray).cells = vs.toArray := rfl
    unfold bigS storeVar
    rw [hc]
    simp [hs, hr, hv]
  · have := setCells_heap hb 0 vs (by simp; omega)
    unfold Cb
    rw [this]
    unfold splice
    congr 2
    simp
    omega
theorem store55 {W : World} {b : Nat} {tt : TypeId} {cur : List Value} (hb : Cb W b tt cur) (hl : cur.length = 4) (x0 : Int) (x1 : Int) (x2 : Int) (x3 : Value) (h3 : x3.oneCell' = true) :
    ∃ W', (bigS 55 ⟨b, 0, none⟩ (.agg #[.int .i64 x0, .int .i64 x1, .int .i64 x2, x3])).run Try.prog W = .ok () W' ∧ Cb W' b tt [.int .i64 x0, .int .i64 x1, .int .i64 x2, x3] ∧ Only (· = b) W W' := by
  obtain ⟨h3, h4, h5⟩ := store_cb (t := 55) hb [.int .i64 x0, .int .i64 x1, .int .i64 x2, x3] 4 hl rfl (fun u hu => by
    simp only [List.mem_cons, List.not_mem_nil, or_false] at hu
    rcases hu with rfl | rfl | rfl | rfl <;> first | rfl | exact h3) (Try.sizeOf55 W)
  exact ⟨_, h3, h4, h5⟩
theorem store39 {W : World} {b : Nat} {tt : TypeId} {cur : List Value} (hb : Cb W b tt cur) (hl : cur.length = 4) (x0 : Int) (x1 : Int) (x2 : Int) (x3 : Value) (h3 : x3.oneCell' = true) :
    ∃ W', (bigS 39 ⟨b, 0, none⟩ (.agg #[.int .i64 x0, .int .i64 x1, .int .i64 x2, x3])).run Try.prog W = .ok () W' ∧ Cb W' b tt [.int .i64 x0, .int .i64 x1, .int .i64 x2, x3] ∧ Only (· = b) W W' := by
  obtain ⟨h3, h4, h5⟩ := store_cb (t := 39) hb [.int .i64 x0, .int .i64 x1, .int .i64 x2, x3] 4 hl rfl (fun u hu => by
    simp only [List.mem_cons, List.not_mem_nil, or_false] at hu
    rcases hu with rfl | rfl | rfl | rfl <;> first | rfl | exact h3) (Try.sizeOf39 W)
  exact ⟨_, h3, h4, h5⟩
theorem store58 {W : World} {b : Nat} {tt : TypeId} {cur : List Value} (hb : Cb W b tt cur) (hl : cur.length = 5) (x0 : Int) (x1 : Int) (x2 : Int) (x3 : Int) (x4 : Value) (h4 : x4.oneCell' = true) :
    ∃ W', (bigS 58 ⟨b, 0, none⟩ (.agg #[.int .i64 x0, .int .i64 x1, .int .i64 x2, .int .i64 x3, x4])).run Try.prog W = .ok () W' ∧ Cb W' b tt [.int .i64 x0, .int .i64 x1, .int .i64 x2, .int .i64 x3, x4] ∧ Only (· = b) W W' := by
  obtain ⟨h3, h4, h5⟩ := store_cb (t := 58) hb [.int .i64 x0, .int .i64 x1, .int .i64 x2, .int .i64 x3, x4] 5 hl rfl (fun u hu => by
    simp only [List.mem_cons, List.not_mem_nil, or_false] at hu
    rcases hu with rfl | rfl | rfl | rfl | rfl <;> first | rfl | exact h4) (Try.sizeOf58 W)
  exact ⟨_, h3, h4, h5⟩
theorem store78 {W : World} {b : Nat} {tt : TypeId} {cur : List Value} (hb : Cb W b tt cur) (hl : cur.length = 5) (x0 : Int) (x1 : Int) (x2 : Int) (x3 : Int) (x4 : Value) (h4 : x4.oneCell' = true) :
    ∃ W', (bigS 78 ⟨b, 0, none⟩ (.agg #[.int .i64 x0, .int .i64 x1, .int .i64 x2, .int .i64 x3, x4])).run Try.prog W = .ok () W' ∧ Cb W' b tt [.int .i64 x0, .int .i64 x1, .int .i64 x2, .int .i64 x3, x4] ∧ Only (· = b) W W' := by
  obtain ⟨h3, h4, h5⟩ := store_cb (t := 78) hb [.int .i64 x0, .int .i64 x1, .int .i64 x2, .int .i64 x3, x4] 5 hl rfl (fun u hu => by
    simp only [List.mem_cons, List.not_mem_nil, or_false] at hu
    rcases hu with rfl | rfl | rfl | rfl | rfl <;> first | rfl | exact h4) (Try.sizeOf78 W)
  exact ⟨_, h3, h4, h5⟩
theorem store34 {W : World} {b : Nat} {tt : TypeId} {cur : List Value} (hb : Cb W b tt cur) (hl : cur.length = 10) (x0 : Int) (x1 : Int) (x2 : Int) (x3 : Bool) (x4 : ByteArray) (x5 : Value) (x6 : Int) (x7 : Int) (x8 : Int) (x9 : Value) (h5 : x5.oneCell' = true) (h9 : x9.oneCell' = true) :
    ∃ W', (bigS 34 ⟨b, 0, none⟩ (.agg #[.int .i64 x0, .int .i64 x1, .int .i64 x2, .bool x3, .string x4, x5, .int .i64 x6, .int .i64 x7, .int .i64 x8, x9])).run Try.prog W = .ok () W' ∧ Cb W' b tt [.int .i64 x0, .int .i64 x1, .int .i64 x2, .bool x3, .string x4, x5, .int .i64 x6, .int .i64 x7, .int .i64 x8, x9] ∧ Only (· = b) W W' := by
  obtain ⟨h3, h4, h5⟩ := store_cb (t := 34) hb [.int .i64 x0, .int .i64 x1, .int .i64 x2, .bool x3, .string x4, x5, .int .i64 x6, .int .i64 x7, .int .i64 x8, x9] 10 hl rfl (fun u hu => by
    simp only [List.mem_cons, List.not_mem_nil, or_false] at hu
    rcases hu with rfl | rfl | rfl | rfl | rfl | rfl | rfl | rfl | rfl | rfl <;> first | rfl | exact h5 | exact h9) (Try.sizeOf34 W)
  exact ⟨_, h3, h4, h5⟩
theorem row_one {w : World} {base e size n : Nat} {v : Value} {xs : List Value} (h : w.ownsRow base e size v n xs) : v.oneCell' = true := by
  obtain ⟨a, c, rfl, _⟩ := row_any h
  rfl
end Go.Proofs.Ytpcdaidgijkkbaa
