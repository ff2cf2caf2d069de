/-
  The document's set of tracks: its boxes, its value, its state.
-/
import Derived.Test.YtbeacddclphjgaaDown
namespace Go.Proofs.Ytbeacddclphjgaa
open Go.RowKit Go.Maps
set_option linter.unusedVariables false
set_option linter.unusedSimpArgs false
set_option maxRecDepth 10000

theorem setCells_row (g : Nat) (t : TypeId) (fr : Nat × Nat) : ∀ (vs : List Value) (o : Nat) (cur : Array Value) (w : World), w.heap[g]? = some (.cells cur t fr) → o + vs.length ≤ cur.size →
    w.setCells g o vs = w.setRow g (cur.toList.take o ++ vs ++ cur.toList.drop (o + vs.length)).toArray
  | [], o, cur, w, hg, _ => by
    simp only [World.setCells, List.append_nil, List.length_nil, Nat.add_zero, List.take_append_drop, Array.toArray_toList]
    rw [setRow_self w g cur t fr hg]
  | v :: r, o, cur, w, hg, hl => by
    have ih := setCells_row g t fr r (o + 1) (cur.setIfInBounds o v) (w.setRow g (cur.setIfInBounds o v)) (setRow_heap w g cur _ t _ hg) (by simp at hl ⊢; omega)
    rw [World.setCells, setCell_eq_setRow w g o cur t fr v hg, ih, setRow_setRow]
    congr 2
    have e := list_seg_step cur.toList o v r (by simp at hl ⊢; omega)
    simpa [Array.toList_setIfInBounds, Nat.add_assoc] using e
theorem setCells_heap {w : World} {g : Nat} {t : TypeId} {fr : Nat × Nat} {cur : Array Value} (hg : w.heap[g]? = some (.cells cur t fr)) (o : Nat) (vs : List Value) (hl : o + vs.length ≤ cur.size) :
    (w.setCells g o vs).heap[g]? = some (.cells (splice cur.toList o vs).toArray t fr) := by
  rw [setCells_row g t fr vs o cur w hg hl, setRow_heap w g cur _ t _ hg]
  simp [splice]
theorem setCells_grown (g : Nat) : ∀ (vs : List Value) (o : Nat) (w : World), w.grownBy (w.setCells g o vs) (some g)
  | [], _, w => ⟨rfl, rfl, rfl, Nat.le_refl _, fun _ _ _ => rfl⟩
  | v :: r, o, w => by
    have ih := setCells_grown g r (o + 1) (w.setCell ⟨g, o, none⟩ v)
    refine ⟨ih.os, ih.tape, ih.output, by rw [World.setCells]; have := ih.size; simpa using this, fun k hk hne => ?_⟩
    rw [World.setCells, ih.block k (by simpa using hk) hne, Below.heap_setCell _ _ _ _ (fun e => hne (by rw [e]))]

/-- A box: a block of just these cells. -/
def Cb (w : World) (b : Nat) (t : TypeId) (vs : List Value) : Prop := w.heap[b]? = some (.cells vs.toArray t (0, 0))
theorem Cb.below {w w' : World} {b : Nat} {t : TypeId} {vs : List Value} (h : Cb w b t vs) (hb : Below w.heap.size w w') : Cb w' b t vs := (hb.block b (Array.getElem?_eq_some_iff.1 h).1).trans h
theorem Cb.only {w w' : World} {F : Nat → Prop} {b : Nat} {t : TypeId} {vs : List Value} (h : Cb w b t vs) (hb : Only F w w') (hF : ¬ F b) : Cb w' b t vs := (hb.block b (Array.getElem?_eq_some_iff.1 h).1 hF).trans h
theorem Cb.low {w w' : World} {b n : Nat} {t : TypeId} {vs : List Value} (h : Cb w n t vs) (hb : Below b w w') (hn : n < b) : Cb w' n t vs := (hb.block n hn).trans h
theorem Cb.lt {w : World} {b : Nat} {t : TypeId} {vs : List Value} (h : Cb w b t vs) : b < w.heap.size := (Array.getElem?_eq_some_iff.1 h).1
theorem Cb.new (w : World) (vs : List Value) (t : TypeId) : Cb (w.alloc (.cells vs.toArray t)) w.heap.size t vs := heap_alloc_new _ _
theorem Cb.new2 (w : World) (x0 x1 : Value) (t : TypeId) : Cb (w.alloc (.cells #[x0, x1] t)) w.heap.size t [x0, x1] := Cb.new w [x0, x1] t
theorem Cb.new3 (w : World) (x0 x1 x2 : Value) (t : TypeId) : Cb (w.alloc (.cells #[x0, x1, x2] t)) w.heap.size t [x0, x1, x2] := Cb.new w [x0, x1, x2] t
theorem Cb.drew {w : World} {b : Nat} {t : TypeId} {vs : List Value} (h : Cb w b t vs) : Cb w.drew b t vs := h
theorem Cb.drewN {w : World} {b : Nat} {t : TypeId} {vs : List Value} (h : Cb w b t vs) (q : Nat) : Cb (w.drewN q) b t vs := h
theorem Cb.alloc {w : World} {b : Nat} {t : TypeId} {vs : List Value} (h : Cb w b t vs) (o : Obj) : Cb (w.alloc o) b t vs := h.below (below_alloc (Below.refl _ _) o)
theorem Cb.cell {w : World} {b : Nat} {t : TypeId} {vs : List Value} (h : Cb w b t vs) (j : Nat) : w.cell? ⟨b, j, none⟩ = vs[j]? := by
  rw [cell_of_row w b j vs.toArray t (0, 0) h]; simp
theorem Cb.free {w : World} {b : Nat} {t : TypeId} {vs : List Value} (h : Cb w b t vs) (j : Nat) : w.frozen? ⟨b, j, none⟩ = false := frozen_of_row w b j vs.toArray t h
theorem Cb.setAt {w : World} {b : Nat} {t : TypeId} {vs : List Value} (h : Cb w b t vs) (j : Nat) (v : Value) : Cb (w.setCell ⟨b, j, none⟩ v) b t (vs.set j v) := by
  unfold Cb
  rw [heap_setCell_same w b j vs.toArray t v h]
  congr 2
  simp
theorem Cb.two {w : World} {b : Nat} {t : TypeId} {v0 v1 : Value} (h : Cb w b t [v0, v1]) : w.cell? ⟨b, 0, none⟩ = some v0 ∧ w.cell? ⟨b, 1, none⟩ = some v1 := ⟨h.cell 0, h.cell 1⟩
theorem Cb.three {w : World} {b : Nat} {t : TypeId} {v0 v1 v2 : Value} (h : Cb w b t [v0, v1, v2]) : w.cell? ⟨b, 0, none⟩ = some v0 ∧ w.cell? ⟨b, 1, none⟩ = some v1 ∧ w.cell? ⟨b, 2, none⟩ = some v2 := ⟨h.cell 0, h.cell 1, h.cell 2⟩
theorem Cb.four {w : World} {b : Nat} {t : TypeId} {v0 v1 v2 v3 : Value} (h : Cb w b t [v0, v1, v2, v3]) : w.cell? ⟨b, 0, none⟩ = some v0 ∧ w.cell? ⟨b, 1, none⟩ = some v1 ∧ w.cell? ⟨b, 2, none⟩ = some v2 ∧ w.cell? ⟨b, 3, none⟩ = some v3 := ⟨h.cell 0, h.cell 1, h.cell 2, h.cell 3⟩
theorem Cb.new4 (w : World) (x0 x1 x2 x3 : Value) (t : TypeId) : Cb (w.alloc (.cells #[x0, x1, x2, x3] t)) w.heap.size t [x0, x1, x2, x3] := Cb.new w [x0, x1, x2, x3] t
theorem only_below {w W W' : World} {b : Nat} (h : Below w.heap.size w W) (ho : Only (· = b) W W') (hb : w.heap.size ≤ b) : Below w.heap.size w W' :=
  h.trans (Only.below ho h.size fun i hi => by have : i = b := hi; omega)

/-- A struct that is stored, at which the walk stands. -/
def bigS (t : TypeId) (a : Addr) (v : Value) : Sem Unit := storeVar t a v
theorem bigS32 (a : Addr) (v : Value) : storeVar 32 a v = bigS 32 a v := rfl
theorem setCells_only (b i : Nat) (vs : List Value) (w : World) : Only (· = b) w (w.setCells b i vs) := Only.of_grown (setCells_grown b vs i w) fun i hi => by simpa using hi.symm
theorem store_cb {W : World} {b : Nat} {t tt : TypeId} {cur : List Value} (hb : Cb W b tt cur) (vs : List Value) (n : Nat) (hl : cur.length = n) (hv : vs.length = n) (h1 : ∀ v ∈ vs, v.oneCell' = true) (hs : (sizeOf t).run Try.prog W = .ok n W) :
    (bigS t ⟨b, 0, none⟩ (.agg vs.toArray)).run Try.prog W = .ok () (W.setCells b 0 vs) ∧ Cb (W.setCells b 0 vs) b tt vs ∧ Only (· = b) W (W.setCells b 0 vs) := by
  refine ⟨?_, ?_, setCells_only b 0 vs W⟩
  · have hr := run_storeCells_cells (P := Try.prog) b 0 vs 0 W (fun j hj => by
      rw [show 0 + 0 + j = j by omega, hb.cell j, List.getElem?_eq_getElem (by omega)]; rfl) (fun j hj => hb.free _) h1
    have hc : (Value.agg vs.toArray).cells = vs.toArray := rfl
    unfold bigS storeVar
    rw [hc]
    simp [hs, hr, hv]
  · have := setCells_heap hb 0 vs (by simp; omega)
    unfold Cb
    rw [this]
    unfold splice
    congr 2
    simp
    omega
theorem store32 {W : World} {b : Nat} {tt : TypeId} {cur : List Value} (hb : Cb W b tt cur) (hl : cur.length = 3) (x : Int) (v1 v2 : Value) (h1 : v1.oneCell' = true) (h2 : v2.oneCell' = true) :
    ∃ W', (bigS 32 ⟨b, 0, none⟩ (.agg #[.int .i64 x, v1, v2])).run Try.prog W = .ok () W' ∧ Cb W' b tt [.int .i64 x, v1, v2] ∧ Only (· = b) W W' := by
  obtain ⟨h3, h4, h5⟩ := store_cb (t := 32) hb [.int .i64 x, v1, v2] 3 hl rfl (fun u hu => by
    simp only [List.mem_cons, List.not_mem_nil, or_false] at hu
    rcases hu with rfl | rfl | rfl <;> first | rfl | exact h1 | exact h2) (Try.sizeOf32 W)
  exact ⟨_, h3, h4, h5⟩
def Z32 : List Value := [.int .i64 0, .slice none 0 0, .slice none 0 0]
theorem box32 (W : World) (x : Int) (v1 v2 : Value) (h1 : v1.oneCell' = true) (h2 : v2.oneCell' = true) :
    ∃ W', (bigS 32 ⟨W.heap.size, 0, none⟩ (.agg #[.int .i64 x, v1, v2])).run Try.prog (W.alloc (.cells #[.int .i64 0, .slice none 0 0, .slice none 0 0] 32)) = .ok () W' ∧ Cb W' W.heap.size 32 [.int .i64 x, v1, v2] ∧ Below W.heap.size W W' := by
  obtain ⟨W', h3, h4, h5⟩ := store32 (show Cb (W.alloc (.cells #[.int .i64 0, .slice none 0 0, .slice none 0 0] 32)) W.heap.size 32 Z32 from Cb.new W Z32 32) rfl x v1 v2 h1 h2
  exact ⟨W', h3, h4, only_below (below_alloc (Below.refl _ _) _) h5 (Nat.le_refl _)⟩

/-! ## The state -/
def updN (l : List Bk) (f : Nat → Bool) (k : Nat) : List Tk := (List.range k).map fun i => tk l[i]! (f i)
theorem updN_all (l : List Bk) (f : Nat → Bool) : updN l f l.length = upd l f := rfl
theorem updN_next (l : List Bk) (f : Nat → Bool) (k : Nat) : updN l f (k + 1) = updN l f k ++ [tk l[k]! (f k)] := by simp [updN, List.range_succ]
theorem tot_app : ∀ (T U : List Tk), tot (T ++ U) = tot T + tot U
  | [], U => by simp [tot]
  | t :: r, U => by simp only [List.cons_append, tot, tot_app r U]; omega
theorem tot_next (l : List Bk) (f : Nat → Bool) (k : Nat) : tot (updN l f (k + 1)) = tot (updN l f k) + cnt (tk l[k]! (f k)) := by
  rw [updN_next, tot_app]
  simp [tot]
theorem dn_next (l : List Bk) (f : Nat → Bool) (k : Nat) : dn (updN l f (k + 1)) = if f k then dn (updN l f k) else insN (l[k]!).name (dn (updN l f k)) := by
  rw [updN_next]
  unfold dn dnF
  rw [List.foldl_append]
  rfl
theorem fit_at {l : List Bk} (h : Right l) {k : Nat} (hk : k < l.length) : Fit l[k]! := h.2.1 _ (by rw [getElem!_pos l k hk]; exact List.getElem_mem hk)
theorem tot_bd {l : List Bk} (h : Right l) (f : Nat → Bool) : ∀ k, k ≤ l.length → -254 * (k : Int) ≤ tot (updN l f k) ∧ tot (updN l f k) ≤ 254 * (k : Int)
  | 0, _ => by simp [updN, tot]
  | k + 1, hk => by
    have ih := tot_bd h f k (by omega)
    have h1 := cnt_le (t := tk l[k]! (f k)) (fit_at h (k := k) (by omega)).2.2.2
    rw [tot_next]
    omega
/-- The tracks, each up as this row says. -/
def UT (l : List Bk) (ups : List Bool) : List Tk := upd l fun i => ups[i]!
theorem UT_tel {l : List Bk} (h : Apart l) {k : Nat} (hk : k < l.length) {ups : List Bool} (hl : ups.length = l.length) (u : Bool) : tel (UT l ups) (l[k]!).name u = UT l (ups.set k u) := by
  unfold UT
  rw [upd_tel h hk]
  refine upd_congr fun i hi => ?_
  show (if i = k then u else ups[i]!) = (ups.set k u)[i]!
  rw [getElem!_pos (ups.set k u) i (by rw [List.length_set]; omega), List.getElem_set]
  by_cases e : i = k
  · subst e; simp
  · rw [if_neg e, if_neg (fun h => e h.symm), getElem!_pos ups i (by omega)]
theorem UT_fresh (l : List Bk) : UT l (List.replicate l.length false) = fresh l := by
  rw [← upd_fresh]
  refine upd_congr fun i hi => ?_
  show (List.replicate l.length false)[i]! = false
  rw [getElem!_pos _ i (by simpa using hi)]
  simp
theorem upd_at {l : List Bk} (f : Nat → Bool) {k : Nat} (hk : k < l.length) : (upd l f)[k]! = tk l[k]! (f k) ∧ k < (upd l f).length := by
  have h2 : k < (upd l f).length := by simpa [upd] using hk
  refine ⟨?_, h2⟩
  rw [getElem!_pos (upd l f) k h2]
  simp [upd]
theorem upd_okay {l : List Bk} (h : Right l) (f : Nat → Bool) : Okay (upd l f) where
  len := by simpa [upd] using h.1
  fit := fun t ht => by
    unfold upd at ht
    obtain ⟨i, hi, rfl⟩ := List.mem_map.1 ht
    exact fit_at h (List.mem_range.1 hi)
  apart := by
    refine pairwise_name (T := fresh l) ?_ (okay_fresh h).apart
    rw [← upd_fresh]
    unfold upd
    rw [List.map_map, List.map_map]
    rfl
theorem UT_look {l : List Bk} (h : Right l) (ups : List Bool) {k : Nat} (hk : k < l.length) : look (UT l ups) (l[k]!).name = some (tk l[k]! ups[k]!) := by
  obtain ⟨h1, h2⟩ := upd_at (l := l) (fun i => ups[i]!) hk
  have := look_mem (upd_okay h (fun i => ups[i]!)).apart (t := (UT l ups)[k]!) (by unfold UT; rw [getElem!_pos _ k h2]; exact List.getElem_mem h2)
  unfold UT at this ⊢
  rw [h1] at this
  exact this
theorem UT_none {l : List Bk} (ups : List Bool) {x : ByteArray} (h : ∀ i, i < l.length → (l[i]!).name ≠ x) : look (UT l ups) x = none := by
  unfold look
  rw [List.find?_eq_none]
  intro t ht
  unfold UT upd at ht
  obtain ⟨i, hi, rfl⟩ := List.mem_map.1 ht
  have h1 : ¬ (tk l[i]! ups[i]!).name = x := h i (List.mem_range.1 hi)
  simpa using h1

/-! ## In memory -/
def rsv (b : Int) (a : Option Addr) (n c : Nat) (v : Value) : Value := .agg #[.int .i64 b, .slice a n c, v]
/-- The document's set: its tracks, and who of them is up. -/
structure Rs (w : World) (a : Option Addr) (n c : Nat) (v : Value) (l : List Bk) (ups : List Bool) : Prop where
  bk : Bks w a n c l
  len : ups.length = n
  row : w.ownsRow 0 4 1 v n (ucells ups)
theorem Rs.below {w w' : World} {a : Option Addr} {n c : Nat} {v : Value} {l : List Bk} {ups : List Bool} (h : Rs w a n c v l ups) (hb : Below w.heap.size w w') : Rs w' a n c v l ups :=
  ⟨h.bk.below hb, h.len, row_below h.row hb⟩
end Go.Proofs.Ytbeacddclphjgaa
