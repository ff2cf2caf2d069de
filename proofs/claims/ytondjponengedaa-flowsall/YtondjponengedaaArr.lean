/-
  Arrays that lie in memory: what is known of their cells, and how that is kept.
-/
import Derived.Test.YtondjponengedaaRnd
import Derived.Test.YtondjponengedaaPart
namespace Go.Proofs.Ytondjponengedaa
open Go.RowKit

/-- The cells of block B are these, and none is frozen. -/
def Ar (w : World) (B : Nat) (xs : List Value) : Prop := B < w.heap.size ∧ ∀ j, j < xs.length → w.cell? ⟨B, j, none⟩ = xs[j]? ∧ w.frozen? ⟨B, j, none⟩ = false

theorem Ar.cell {w : World} {B : Nat} {xs : List Value} (h : Ar w B xs) (j : Nat) {v : Value} (hv : xs[j]? = some v) : w.cell? ⟨B, j, none⟩ = some v := by
  rw [(h.2 j (by
    rcases Nat.lt_or_ge j xs.length with h | h
    · exact h
    · simp [h] at hv)).1, hv]
theorem Ar.free {w : World} {B : Nat} {xs : List Value} (h : Ar w B xs) (j : Nat) (hj : j < xs.length) : w.frozen? ⟨B, j, none⟩ = false := (h.2 j hj).2
theorem Ar.below {w w' : World} {B : Nat} {xs : List Value} (h : Ar w B xs) (hb : Below w.heap.size w w') : Ar w' B xs :=
  ⟨Nat.lt_of_lt_of_le h.1 hb.size, fun j hj => by
    rw [hb.cell (p := ⟨B, j, none⟩) h.1, hb.frozen (p := ⟨B, j, none⟩) h.1]; exact h.2 j hj⟩
theorem Ar.new (w : World) (xs : List Value) (t : TypeId) : Ar (w.alloc (.cells xs.toArray t)) w.heap.size xs :=
  ⟨by simp, fun j hj => by simp [go_sem]⟩
theorem Ar.alloc {w : World} {B : Nat} {xs : List Value} (h : Ar w B xs) (o : Obj) : Ar (w.alloc o) B xs := h.below ((Below.refl _ _).alloc (Nat.le_refl _) o)
theorem Ar.drewN {w : World} {B : Nat} {xs : List Value} (h : Ar w B xs) (k : Nat) : Ar (w.drewN k) B xs := h
theorem Ar.drew {w : World} {B : Nat} {xs : List Value} (h : Ar w B xs) : Ar w.drew B xs := h
theorem Ar.set {w : World} {B : Nat} {xs : List Value} (h : Ar w B xs) (j : Nat) (hj : j < xs.length) (v : Value) : Ar (w.setCell ⟨B, j, none⟩ v) B (xs.set j v) := by
  refine ⟨by simpa using h.1, fun i hi => ?_⟩
  have hi' : i < xs.length := by simpa using hi
  refine ⟨?_, by rw [World.frozen?_setCell]; exact (h.2 i hi').2⟩
  by_cases e : j = i
  · subst e
    have hx : xs[j]? = some xs[j] := List.getElem?_eq_getElem hj
    rw [World.cell?_setCell_same _ _ _ ((h.2 j hj).1.trans hx)]
    simp [hj]
  · rw [World.cell?_setCell_other _ _ _ _ (by simp), (h.2 i hi').1, List.getElem?_set_ne e]
theorem Ar.other {w : World} {B : Nat} {xs : List Value} (h : Ar w B xs) {p : Addr} (hp : p.block ≠ B) (v : Value) : Ar (w.setCell p v) B xs := by
  refine ⟨by simpa using h.1, fun i hi => ?_⟩
  rw [World.frozen?_setCell, World.cell?_setCell_other _ _ _ _ (fun e => hp (by rw [e]))]
  exact h.2 i hi

/-- The four numbers' cells. -/
def V4.cells (v : V4) : List Value := [.int .u64 v.a, .int .u64 v.b, .int .u64 v.c, .int .u64 v.d]

/-- A block of four is written anew, whole. -/
def put4 (w : World) (B : Nat) (v : V4) : World := (((w.setCell ⟨B, 0, none⟩ (.int .u64 v.a)).setCell ⟨B, 1, none⟩ (.int .u64 v.b)).setCell ⟨B, 2, none⟩ (.int .u64 v.c)).setCell ⟨B, 3, none⟩ (.int .u64 v.d)
theorem Ar.put {w : World} {B : Nat} {u : V4} (h : Ar w B u.cells) (v : V4) : Ar (put4 w B v) B v.cells :=
  (((h.set 0 (by simp [V4.cells]) _).set 1 (by simp [V4.cells]) _).set 2 (by simp [V4.cells]) _).set 3 (by simp [V4.cells]) _
theorem Ar.put_other {w : World} {B C : Nat} {xs : List Value} (h : Ar w B xs) (hC : C ≠ B) (v : V4) : Ar (put4 w C v) B xs :=
  (((h.other hC _).other hC _).other hC _).other hC _
theorem below_put {B C : Nat} {w W : World} (h : Below B w W) (hC : B ≤ C) (v : V4) : Below B w (put4 W C v) :=
  (((h.setCell hC _).setCell hC _).setCell hC _).setCell hC _

end Go.Proofs.Ytondjponengedaa
