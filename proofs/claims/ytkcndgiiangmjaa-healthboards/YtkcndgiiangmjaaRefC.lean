/-
  The reference's Cancel.
-/
import Derived.Test.YtkcndgiiangmjaaRef
import Derived.Test.YtkcndgiiangmjaaDoes
namespace Go.Proofs.Ytkcndgiiangmjaa
open Go.RowKit Go.Maps
set_option linter.unusedVariables false
set_option linter.unusedSimpArgs false
set_option maxRecDepth 10000

/-- The two boxes of a reference's function: the wheel that it was given, and its answer. -/
structure Bx (w : World) (N : Nat) (x y z u : Value) : Prop where
  c0 : w.cell? ⟨N, 0, none⟩ = some x
  c1 : w.cell? ⟨N, 1, none⟩ = some y
  r0 : w.cell? ⟨N + 1, 0, none⟩ = some z
  r1 : w.cell? ⟨N + 1, 1, none⟩ = some u
  f0 : w.frozen? ⟨N, 0, none⟩ = false
  f1 : w.frozen? ⟨N, 1, none⟩ = false
  g0 : w.frozen? ⟨N + 1, 0, none⟩ = false
  g1 : w.frozen? ⟨N + 1, 1, none⟩ = false

theorem bx_new (w : World) (x y z u : Value) : Bx ((w.alloc (.cells #[x, y] 46)).alloc (.cells #[z, u] 46)) w.heap.size x y z u := by
  constructor <;> simp [go_sem]
theorem Bx.below {w w' : World} {N : Nat} {x y z u : Value} (h : Bx w N x y z u) {B : Nat} (hb : Below B w w') (hB : N + 2 ≤ B) : Bx w' N x y z u := by
  have e : ∀ p : Addr, p.block < B → w'.cell? p = w.cell? p := fun p hp => World.cell?_of_block (hb.block p.block hp)
  have f : ∀ p : Addr, p.block < B → w'.frozen? p = w.frozen? p := fun p hp => World.frozen?_of_block (hb.block p.block hp)
  exact ⟨(e _ (by simp; omega)).trans h.c0, (e _ (by simp; omega)).trans h.c1, (e _ (by simp; omega)).trans h.r0, (e _ (by simp; omega)).trans h.r1, (f _ (by simp; omega)).trans h.f0, (f _ (by simp; omega)).trans h.f1, (f _ (by simp; omega)).trans h.g0, (f _ (by simp; omega)).trans h.g1⟩

theorem row_set {w : World} {base e size n : Nat} {v : Value} {xs : List Value} (h : w.ownsRow base e size v n xs) {p : Addr} (hp : p.block < base) (u : Value) : (w.setCell p u).ownsRow base e size v n xs :=
  row_only (F := fun g => g < base) h ((Only.refl _ _).setCell (.inl hp) u) (fun g hg hlt => by have := (h.lt g hg).1; omega)
theorem row_put {w : World} {base e size n : Nat} {v : Value} {xs : List Value} (h : w.ownsRow base e size v n xs) {p : Addr} (hp : v.ownBlock ≠ some p.block) (u : Value) : (w.setCell p u).ownsRow base e size v n xs := by
  have ho : Only (fun g => g = p.block) w (w.setCell p u) := Only.setCell (F := fun g => g = p.block) (Only.refl _ w) (Or.inl rfl) u
  exact row_only h ho (fun g hg e => hp (by rw [hg, e]))
theorem row_drew {w : World} {base e size n : Nat} {v : Value} {xs : List Value} (h : w.ownsRow base e size v n xs) : w.drew.ownsRow base e size v n xs := h
theorem row_drewN {w : World} {base e size n : Nat} {v : Value} {xs : List Value} (h : w.ownsRow base e size v n xs) (q : Nat) : (w.drewN q).ownsRow base e size v n xs := h

end Go.Proofs.Ytkcndgiiangmjaa
