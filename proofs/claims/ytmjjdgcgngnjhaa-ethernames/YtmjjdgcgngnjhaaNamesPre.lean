/-
  What the walk of EtherNames shares.
-/
import Derived.Test.YtmjjdgcgngnjhaaVirtWalk
import Derived.Test.YtmjjdgcgngnjhaaManys
import Derived.Deep.LoopGhost
import Derived.Deep.RegionHeld3
import Derived.Deep.RegionWith
namespace Go.Proofs.Ytmjjdgcgngnjhaa
open Go.ChangeShapes Go.WideShapes Go.ChangeAt Go.RowKit
set_option linter.unusedVariables false


theorem rVirtual_four (n : Int) (w : World) (h1 : 1 ≤ n) (h2 : n ≤ 255) :
    Calls Try.prog 16 #[.int .i64 n, .bool false] w fun e w' => e = .returned (.tuple #[.agg #[.int .u8 0, .int .u8 0, .int .u8 94, .int .u8 0, .int .u8 1, .int .u8 n], .bool true]) ∧ Below w.heap.size w w' := rVirtual_yes n false w h1 h2
theorem rVirtual_six (n : Int) (w : World) (h1 : 1 ≤ n) (h2 : n ≤ 255) :
    Calls Try.prog 16 #[.int .i64 n, .bool true] w fun e w' => e = .returned (.tuple #[.agg #[.int .u8 0, .int .u8 0, .int .u8 94, .int .u8 0, .int .u8 2, .int .u8 n], .bool true]) ∧ Below w.heap.size w w' := rVirtual_yes n true w h1 h2

section
variable {W0 W : World}
theorem alive_from (h : Below W0.heap.size W0 W) : Calls Try.prog 12 #[] W fun e w' => e = .returned (.bool true) ∧ Below W0.heap.size W0 w' :=
  (alive_any W).mono fun _ _ ⟨he, hb⟩ => ⟨he, below_then h h.size hb⟩
theorem all_from (h : Below W0.heap.size W0 W) : Calls Try.prog 21 #[] W fun e w' => e = .returned (.agg #[.int .u8 255, .int .u8 255, .int .u8 255, .int .u8 255, .int .u8 255, .int .u8 255]) ∧ Below W0.heap.size W0 w' :=
  (all_any W).mono fun _ _ ⟨he, hb⟩ => ⟨he, below_then h h.size hb⟩
theorem group_from {a0 a1 a2 a3 a4 a5 : Int} (h : Below W0.heap.size W0 W) (ha : 0 ≤ a0 ∧ a0 ≤ 255) : Calls Try.prog 17 #[.agg #[.int .u8 a0, .int .u8 a1, .int .u8 a2, .int .u8 a3, .int .u8 a4, .int .u8 a5]] W fun e w' => e = .returned (.bool (a0 % 2 == 1)) ∧ Below W0.heap.size W0 w' :=
  (group_any a0 a1 a2 a3 a4 a5 W ha).mono fun _ _ ⟨he, hb⟩ => ⟨he, below_then h h.size hb⟩
theorem rgroup_from {a0 a1 a2 a3 a4 a5 : Int} (h : Below W0.heap.size W0 W) (ha : 0 ≤ a0 ∧ a0 ≤ 255) : Calls Try.prog 20 #[.agg #[.int .u8 a0, .int .u8 a1, .int .u8 a2, .int .u8 a3, .int .u8 a4, .int .u8 a5]] W fun e w' => e = .returned (.bool (a0 % 2 == 1)) ∧ Below W0.heap.size W0 w' :=
  (rgroup_any a0 a1 a2 a3 a4 a5 W ha).mono fun _ _ ⟨he, hb⟩ => ⟨he, below_then h h.size hb⟩
theorem cells_from (h : Below W0.heap.size W0 W) : ∀ b o, b < W0.heap.size → W.cell? ⟨b, o, none⟩ = W0.cell? ⟨b, o, none⟩ := fun b o hb => h.cell (p := ⟨b, o, none⟩) hb
end

/-- What holds ahead of each of the two rounds. -/
def NmRel (w0 : World) (gg : Nat) (i : Value) (wr : World) : Prop := ∃ k : Nat, k + gg = 2 ∧ i = .int .i64 k ∧ Below w0.heap.size w0 wr
attribute [local go_sem] mac_eq

theorem held_mk {W : World} {B1 B2 B3 : Nat} {x0 x1 x2 x3 x4 x5 m0 m1 m2 m3 m4 m5 : Int} (hx0 : W.cell? ⟨B1, 0, none⟩ = some (.int .u8 x0)) (hx1 : W.cell? ⟨B1, 1, none⟩ = some (.int .u8 x1)) (hx2 : W.cell? ⟨B1, 2, none⟩ = some (.int .u8 x2)) (hx3 : W.cell? ⟨B1, 3, none⟩ = some (.int .u8 x3)) (hx4 : W.cell? ⟨B1, 4, none⟩ = some (.int .u8 x4)) (hx5 : W.cell? ⟨B1, 5, none⟩ = some (.int .u8 x5)) (hm0 : W.cell? ⟨B2, 0, none⟩ = some (.int .u8 m0)) (hm1 : W.cell? ⟨B2, 1, none⟩ = some (.int .u8 m1)) (hm2 : W.cell? ⟨B2, 2, none⟩ = some (.int .u8 m2)) (hm3 : W.cell? ⟨B2, 3, none⟩ = some (.int .u8 m3)) (hm4 : W.cell? ⟨B2, 4, none⟩ = some (.int .u8 m4)) (hm5 : W.cell? ⟨B2, 5, none⟩ = some (.int .u8 m5)) (hy0 : W.cell? ⟨B3, 0, none⟩ = some (.int .u8 m0)) (hy1 : W.cell? ⟨B3, 1, none⟩ = some (.int .u8 m1)) (hy2 : W.cell? ⟨B3, 2, none⟩ = some (.int .u8 m2)) (hy3 : W.cell? ⟨B3, 3, none⟩ = some (.int .u8 m3)) (hy4 : W.cell? ⟨B3, 4, none⟩ = some (.int .u8 m4)) (hy5 : W.cell? ⟨B3, 5, none⟩ = some (.int .u8 m5)) :
    W.cell? ⟨B1, 0, none⟩ = some (.int .u8 x0) ∧ W.cell? ⟨B1, 1, none⟩ = some (.int .u8 x1) ∧ W.cell? ⟨B1, 2, none⟩ = some (.int .u8 x2) ∧ W.cell? ⟨B1, 3, none⟩ = some (.int .u8 x3) ∧ W.cell? ⟨B1, 4, none⟩ = some (.int .u8 x4) ∧ W.cell? ⟨B1, 5, none⟩ = some (.int .u8 x5) ∧ W.cell? ⟨B2, 0, none⟩ = some (.int .u8 m0) ∧ W.cell? ⟨B2, 1, none⟩ = some (.int .u8 m1) ∧ W.cell? ⟨B2, 2, none⟩ = some (.int .u8 m2) ∧ W.cell? ⟨B2, 3, none⟩ = some (.int .u8 m3) ∧ W.cell? ⟨B2, 4, none⟩ = some (.int .u8 m4) ∧ W.cell? ⟨B2, 5, none⟩ = some (.int .u8 m5) ∧ W.cell? ⟨B3, 0, none⟩ = some (.int .u8 m0) ∧ W.cell? ⟨B3, 1, none⟩ = some (.int .u8 m1) ∧ W.cell? ⟨B3, 2, none⟩ = some (.int .u8 m2) ∧ W.cell? ⟨B3, 3, none⟩ = some (.int .u8 m3) ∧ W.cell? ⟨B3, 4, none⟩ = some (.int .u8 m4) ∧ W.cell? ⟨B3, 5, none⟩ = some (.int .u8 m5) :=
  ⟨hx0, hx1, hx2, hx3, hx4, hx5, hm0, hm1, hm2, hm3, hm4, hm5, hy0, hy1, hy2, hy3, hy4, hy5⟩
theorem held_from {W0 W : World} {B1 B2 B3 : Nat} {x0 x1 x2 x3 x4 x5 m0 m1 m2 m3 m4 m5 : Int} (h : Below W0.heap.size W0 W) (hl : B1 < W0.heap.size ∧ B2 < W0.heap.size ∧ B3 < W0.heap.size)
    (hs : W0.cell? ⟨B1, 0, none⟩ = some (.int .u8 x0) ∧ W0.cell? ⟨B1, 1, none⟩ = some (.int .u8 x1) ∧ W0.cell? ⟨B1, 2, none⟩ = some (.int .u8 x2) ∧ W0.cell? ⟨B1, 3, none⟩ = some (.int .u8 x3) ∧ W0.cell? ⟨B1, 4, none⟩ = some (.int .u8 x4) ∧ W0.cell? ⟨B1, 5, none⟩ = some (.int .u8 x5) ∧ W0.cell? ⟨B2, 0, none⟩ = some (.int .u8 m0) ∧ W0.cell? ⟨B2, 1, none⟩ = some (.int .u8 m1) ∧ W0.cell? ⟨B2, 2, none⟩ = some (.int .u8 m2) ∧ W0.cell? ⟨B2, 3, none⟩ = some (.int .u8 m3) ∧ W0.cell? ⟨B2, 4, none⟩ = some (.int .u8 m4) ∧ W0.cell? ⟨B2, 5, none⟩ = some (.int .u8 m5) ∧ W0.cell? ⟨B3, 0, none⟩ = some (.int .u8 m0) ∧ W0.cell? ⟨B3, 1, none⟩ = some (.int .u8 m1) ∧ W0.cell? ⟨B3, 2, none⟩ = some (.int .u8 m2) ∧ W0.cell? ⟨B3, 3, none⟩ = some (.int .u8 m3) ∧ W0.cell? ⟨B3, 4, none⟩ = some (.int .u8 m4) ∧ W0.cell? ⟨B3, 5, none⟩ = some (.int .u8 m5)) :
    W.cell? ⟨B1, 0, none⟩ = some (.int .u8 x0) ∧ W.cell? ⟨B1, 1, none⟩ = some (.int .u8 x1) ∧ W.cell? ⟨B1, 2, none⟩ = some (.int .u8 x2) ∧ W.cell? ⟨B1, 3, none⟩ = some (.int .u8 x3) ∧ W.cell? ⟨B1, 4, none⟩ = some (.int .u8 x4) ∧ W.cell? ⟨B1, 5, none⟩ = some (.int .u8 x5) ∧ W.cell? ⟨B2, 0, none⟩ = some (.int .u8 m0) ∧ W.cell? ⟨B2, 1, none⟩ = some (.int .u8 m1) ∧ W.cell? ⟨B2, 2, none⟩ = some (.int .u8 m2) ∧ W.cell? ⟨B2, 3, none⟩ = some (.int .u8 m3) ∧ W.cell? ⟨B2, 4, none⟩ = some (.int .u8 m4) ∧ W.cell? ⟨B2, 5, none⟩ = some (.int .u8 m5) ∧ W.cell? ⟨B3, 0, none⟩ = some (.int .u8 m0) ∧ W.cell? ⟨B3, 1, none⟩ = some (.int .u8 m1) ∧ W.cell? ⟨B3, 2, none⟩ = some (.int .u8 m2) ∧ W.cell? ⟨B3, 3, none⟩ = some (.int .u8 m3) ∧ W.cell? ⟨B3, 4, none⟩ = some (.int .u8 m4) ∧ W.cell? ⟨B3, 5, none⟩ = some (.int .u8 m5) := by
  have c1 := fun i => h.cell (p := ⟨B1, i, none⟩) hl.1
  have c2 := fun i => h.cell (p := ⟨B2, i, none⟩) hl.2.1
  have c3 := fun i => h.cell (p := ⟨B3, i, none⟩) hl.2.2
  simp only [c1, c2, c3]
  exact hs
theorem held_mk1 {W : World} {B1 : Nat} {x0 x1 x2 x3 x4 x5 : Int} (hx0 : W.cell? ⟨B1, 0, none⟩ = some (.int .u8 x0)) (hx1 : W.cell? ⟨B1, 1, none⟩ = some (.int .u8 x1)) (hx2 : W.cell? ⟨B1, 2, none⟩ = some (.int .u8 x2)) (hx3 : W.cell? ⟨B1, 3, none⟩ = some (.int .u8 x3)) (hx4 : W.cell? ⟨B1, 4, none⟩ = some (.int .u8 x4)) (hx5 : W.cell? ⟨B1, 5, none⟩ = some (.int .u8 x5)) : W.cell? ⟨B1, 0, none⟩ = some (.int .u8 x0) ∧ W.cell? ⟨B1, 1, none⟩ = some (.int .u8 x1) ∧ W.cell? ⟨B1, 2, none⟩ = some (.int .u8 x2) ∧ W.cell? ⟨B1, 3, none⟩ = some (.int .u8 x3) ∧ W.cell? ⟨B1, 4, none⟩ = some (.int .u8 x4) ∧ W.cell? ⟨B1, 5, none⟩ = some (.int .u8 x5) :=
  ⟨hx0, hx1, hx2, hx3, hx4, hx5⟩
theorem held_from1 {W0 W : World} {B1 : Nat} {x0 x1 x2 x3 x4 x5 : Int} (h : Below W0.heap.size W0 W) (hl : B1 < W0.heap.size) (hs : W0.cell? ⟨B1, 0, none⟩ = some (.int .u8 x0) ∧ W0.cell? ⟨B1, 1, none⟩ = some (.int .u8 x1) ∧ W0.cell? ⟨B1, 2, none⟩ = some (.int .u8 x2) ∧ W0.cell? ⟨B1, 3, none⟩ = some (.int .u8 x3) ∧ W0.cell? ⟨B1, 4, none⟩ = some (.int .u8 x4) ∧ W0.cell? ⟨B1, 5, none⟩ = some (.int .u8 x5)) : W.cell? ⟨B1, 0, none⟩ = some (.int .u8 x0) ∧ W.cell? ⟨B1, 1, none⟩ = some (.int .u8 x1) ∧ W.cell? ⟨B1, 2, none⟩ = some (.int .u8 x2) ∧ W.cell? ⟨B1, 3, none⟩ = some (.int .u8 x3) ∧ W.cell? ⟨B1, 4, none⟩ = some (.int .u8 x4) ∧ W.cell? ⟨B1, 5, none⟩ = some (.int .u8 x5) := by
  have c1 := fun i => h.cell (p := ⟨B1, i, none⟩) hl
  simp only [c1]
  exact hs

end Go.Proofs.Ytmjjdgcgngnjhaa
