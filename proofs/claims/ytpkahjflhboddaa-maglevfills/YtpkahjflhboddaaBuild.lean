/-
  A struct of 253 cells is put together.
-/
import Derived.Test.YtpkahjflhboddaaCount
namespace Go.Proofs.Ytpkahjflhboddaa
open Go.RowKit
set_option linter.unusedVariables false
set_option linter.unusedSimpArgs false
set_option maxRecDepth 10000

def sets (off : Nat) : List Value → Nat → Array Value → Array Value
  | [], _, Z => Z
  | v :: r, s, Z => sets off r (s + 1) (Z.setIfInBounds (off + s) v)
theorem sets_size (off : Nat) : ∀ (l : List Value) (s : Nat) (Z : Array Value), (sets off l s Z).size = Z.size
  | [], _, _ => rfl
  | v :: r, s, Z => by rw [sets, sets_size off r]; simp
theorem sets_at (off : Nat) : ∀ (l : List Value) (s : Nat) (Z : Array Value) (q : Nat), off + s + l.length ≤ Z.size → (sets off l s Z)[q]? = if off + s ≤ q ∧ q < off + s + l.length then l[q - (off + s)]? else Z[q]?
  | [], s, Z, q, _ => by rw [sets, if_neg (by simp)]
  | v :: r, s, Z, q, h => by
    simp only [List.length_cons] at h
    rw [sets, sets_at off r (s + 1) _ q (by simp; omega), Array.getElem?_setIfInBounds]
    simp only [List.length_cons]
    by_cases h1 : q = off + s
    · subst h1
      rw [if_neg (by omega), if_pos rfl, if_pos (by omega), if_pos (by omega)]
      simp
    · by_cases h2 : off + s ≤ q ∧ q < off + s + (r.length + 1)
      · rw [if_pos (by omega), if_pos h2, show q - (off + s) = (q - (off + (s + 1))) + 1 by omega, List.getElem?_cons_succ]
      · rw [if_neg (by omega), if_neg (by omega), if_neg h2]
theorem fold_sets (off : Nat) : ∀ (l : List Value) (s : Nat) (Z : Array Value), (l.zipIdx s).foldl (fun cs x => cs.setIfInBounds (off + x.2) x.1) Z = sets off l s Z
  | [], _, _ => rfl
  | v :: r, s, Z => by rw [List.zipIdx_cons, List.foldl_cons, sets, fold_sets off r]
theorem fold_arr (off : Nat) (C Z : Array Value) : C.zipIdx.foldl (fun cs x => cs.setIfInBounds (off + x.2) x.1) Z = sets off C.toList 0 Z := by
  rw [← Array.foldl_toList, Array.toList_zipIdx]
  exact fold_sets off C.toList 0 Z

/-- A struct put together, at which the walk stands. -/
def bigB (t : TypeId) (ps : Array (Nat × Value)) : Sem Value := Instr.build t ps
theorem bigB59 (ps : Array (Nat × Value)) : Instr.build 59 ps = bigB 59 ps := rfl

theorem zero59 : Try.zeroCells59.size = 253 := by decide +kernel
theorem fill59 {C : Array Value} (hC : C.size = 251) (x y : Value) (hx : x.cells = #[x]) (hy : y.cells = #[y]) (Z : Array Value) (hZ : Z.size = 253) :
    Instr.fill (fun i => ([(0, 1), (1, 251), (252, 1)] : List (Nat × Nat))[i]?) Z [(0, x), (1, .agg C), (2, y)] = some (sets 252 [y] 0 (sets 1 C.toList 0 (sets 0 [x] 0 Z))) := by
  have f1 := fold_arr 0 #[x] Z
  have f2 := fold_arr 1 C (sets 0 [x] 0 Z)
  have f3 := fold_arr 252 #[y] (sets 1 C.toList 0 (sets 0 [x] 0 Z))
  have hc : (Value.agg C).cells = C := rfl
  have s1 : (sets 0 [x] 0 Z).size = 253 := by rw [sets_size, hZ]
  have s2 : (sets 1 C.toList 0 (sets 0 [x] 0 Z)).size = 253 := by rw [sets_size, s1]
  have g0 : ([(0, 1), (1, 251), (252, 1)] : List (Nat × Nat))[0]? = some (0, 1) := rfl
  have g1 : ([(0, 1), (1, 251), (252, 1)] : List (Nat × Nat))[1]? = some (1, 251) := rfl
  have g2 : ([(0, 1), (1, 251), (252, 1)] : List (Nat × Nat))[2]? = some (252, 1) := rfl
  rw [Instr.fill, g0]
  simp only [hx]
  rw [if_neg (by simp [hZ]), f1, Instr.fill, g1]
  simp only [hc]
  rw [if_neg (by simp [hC, s1]), f2, Instr.fill, g2]
  simp only [hy]
  rw [if_neg (by simp [s2]), f3, Instr.fill]

theorem build_tab {C : Array Value} (hC : C.size = 251) (x y : Value) (hx : x.cells = #[x]) (hy : y.cells = #[y]) : ∃ D : Array Value, (∀ W, Sem.run Try.prog (bigB 59 #[(0, x), (1, .agg C), (2, y)]) W = .ok (.agg D) W) ∧ D.size = 253 ∧ D[0]? = some x ∧ D[252]? = some y ∧ ∀ j, j < 251 → D[1 + j]? = C[j]? := by
  have hz := zero59
  have s1 : (sets 0 [x] 0 Try.zeroCells59).size = 253 := by rw [sets_size, hz]
  have s2 : (sets 1 C.toList 0 (sets 0 [x] 0 Try.zeroCells59)).size = 253 := by rw [sets_size, s1]
  refine ⟨sets 252 [y] 0 (sets 1 C.toList 0 (sets 0 [x] 0 Try.zeroCells59)), fun W => ?_, by rw [sets_size, s2], ?_, ?_, fun j hj => ?_⟩
  · have hf := fill59 hC x y hx hy Try.zeroCells59 hz
    have hv := Try.zeroValue59 W
    generalize Try.zeroCells59 = Z at hf hv ⊢
    have hc : (Value.agg Z).cells = Z := rfl
    simp [bigB, Instr.build, hv, run_underlying Try.underlying59, hc, Try.sizeOf36, Try.sizeOf55, Try.sizeOf34, hf]
  · rw [sets_at _ _ _ _ _ (by rw [s2]; simp), if_neg (by simp), sets_at _ _ _ _ _ (by rw [s1]; simp [hC]), if_neg (by simp), sets_at _ _ _ _ _ (by rw [hz]; simp), if_pos (by simp)]
    rfl
  · rw [sets_at _ _ _ _ _ (by rw [s2]; simp), if_pos (by simp)]
    rfl
  · rw [sets_at _ _ _ _ _ (by rw [s2]; simp), if_neg (by simp; omega), sets_at _ _ _ _ _ (by rw [s1]; simp [hC]), if_pos (by simp [hC]; omega)]
    simp

end Go.Proofs.Ytpkahjflhboddaa
