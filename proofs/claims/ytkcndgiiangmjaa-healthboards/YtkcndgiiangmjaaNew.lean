/-
  wheel.New.
-/
import Derived.Test.YtkcndgiiangmjaaWh
namespace Go.Proofs.Ytkcndgiiangmjaa
open Go.RowKit Go.Maps
set_option linter.unusedVariables false
set_option linter.unusedSimpArgs false
set_option maxRecDepth 10000

/-- A struct put together, at which the walk stands. -/
def bigB (t : TypeId) (ps : Array (Nat × Value)) : Sem Value := Instr.build t ps
theorem bigB52 (ps : Array (Nat × Value)) : Instr.build 86 ps = bigB 86 ps := rfl
attribute [local go_sem ↓] bigB52

def Z52 : Array Value := #[.int .i64 0, .map none] ++ Array.replicate 448 (.slice none 0 0)
theorem info52 : (Try.prog.info? 86).map (fun i => i.zero) = some (some (.agg Z52)) := by kernel_rfl
theorem zeroV52 (W : World) : (zeroValue 86).run Try.prog W = .ok (.agg Z52) W := by
  have h := info52
  cases hi : Try.prog.info? 86 with
  | none => rw [hi] at h; simp at h
  | some i =>
    rw [hi] at h
    simp only [Option.map_some, Option.some.injEq] at h
    simp [zeroValue, typeInfo, hi, h]
theorem build52 (M : Nat) : ∃ D : Array Value, (∀ W, Sem.run Try.prog (bigB 86 #[(1, .map (some M))]) W = .ok (.agg D) W) ∧ D.size = 450 ∧ D[0]? = some (.int .i64 0) ∧ D[1]? = some (.map (some M)) ∧ ∀ k, k < 448 → D[2 + k]? = some (.slice none 0 0) := by
  refine ⟨Z52.setIfInBounds 1 (.map (some M)), fun W => ?_, by simp [Z52], ?_, ?_, fun k hk => ?_⟩
  · have hv := zeroV52 W
    have hs : Z52.size = 450 := by simp [Z52]
    generalize Z52 = Z at hv hs ⊢
    have hc : (Value.agg Z).cells = Z := rfl
    have hm : (Value.map (some M)).cells = #[.map (some M)] := rfl
    have hf : Instr.fill (fun i => ([(0, 1), (1, 1), (2, 448)] : List (Nat × Nat))[i]?) Z [(1, .map (some M))] = some (Z.setIfInBounds 1 (.map (some M))) := by
      have g1 : ([(0, 1), (1, 1), (2, 448)] : List (Nat × Nat))[1]? = some (1, 1) := rfl
      rw [Instr.fill, g1]
      simp only [hm]
      rw [if_neg (by simp [hs]), Instr.fill]
      simp
    simp [bigB, Instr.build, hv, run_underlying Try.underlying86, hc, Try.sizeOf3, Try.sizeOf82, Try.sizeOf84, hf]
  · rw [Array.getElem?_setIfInBounds_ne (by omega), Z52, Array.getElem?_append_left (by simp)]
    simp
  · rw [Array.getElem?_setIfInBounds_self_of_lt (by simp [Z52])]
  · rw [Array.getElem?_setIfInBounds_ne (by omega), Z52, Array.getElem?_append_right (by simp)]
    simp [hk]

theorem made_tms (w : World) : Tms (w.alloc (.map #[] 0)) w.heap.size [] :=
  ⟨.map [], World.ownsMap_made w _ _ _, rfl, fun x hx => ⟨rfl, rfl⟩⟩

set_option maxHeartbeats 1000000 in
theorem new_any (w : World) : Calls Try.prog 30 #[] w fun e w' => ∃ B F, e = .returned (.pointer (some ⟨B, 0, none⟩)) ∧ Wh w' F B 0 [] [] ∧ (∀ i, F i → w.heap.size ≤ i) ∧ Below w.heap.size w w' := by
  obtain ⟨D, hb, h1, h2, h3, h4⟩ := build52 w.heap.size
  have HD := Lib.hid (And.intro h1 (And.intro h2 (And.intro h3 h4)))
  clear h1 h2 h3 h4
  have hmm := @run_makeMap Try.prog
  go_enter Try.func30, Try.ntmps30
  go_wp2
  go_ret
  have hM : ((w.alloc (.map #[] 0)).alloc (.cells D 86)).heap[w.heap.size]? = (w.alloc (.map #[] 0)).heap[w.heap.size]? := Below.heap_alloc _ _ _ (by simp)
  have hB : ((w.alloc (.map #[] 0)).alloc (.cells D 86)).heap[w.heap.size + 1]? = some (.cells D 86 (0, 0)) := by
    have := heap_alloc_new (w.alloc (.map #[] 0)) (.cells D 86)
    simpa using this
  refine ⟨w.heap.size + 1, fun i => i = w.heap.size ∨ i = w.heap.size + 1, rfl, ⟨w.heap.size, fun _ => .slice none 0 0, ?_⟩, ?_, below_alloc (below_alloc (Below.refl _ _) _) _⟩
  · refine ⟨?_, .inr rfl, .inl rfl, by omega, ⟨D, hB, HD.out⟩, (made_tms w).of_block hM, fun k hk => World.ownsRow_nil _ _ _ _, ?_, ?_⟩
    · rintro i (rfl | rfl)
      · simp; omega
      · simp
    · intro k hk g hg; simp [Value.ownBlock] at hg
    · intro j k hj hk hjk g hg; simp [Value.ownBlock] at hg
  · rintro i (rfl | rfl) <;> omega

end Go.Proofs.Ytkcndgiiangmjaa
