/-
  A wheel in memory: its time, its map of times, its slots.
-/
import Derived.Test.YtkcndgiiangmjaaBase
namespace Go.Proofs.Ytkcndgiiangmjaa
open Go.RowKit Go.Maps
set_option linter.unusedVariables false
set_option linter.unusedSimpArgs false
set_option maxRecDepth 10000

/-! ## The map of times -/
theorem keyed3 : Keyed Try.prog 3 := int_keyed Try.underlying3
/-- Block M is a map that holds the times of these. -/
def Tms (w : World) (M : Nat) (T : List Tm) : Prop :=
  ∃ D : DataW Nat, w.ownsMap Try.prog 3 (plainElem Try.prog 3) M T.length D ∧ Maps.size D = T.length ∧ ∀ x : Int, (Lit.int .i64 x).wf = true → Maps.has D (.int .i64 x) = (look T x).isSome ∧ D.atKey (.int .i64 x) (.lit (.int .i64 0)) = .lit (.int .i64 (((look T x).getD 0 : Nat) : Int))

theorem Tms.of_block {w w' : World} {M : Nat} {T : List Tm} (h : Tms w M T) (hb : w'.heap[M]? = w.heap[M]?) : Tms w' M T := by
  obtain ⟨D, ⟨es, clock, h1, h2⟩, h3, h4⟩ := h
  exact ⟨D, ⟨es, clock, hb.trans h1, h2⟩, h3, h4⟩
theorem Tms.lt {w : World} {M : Nat} {T : List Tm} (h : Tms w M T) : M < w.heap.size := by
  obtain ⟨D, h1, _⟩ := h
  exact h1.lt

theorem wf_id {x : Int} (h : -9223372036854775808 ≤ x ∧ x ≤ 9223372036854775807) : (Lit.int .i64 x).wf = true := by
  have h2 : IntKind.i64.min = -9223372036854775808 := by decide
  simp [Lit.wf, h2, h]

/-! ## The wheel -/
structure WhS (w : World) (F : Nat → Prop) (B M : Nat) (sl : Nat → Value) (now : Nat) (L T : List Tm) : Prop where
  lt : ∀ i, F i → i < w.heap.size
  inB : F B
  inM : F M
  ne : B ≠ M
  obj : ∃ cur : Array Value, w.heap[B]? = some (.cells cur 86 (0, 0)) ∧ cur.size = 450 ∧ cur[0]? = some (.int .i64 now) ∧ cur[1]? = some (.map (some M)) ∧ ∀ k, k < 448 → cur[2 + k]? = some (sl k)
  map : Tms w M T
  row : ∀ k, k < 448 → w.ownsRow 0 90 2 (sl k) (slot now L k).length (tcells (slot now L k))
  own : ∀ k, k < 448 → ∀ g, (sl k).ownBlock = some g → F g ∧ g ≠ B ∧ g ≠ M
  apart : ∀ j k, j < 448 → k < 448 → j ≠ k → ∀ g, (sl j).ownBlock = some g → (sl k).ownBlock ≠ some g

def Wh (w : World) (F : Nat → Prop) (B now : Nat) (L T : List Tm) : Prop := ∃ M sl, WhS w F B M sl now L T

theorem WhS.only {w w' : World} {F G : Nat → Prop} {B M now : Nat} {sl : Nat → Value} {L T : List Tm} (h : WhS w F B M sl now L T) (ho : Only G w w') (hG : ∀ i, F i → ¬ G i) : WhS w' F B M sl now L T where
  lt := fun i hi => Nat.lt_of_lt_of_le (h.lt i hi) ho.size
  inB := h.inB
  inM := h.inM
  ne := h.ne
  obj := by
    obtain ⟨cur, h1, h2⟩ := h.obj
    exact ⟨cur, (ho.block B (h.lt B h.inB) (hG B h.inB)).trans h1, h2⟩
  map := h.map.of_block (ho.block M (h.lt M h.inM) (hG M h.inM))
  row := fun k hk => row_only (h.row k hk) ho fun g hg => hG g (h.own k hk g hg).1
  own := h.own
  apart := h.apart
theorem Wh.only {w w' : World} {F G : Nat → Prop} {B now : Nat} {L T : List Tm} (h : Wh w F B now L T) (ho : Only G w w') (hG : ∀ i, F i → ¬ G i) : Wh w' F B now L T := by
  obtain ⟨M, sl, h⟩ := h
  exact ⟨M, sl, h.only ho hG⟩
theorem WhS.below {w w' : World} {F : Nat → Prop} {B M now : Nat} {sl : Nat → Value} {L T : List Tm} (h : WhS w F B M sl now L T) (hb : Below w.heap.size w w') : WhS w' F B M sl now L T :=
  h.only (G := fun _ => False) (Only.of_below hb) fun _ _ h => h
theorem Wh.below {w w' : World} {F : Nat → Prop} {B now : Nat} {L T : List Tm} (h : Wh w F B now L T) (hb : Below w.heap.size w w') : Wh w' F B now L T := by
  obtain ⟨M, sl, h⟩ := h
  exact ⟨M, sl, h.below hb⟩

section
variable {w : World} {F : Nat → Prop} {B M now : Nat} {sl : Nat → Value} {L T : List Tm}
theorem WhS.cells (h : WhS w F B M sl now L T) : w.cell? ⟨B, 0, none⟩ = some (.int .i64 now) ∧ w.cell? ⟨B, 1, none⟩ = some (.map (some M)) ∧ ∀ k, k < 448 → w.cell? ⟨B, 2 + k, none⟩ = some (sl k) := by
  obtain ⟨cur, h1, h2, h3, h4, h5⟩ := h.obj
  refine ⟨?_, ?_, fun k hk => ?_⟩
  · rw [cell_of_row w B 0 cur 86 (0, 0) h1]; exact h3
  · rw [cell_of_row w B 1 cur 86 (0, 0) h1]; exact h4
  · rw [cell_of_row w B (2 + k) cur 86 (0, 0) h1]; exact h5 k hk
theorem WhS.free (h : WhS w F B M sl now L T) (j : Nat) : w.frozen? ⟨B, j, none⟩ = false := by
  obtain ⟨cur, h1, _⟩ := h.obj
  exact frozen_of_row w B j cur 86 h1

/-- A slot is turned, and its new row laid into it. -/
theorem WhS.put (h : WhS w F B M sl now L T) {k : Nat} (hk : k < 448) {w1 : World} {v' : Value} {L' : List Tm} (ho : Only (fun i => (sl k).ownBlock = some i) w w1)
    (hr : w1.ownsRow 0 90 2 v' (slot now L' k).length (tcells (slot now L' k))) (hb : v'.ownBlock = (sl k).ownBlock ∨ ∀ g, v'.ownBlock = some g → w.heap.size ≤ g) (hL : ∀ j, j ≠ k → slot now L' j = slot now L j) :
    ∃ F' sl', WhS (w1.setCell ⟨B, 2 + k, none⟩ v') F' B M sl' now L' T ∧ (∀ i, F' i → F i ∨ w.heap.size ≤ i) ∧ Only F w (w1.setCell ⟨B, 2 + k, none⟩ v') := by
  have hBlt := h.lt B h.inB
  have hMlt := h.lt M h.inM
  have hvlt : ∀ g, v'.ownBlock = some g → g < w1.heap.size := fun g hg => (hr.lt g hg).2
  have hvB : ∀ g, v'.ownBlock = some g → g ≠ B ∧ g ≠ M := fun g hg => by
    rcases hb with e | e
    · exact (h.own k hk g (e ▸ hg)).2
    · have := e g hg; omega
  have hone : ∀ i, (sl k).ownBlock = some i → F i := fun i hi => (h.own k hk i hi).1
  have hB1 : w1.heap[B]? = w.heap[B]? := ho.block B hBlt fun e => (h.own k hk B e).2.1 rfl
  have hM1 : w1.heap[M]? = w.heap[M]? := ho.block M hMlt fun e => (h.own k hk M e).2.2 rfl
  have hset : ∀ i, i ≠ B → (w1.setCell ⟨B, 2 + k, none⟩ v').heap[i]? = w1.heap[i]? := fun i hi => Below.heap_setCell _ _ _ _ hi
  refine ⟨fun i => F i ∨ v'.ownBlock = some i, fun j => if j = k then v' else sl j, ⟨?_, .inl h.inB, .inl h.inM, h.ne, ?_, ?_, ?_, ?_, ?_⟩, ?_, ?_⟩
  · rintro i (hi | hi)
    · have := h.lt i hi; have := ho.size; simp; omega
    · have := hvlt i hi; simpa using this
  · obtain ⟨cur, h1, h2, h3, h4, h5⟩ := h.obj
    refine ⟨cur.setIfInBounds (2 + k) v', heap_setCell_same w1 B (2 + k) cur 86 v' (hB1.trans h1), by simp [h2], ?_, ?_, fun j hj => ?_⟩
    · rw [Array.getElem?_setIfInBounds_ne (by omega)]; exact h3
    · rw [Array.getElem?_setIfInBounds_ne (by omega)]; exact h4
    · by_cases e : j = k
      · subst e
        simp only [if_true]
        rw [Array.getElem?_setIfInBounds_self_of_lt (by omega)]
      · rw [if_neg e, Array.getElem?_setIfInBounds_ne (by omega)]; exact h5 j hj
  · exact (h.map.of_block hM1).of_block (hset M (Ne.symm h.ne))
  · intro j hj
    have hoB : Only (fun i => i = B) w1 (w1.setCell ⟨B, 2 + k, none⟩ v') := (Only.refl (fun i => i = B) w1).setCell (p := ⟨B, 2 + k, none⟩) (.inl rfl) v'
    by_cases e : j = k
    · subst e
      simp only [if_true]
      exact row_only hr hoB fun g hg => (hvB g hg).1
    · rw [if_neg e, hL j e]
      exact row_only (row_only (h.row j hj) ho fun g hg e2 => h.apart j k hj hk e g hg e2) hoB fun g hg => (h.own j hj g hg).2.1
  · intro j hj g hg
    by_cases e : j = k
    · subst e
      simp only [if_true] at hg
      exact ⟨.inr hg, hvB g hg⟩
    · rw [if_neg e] at hg
      exact ⟨.inl (h.own j hj g hg).1, (h.own j hj g hg).2⟩
  · intro i j hi hj hij g hg hg2
    by_cases e : i = k
    · subst e
      simp only [if_true] at hg
      rw [if_neg (Ne.symm hij)] at hg2
      rcases hb with e | e
      · exact h.apart i j hi hj hij g (e ▸ hg) hg2
      · have := e g hg; have := h.lt g (h.own j hj g hg2).1; omega
    · rw [if_neg e] at hg
      by_cases e2 : j = k
      · subst e2
        simp only [if_true] at hg2
        rcases hb with e3 | e3
        · exact h.apart i j hi hj hij g hg (e3 ▸ hg2)
        · have := e3 g hg2; have := h.lt g (h.own i hi g hg).1; omega
      · rw [if_neg e2] at hg2
        exact h.apart i j hi hj hij g hg hg2
  · rintro i (hi | hi)
    · exact .inl hi
    · rcases hb with e | e
      · exact .inl (hone i (e ▸ hi))
      · exact .inr (e i hi)
  · exact (ho.mono hone).setCell (.inl h.inB) _
end

end Go.Proofs.Ytkcndgiiangmjaa
