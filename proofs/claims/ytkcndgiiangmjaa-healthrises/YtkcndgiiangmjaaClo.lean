/-
  What Move's closure does with a timer: it is told, or kept for later.
-/
import Derived.Test.YtkcndgiiangmjaaCancel
namespace Go.Proofs.Ytkcndgiiangmjaa
open Go.RowKit Go.Maps
set_option linter.unusedVariables false
set_option linter.unusedSimpArgs false
set_option maxRecDepth 10000

def icells (xs : List Int) : List Value := xs.map (Value.int .i64)
theorem icells_len (xs : List Int) : (icells xs).length = xs.length := by simp [icells]
theorem ids_len (l : List Tm) : (ids l).length = l.length := by simp [ids]

/-- What stands in memory while Move goes through what is due. -/
structure MS (w W : World) (F : Nat → Prop) (B M : Nat) (sl : Nat → Value) (now m : Nat) (L P R : List Tm) (v5 v6 : Value) : Prop where
  wh : WhS W F B M sl now L (left P m ++ R)
  only : Only F w W
  c2 : W.cell? ⟨w.heap.size, 0, none⟩ = some (.pointer (some ⟨B, 0, none⟩))
  c3 : W.cell? ⟨w.heap.size + 1, 0, none⟩ = some (.int .i64 m)
  c5 : W.cell? ⟨w.heap.size + 2, 0, none⟩ = some v5
  f5 : W.frozen? ⟨w.heap.size + 2, 0, none⟩ = false
  c6 : W.cell? ⟨w.heap.size + 3, 0, none⟩ = some v6
  f6 : W.frozen? ⟨w.heap.size + 3, 0, none⟩ = false
  r5 : W.ownsRow (w.heap.size + 4) 3 1 v5 (due P m).length (icells (ids (due P m)))
  r6 : W.ownsRow (w.heap.size + 4) 90 2 v6 (left P m).length (tcells (left P m))
  ap : ∀ g, v5.ownBlock = some g → v6.ownBlock ≠ some g
  sz : w.heap.size + 4 ≤ W.heap.size

section
variable {w W : World} {F : Nat → Prop} {B M : Nat} {sl : Nat → Value} {now m : Nat} {L P R : List Tm} {v5 v6 : Value}
theorem MS.below (h : MS w W F B M sl now m L P R v5 v6) {W' : World} (hb : Below W.heap.size W W') : MS w W' F B M sl now m L P R v5 v6 where
  wh := h.wh.below hb
  only := h.only.trans (Only.of_below (F := F) hb) fun i hi => .inl hi
  c2 := by rw [hb.cell (p := ⟨w.heap.size, 0, none⟩) (by have := h.sz; simp only; omega)]; exact h.c2
  c3 := by rw [hb.cell (p := ⟨w.heap.size + 1, 0, none⟩) (by have := h.sz; simp only; omega)]; exact h.c3
  c5 := by rw [hb.cell (p := ⟨w.heap.size + 2, 0, none⟩) (by have := h.sz; simp only; omega)]; exact h.c5
  f5 := by rw [hb.frozen (p := ⟨w.heap.size + 2, 0, none⟩) (by have := h.sz; simp only; omega)]; exact h.f5
  c6 := by rw [hb.cell (p := ⟨w.heap.size + 3, 0, none⟩) (by have := h.sz; simp only; omega)]; exact h.c6
  f6 := by rw [hb.frozen (p := ⟨w.heap.size + 3, 0, none⟩) (by have := h.sz; simp only; omega)]; exact h.f6
  r5 := row_below h.r5 hb
  r6 := row_below h.r6 hb
  ap := h.ap
  sz := Nat.le_trans h.sz hb.size

theorem left_snoc (P : List Tm) (t : Tm) (m : Nat) : left (P ++ [t]) m = if t.at_ ≤ m then left P m else left P m ++ [t] := by
  unfold left
  rw [List.filter_append]
  by_cases h : t.at_ ≤ m
  · rw [if_pos h]
    have e : [t].filter (fun t => !decide (t.at_ ≤ m)) = [] := List.filter_eq_nil_iff.2 fun x hx => by simp at hx; subst hx; simp [h]
    rw [e, List.append_nil]
  · rw [if_neg h]
    have e : [t].filter (fun t => !decide (t.at_ ≤ m)) = [t] := List.filter_eq_self.2 fun x hx => by simp at hx; subst hx; simp [h]
    rw [e]
theorem due_snoc (P : List Tm) (t : Tm) (m : Nat) : due (P ++ [t]) m = if t.at_ ≤ m then due P m ++ [t] else due P m := by
  unfold due
  rw [List.filter_append]
  by_cases h : t.at_ ≤ m
  · rw [if_pos h]
    have e : [t].filter (fun t => decide (t.at_ ≤ m)) = [t] := List.filter_eq_self.2 fun x hx => by simp at hx; subst hx; simp [h]
    rw [e]
  · rw [if_neg h]
    have e : [t].filter (fun t => decide (t.at_ ≤ m)) = [] := List.filter_eq_nil_iff.2 fun x hx => by simp at hx; subst hx; simp [h]
    rw [e, List.append_nil]

/-- A timer is kept for later. -/
theorem MS.later {t : Tm} (h : MS w W F B M sl now m L P (t :: R) v5 v6) (hF : ∀ i, F i → i < w.heap.size) (ht : m < t.at_) {W1 : World} {v' : Value}
    (hr : W1.ownsRow (w.heap.size + 4) 90 2 v' ((left P m).length + 1) (tcells (left P m) ++ [.int .i64 t.id, .int .i64 t.at_])) (hg : W.grownBy W1 v6.ownBlock) (hb : v'.ownBlock = v6.ownBlock ∨ ∀ g, v'.ownBlock = some g → W.heap.size ≤ g) :
    MS w (W1.setCell ⟨w.heap.size + 3, 0, none⟩ v') F B M sl now m L (P ++ [t]) R v5 v' := by
  have h6 : ∀ g, v6.ownBlock = some g → w.heap.size + 4 ≤ g := fun g hg => (h.r6.lt g hg).1
  have h5 : ∀ g, v5.ownBlock = some g → w.heap.size + 4 ≤ g := fun g hg => (h.r5.lt g hg).1
  have hsz := h.sz
  have ho : Only (fun i => w.heap.size + 3 ≤ i ∧ v5.ownBlock ≠ some i) W (W1.setCell ⟨w.heap.size + 3, 0, none⟩ v') :=
    (Only.of_grown (F := fun i => w.heap.size + 3 ≤ i ∧ v5.ownBlock ≠ some i) hg (fun i hi => ⟨by have := h6 i hi; omega, fun e => h.ap i e hi⟩)).setCell (p := ⟨w.heap.size + 3, 0, none⟩) (.inl ⟨Nat.le_refl _, fun e => by have := h5 (w.heap.size + 3) e; omega⟩) _
  have hc6 : W1.cell? ⟨w.heap.size + 3, 0, none⟩ = some v6 := by
    rw [World.cell?_of_block (a := ⟨w.heap.size + 3, 0, none⟩) (hg.block (w.heap.size + 3) (by omega) (fun e => by have := h6 (w.heap.size + 3) e.symm; omega))]; exact h.c6
  have e1 : left (P ++ [t]) m = left P m ++ [t] := by rw [left_snoc, if_neg (by omega)]
  have e2 : due (P ++ [t]) m = due P m := by rw [due_snoc, if_neg (by omega)]
  refine ⟨?_, ?_, ?_, ?_, ?_, ?_, ?_, ?_, ?_, ?_, ?_, ?_⟩
  · have := h.wh.only ho fun i hi hn => by have := hF i hi; omega
    rw [e1]
    simpa using this
  · exact ⟨ho.os.trans h.only.os, ho.tape.trans h.only.tape, ho.output.trans h.only.output, Nat.le_trans h.only.size ho.size, fun k hk hn => by
      rw [ho.block k (by omega) (fun e => by omega), h.only.block k hk hn]⟩
  · rw [ho.cell (p := ⟨w.heap.size, 0, none⟩) (by simp only; omega) (fun e => by simp only at e; omega)]; exact h.c2
  · rw [ho.cell (p := ⟨w.heap.size + 1, 0, none⟩) (by simp only; omega) (fun e => by simp only at e; omega)]; exact h.c3
  · rw [ho.cell (p := ⟨w.heap.size + 2, 0, none⟩) (by simp only; omega) (fun e => by simp only at e; omega)]; exact h.c5
  · rw [ho.frozen (p := ⟨w.heap.size + 2, 0, none⟩) (by simp only; omega) (fun e => by simp only at e; omega)]; exact h.f5
  · exact World.cell?_setCell_same _ _ _ hc6
  · rw [World.frozen?_setCell, World.frozen?_of_block (a := ⟨w.heap.size + 3, 0, none⟩) (hg.block (w.heap.size + 3) (by omega) (fun e => by have := h6 (w.heap.size + 3) e.symm; omega))]; exact h.f6
  · rw [e2]; exact row_only h.r5 ho fun g hg hn => hn.2 hg
  · rw [e1, tcells_app, List.length_append]
    exact row_only (F := fun i => i = w.heap.size + 3) hr ((Only.refl (fun i => i = w.heap.size + 3) W1).setCell (p := ⟨w.heap.size + 3, 0, none⟩) (.inl rfl) _) fun g hg e => by have := (hr.lt g hg).1; omega
  · intro g hg5 hg6
    rcases hb with e | e
    · exact h.ap g hg5 (e ▸ hg6)
    · have := e g hg6; have := (h.r5.lt g hg5).2; omega
  · have := hg.size; simp; omega

/-- A timer is told. -/
theorem MS.told {t : Tm} (h : MS w W F B M sl now m L P (t :: R) v5 v6) (hF : ∀ i, F i → i < w.heap.size) (ht : t.at_ ≤ m) {W1 W2 : World} {v' : Value}
    (hr : W1.ownsRow (w.heap.size + 4) 3 1 v' ((due P m).length + 1) (icells (ids (due P m)) ++ [.int .i64 t.id])) (hg : W.grownBy W1 v5.ownBlock) (hb : v'.ownBlock = v5.ownBlock ∨ ∀ g, v'.ownBlock = some g → W.heap.size ≤ g)
    (hT : Tms W2 M (left P m ++ R)) (hg2 : (W1.setCell ⟨w.heap.size + 2, 0, none⟩ v').grownBy W2 (some M)) :
    MS w W2 F B M sl now m L (P ++ [t]) R v' v6 := by
  have h6 : ∀ g, v6.ownBlock = some g → w.heap.size + 4 ≤ g := fun g hg => (h.r6.lt g hg).1
  have h5 : ∀ g, v5.ownBlock = some g → w.heap.size + 4 ≤ g := fun g hg => (h.r5.lt g hg).1
  have hsz := h.sz
  have hMF := h.wh.inM
  have hMl := hF M hMF
  have ho : Only (fun i => w.heap.size + 2 ≤ i ∧ i ≠ w.heap.size + 3 ∧ v6.ownBlock ≠ some i) W (W1.setCell ⟨w.heap.size + 2, 0, none⟩ v') :=
    (Only.of_grown (F := fun i => w.heap.size + 2 ≤ i ∧ i ≠ w.heap.size + 3 ∧ v6.ownBlock ≠ some i) hg (fun i hi => ⟨by have := h5 i hi; omega, by have := h5 i hi; omega, fun e => h.ap i hi e⟩)).setCell (p := ⟨w.heap.size + 2, 0, none⟩) (.inl ⟨Nat.le_refl _, by simp only; omega, fun e => by have := h6 (w.heap.size + 2) e; omega⟩) _
  have hc5 : W1.cell? ⟨w.heap.size + 2, 0, none⟩ = some v5 := by
    rw [World.cell?_of_block (a := ⟨w.heap.size + 2, 0, none⟩) (hg.block (w.heap.size + 2) (by omega) (fun e => by have := h5 (w.heap.size + 2) e.symm; omega))]; exact h.c5
  have hW := h.wh.only ho fun i hi hn => by have := hF i hi; omega
  obtain ⟨hW2, -⟩ := hW.remap hg2 hT
  have ho2 : Only (fun i => i = M) (W1.setCell ⟨w.heap.size + 2, 0, none⟩ v') W2 := Only.of_grown hg2 fun i hi => by injection hi with hi; exact hi.symm
  have hs2 := ho.size
  have e1 : left (P ++ [t]) m = left P m := by rw [left_snoc, if_pos ht]
  have e2 : due (P ++ [t]) m = due P m ++ [t] := by rw [due_snoc, if_pos ht]
  refine ⟨?_, ?_, ?_, ?_, ?_, ?_, ?_, ?_, ?_, ?_, ?_, ?_⟩
  · rw [e1]; exact hW2
  · refine ⟨ho2.os.trans (ho.os.trans h.only.os), ho2.tape.trans (ho.tape.trans h.only.tape), ho2.output.trans (ho.output.trans h.only.output), Nat.le_trans h.only.size (Nat.le_trans ho.size ho2.size), fun k hk hn => ?_⟩
    rw [ho2.block k (by omega) (fun e => hn (e ▸ hMF)), ho.block k (by omega) (fun e => by omega), h.only.block k hk hn]
  · rw [ho2.cell (p := ⟨w.heap.size, 0, none⟩) (by simp only; omega) (by simp only; omega), ho.cell (p := ⟨w.heap.size, 0, none⟩) (by simp only; omega) (fun e => by simp only at e; omega)]; exact h.c2
  · rw [ho2.cell (p := ⟨w.heap.size + 1, 0, none⟩) (by simp only; omega) (by simp only; omega), ho.cell (p := ⟨w.heap.size + 1, 0, none⟩) (by simp only; omega) (fun e => by simp only at e; omega)]; exact h.c3
  · rw [ho2.cell (p := ⟨w.heap.size + 2, 0, none⟩) (by simp only; omega) (by simp only; omega)]; exact World.cell?_setCell_same _ _ _ hc5
  · rw [ho2.frozen (p := ⟨w.heap.size + 2, 0, none⟩) (by simp only; omega) (by simp only; omega), World.frozen?_setCell, World.frozen?_of_block (a := ⟨w.heap.size + 2, 0, none⟩) (hg.block (w.heap.size + 2) (by omega) (fun e => by have := h5 (w.heap.size + 2) e.symm; omega))]; exact h.f5
  · rw [ho2.cell (p := ⟨w.heap.size + 3, 0, none⟩) (by simp only; omega) (by simp only; omega), ho.cell (p := ⟨w.heap.size + 3, 0, none⟩) (by simp only; omega) (fun e => by simp only at e; omega)]; exact h.c6
  · rw [ho2.frozen (p := ⟨w.heap.size + 3, 0, none⟩) (by simp only; omega) (by simp only; omega), ho.frozen (p := ⟨w.heap.size + 3, 0, none⟩) (by simp only; omega) (fun e => by simp only at e; omega)]; exact h.f6
  · rw [e2, List.length_append]
    have : icells (ids (due P m ++ [t])) = icells (ids (due P m)) ++ [.int .i64 t.id] := by simp [icells, ids]
    rw [this]
    exact row_only (row_only (F := fun i => i = w.heap.size + 2) hr ((Only.refl (fun i => i = w.heap.size + 2) W1).setCell (p := ⟨w.heap.size + 2, 0, none⟩) (.inl rfl) _) fun g hg e => by have := (hr.lt g hg).1; omega) ho2 fun g hg e => by have := (hr.lt g hg).1; omega
  · rw [e1]; exact row_only (row_only h.r6 ho fun g hg hn => hn.2.2 hg) ho2 fun g hg e => by have := h6 g hg; omega
  · intro g hg5 hg6
    rcases hb with e | e
    · exact h.ap g (e ▸ hg5) hg6
    · have := e g hg5; have := (h.r6.lt g hg6).2; omega
  · have := ho2.size; omega
end

end Go.Proofs.Ytkcndgiiangmjaa
