/-
  Between two times: the slots that were passed are empty, the time is the new one, what is kept is laid again.
-/
import Derived.Test.YtkcndgiiangmjaaPass
import Derived.Test.YtkcndgiiangmjaaLay
namespace Go.Proofs.Ytkcndgiiangmjaa
open Go.RowKit Go.Maps
set_option linter.unusedVariables false
set_option linter.unusedSimpArgs false
set_option maxRecDepth 10000

theorem splice_at {L vs : List Value} {o q : Nat} (h : o + vs.length ≤ L.length) : (splice L o vs)[q]? = if o ≤ q ∧ q < o + vs.length then vs[q - o]? else L[q]? := by
  unfold splice
  by_cases h1 : q < o
  · rw [List.getElem?_append_left (by rw [List.length_take]; omega), List.getElem?_take, if_pos h1, if_neg (by omega)]
  · rw [List.getElem?_append_right (by rw [List.length_take]; omega), List.length_take, show min o L.length = o by omega]
    by_cases h2 : q < o + vs.length
    · rw [List.getElem?_append_left (by omega), if_pos ⟨by omega, h2⟩]
    · rw [List.getElem?_append_right (by omega), List.getElem?_drop, if_neg (by omega), show o + vs.length + (q - o - vs.length) = q by omega]

theorem WhS.passed {W1 : World} {F : Nat → Prop} {B M now m : Nat} {sl : Nat → Value} {L T : List Tm} (h : WhS W1 F B M sl now L T) (hf : Fit L) (hn : now ≤ m) (hm : m ≤ 1099511627776) :
    ∃ sl', WhS ((W1.setCells B 2 (List.replicate (pl now m + 1) (.slice none 0 0))).setCell ⟨B, 0, none⟩ (.int .i64 m)) F B M sl' m (rests now L (pl now m + 1)) T ∧
      Only (fun i => i = B) W1 ((W1.setCells B 2 (List.replicate (pl now m + 1) (.slice none 0 0))).setCell ⟨B, 0, none⟩ (.int .i64 m)) := by
  have hp := pl_lt now m
  generalize hpp : pl now m = p at *
  obtain ⟨cur, h1, h2, h3, h4, h5⟩ := h.obj
  have hlen : 2 + (List.replicate (p + 1) (Value.slice none 0 0)).length ≤ cur.size := by simp; omega
  obtain ⟨hg, hgr⟩ := (⟨setCells_heap h1 2 _ hlen, setCells_grown B _ 2 W1⟩ : (W1.setCells B 2 (List.replicate (p + 1) (.slice none 0 0))).heap[B]? = some (.cells (splice cur.toList 2 (List.replicate (p + 1) (.slice none 0 0))).toArray 86 (0, 0)) ∧ W1.grownBy (W1.setCells B 2 (List.replicate (p + 1) (.slice none 0 0))) (some B))
  have ho : Only (fun i => i = B) W1 ((W1.setCells B 2 (List.replicate (p + 1) (.slice none 0 0))).setCell ⟨B, 0, none⟩ (.int .i64 m)) :=
    (Only.of_grown (F := fun i => i = B) hgr (fun i hi => by injection hi with hi; exact hi.symm)).setCell (p := ⟨B, 0, none⟩) (.inl rfl) _
  have hg2 := heap_setCell_same _ B 0 _ 86 (.int .i64 m) hg
  have hslot : ∀ k, slot m (rests now L (p + 1)) k = if k < p + 1 then [] else slot now L k := fun k => by
    have := slot_rest hf hn hm k
    unfold rest at this
    rw [hpp] at this
    exact this
  have hl0 : (splice cur.toList 2 (List.replicate (p + 1) (Value.slice none 0 0))).length = 450 := by rw [length_splice _ _ _ (by rw [Array.length_toList]; exact hlen), Array.length_toList, h2]
  have hlr : (List.replicate (p + 1) (Value.slice none 0 0)).length = p + 1 := List.length_replicate
  have hat : ∀ q, (splice cur.toList 2 (List.replicate (p + 1) (Value.slice none 0 0)))[q]? = if 2 ≤ q ∧ q < 2 + (p + 1) then (List.replicate (p + 1) (Value.slice none 0 0))[q - 2]? else cur[q]? := fun q => by
    rw [splice_at (by rw [Array.length_toList]; exact hlen), hlr, Array.getElem?_toList (xs := cur)]
  refine ⟨fun k => if k < p + 1 then .slice none 0 0 else sl k, ⟨fun i hi => Nat.lt_of_lt_of_le (h.lt i hi) ho.size, h.inB, h.inM, h.ne, ⟨_, hg2, ?_, ?_, ?_, fun k hk => ?_⟩, h.map.of_block (ho.block M (h.lt M h.inM) (Ne.symm h.ne)), fun k hk => ?_, fun k hk g hgo => ?_, fun j k hj hk hjk g hgj hgk => ?_⟩, ho⟩
  · simp [hl0]
  · rw [Array.getElem?_setIfInBounds_self_of_lt (by simp [hl0])]
  · rw [Array.getElem?_setIfInBounds_ne (by omega)]
    simp only [List.getElem?_toArray]
    rw [hat, if_neg (by omega)]; exact h4
  · rw [Array.getElem?_setIfInBounds_ne (by omega)]
    simp only [List.getElem?_toArray]
    rw [hat]
    by_cases hkp : k < p + 1
    · rw [if_pos ⟨by omega, by omega⟩, if_pos hkp, List.getElem?_replicate, if_pos (by omega)]
    · rw [if_neg (by omega), if_neg hkp]; exact h5 k hk
  · rw [hslot]
    by_cases hkp : k < p + 1
    · rw [if_pos hkp, if_pos hkp]; exact World.ownsRow_nil _ _ _ _
    · rw [if_neg hkp, if_neg hkp]; exact row_only (h.row k hk) ho fun g hg e => (h.own k hk g hg).2.1 e
  · by_cases hkp : k < p + 1
    · simp only [if_pos hkp, Value.ownBlock] at hgo; cases hgo
    · simp only [if_neg hkp] at hgo; exact h.own k hk g hgo
  · by_cases hjp : j < p + 1
    · simp only [if_pos hjp, Value.ownBlock] at hgj; cases hgj
    · by_cases hkp : k < p + 1
      · simp only [if_pos hkp, Value.ownBlock] at hgk; cases hgk
      · simp only [if_neg hjp] at hgj
        simp only [if_neg hkp] at hgk
        exact h.apart j k hj hk hjk g hgj hgk

end Go.Proofs.Ytkcndgiiangmjaa
