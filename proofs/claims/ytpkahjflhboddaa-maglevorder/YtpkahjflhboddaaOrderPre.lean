/-
  What MaglevOrder stands on: a table of the same backends, told in another order.
-/
import Derived.Test.YtpkahjflhboddaaLaw
import Derived.Deep.RegionHeld3
import Derived.Test.YtpkahjflhboddaaTurnsPre
namespace Go.Proofs.Ytpkahjflhboddaa
open Go.RowKit
set_option linter.unusedVariables false
set_option linter.unusedSimpArgs false
set_option maxRecDepth 10000
attribute [local go_sem ↓] big22


theorem right_rev {l : List Bk} (h : Right l) : Right l.reverse := by
  obtain ⟨h1, h2, h3, h4⟩ := h
  have at_rev : ∀ i, i < l.length → l.reverse[i]! = l[l.length - 1 - i]! := fun i hi => by
    rw [getElem!_pos _ i (by simpa using hi), getElem!_pos l _ (by omega), List.getElem_reverse]
  refine ⟨by simpa using h1, by simpa using h2, fun i hi => ?_, fun i j hij hj => ?_⟩
  · rw [List.length_reverse] at hi
    rw [at_rev i hi]; exact h3 _ (by omega)
  · rw [List.length_reverse] at hj
    rw [at_rev i (by omega), at_rev j hj]
    exact fun e => h4 (l.length - 1 - j) (l.length - 1 - i) (by omega) (by omega) e.symm
theorem wide_rev {l : List Bk} (h : Wide l) : Wide l.reverse := fun i hi => by
  rw [List.length_reverse] at hi
  rw [getElem!_pos _ i (by simpa using hi), List.getElem_reverse]
  have := h (l.length - 1 - i) (by omega)
  rwa [getElem!_pos l _ (by omega)] at this
theorem rev_next (l : List Bk) {j : Nat} (h : j < l.length) : bcells (l.reverse.take (j + 1)) = bcells (l.reverse.take j) ++ [.string (l[l.length - 1 - j]!).name, .int .i64 (l[l.length - 1 - j]!).wt] := by
  rw [take_next l.reverse j (by simpa using h), bcells_app]
  have : l.reverse[j]! = l[l.length - 1 - j]! := by
    rw [getElem!_pos _ j (by simpa using h), getElem!_pos l _ (by omega), List.getElem_reverse]
  rw [this]; rfl

/-- The ring, by ranks. -/
def rks (l : List Bk) (o : List Nat) : List Nat := (List.range o.length).flatMap fun r => List.replicate (l[o[r]!]!).wt.toNat r
theorem ring_rks (l : List Bk) (o : List Nat) : ring l o = (rks l o).map fun r => ((o[r]! : Nat) : Int) := by
  have e : o = (List.range o.length).map (fun r => o[r]!) := by
    apply List.ext_getElem (by simp)
    intro i h1 h2
    rw [List.getElem_map, List.getElem_range, getElem!_pos o i h1]
  have h : ring l ((List.range o.length).map (fun r => o[r]!)) = (rks l o).map fun r => ((o[r]! : Nat) : Int) := by
    unfold ring rks
    rw [List.flatMap_map, List.map_flatMap]
    simp only [List.map_replicate]
  rw [← e] at h
  exact h
theorem rks_same {l m : List Bk} {o p : List Nat} (h : IsOrd l o) (h' : IsOrd m p) (hm : l.Perm m) (ha : Apart l) : rks l o = rks m p := by
  have hl : o.length = p.length := by rw [h.1, h'.1, hm.length_eq]
  unfold rks
  rw [hl]
  apply congrArg List.flatten
  apply List.map_congr_left
  intro r hr
  rw [h.turned h' hm ha (r := r) (by have := List.mem_range.1 hr; rw [← h.1]; omega)]

/-- What two tables say of one place, one turn: the same names. -/
theorem same_names {k : List Int} {l : List Bk} {o o' : List Nat} {t t' : Nat} {pl pl' : List (Option Nat)} (hR : Right l) (ho : IsOrd l o) (ho' : IsOrd l.reverse o') (ht : IsTop l (t : Int)) (ht' : IsTop l.reverse (t' : Int)) (h : Lays t (sds k l o) pl) (h' : Lays t' (sds k l.reverse o') pl') :
    (∀ p, p < 251 → ∃ i j : Nat, i < l.length ∧ j < l.length ∧ (lab o pl)[p]! = (i : Int) ∧ (lab o' pl')[p]! = (j : Int) ∧ (l[i]!).name = (l.reverse[j]!).name) ∧
    ((ring l o).length = (ring l.reverse o').length ∧ ∀ s, s < (ring l o).length → ∃ i j : Nat, i < l.length ∧ j < l.length ∧ (ring l o)[s]! = (i : Int) ∧ (ring l.reverse o')[s]! = (j : Int) ∧ (l[i]!).name = (l.reverse[j]!).name) := by
  have hm : l.Perm l.reverse := (List.reverse_perm l).symm
  have ha := hR.2.2.2
  have hlr : l.reverse.length = l.length := List.length_reverse
  have hs := sds_turned k ho ho' hm ha
  have e := (ht.turned hm).same ht'
  obtain rfl : t = t' := by omega
  rw [← hs] at h'
  obtain rfl := lays_same h h'
  have hsl : (sds k l o).length = l.length := by rw [sds_len, ho.1]
  obtain ⟨hp, hw⟩ := lays_who (by rw [hsl]; exact hR.1) h
  refine ⟨fun p hp' => ?_, ?_, fun s hs' => ?_⟩
  · obtain ⟨r, hr, e⟩ := hw p hp'
    rw [hsl] at hr
    have e2 : pl[p]'(by omega) = some r := by rw [List.getElem?_eq_getElem (by omega)] at e; simpa using e
    refine ⟨o[r]!, o'[r]!, (ho.2 r hr).1, by have := (ho'.2 r (by omega)).1; omega, ?_, ?_, by rw [ho.turned ho' hm ha hr]⟩
    · rw [getElem!_pos _ p (by rw [lab_len, hp]; exact hp')]
      simp only [lab, List.getElem_map, e2, lab1]
    · rw [getElem!_pos _ p (by rw [lab_len, hp]; exact hp')]
      simp only [lab, List.getElem_map, e2, lab1]
  · rw [ring_rks, ring_rks, rks_same ho ho' hm ha, List.length_map, List.length_map]
  · have hr1 := ring_rks l o
    have hr2 := ring_rks l.reverse o'
    rw [← rks_same ho ho' hm ha] at hr2
    have hsl' : s < (rks l o).length := by rw [hr1, List.length_map] at hs'; exact hs'
    have hmem : (rks l o)[s] ∈ rks l o := List.getElem_mem hsl'
    have hlt : (rks l o)[s] < l.length := by
      generalize (rks l o)[s] = r at hmem
      simp only [rks, List.mem_flatMap, List.mem_range, List.mem_replicate] at hmem
      obtain ⟨r', h1, _, rfl⟩ := hmem
      rw [← ho.1]; exact h1
    refine ⟨o[(rks l o)[s]]!, o'[(rks l o)[s]]!, (ho.2 _ hlt).1, by have := (ho'.2 (rks l o)[s] (by omega)).1; omega, ?_, ?_, by rw [ho.turned ho' hm ha hlt]⟩
    · rw [hr1, getElem!_pos _ s (by simpa using hsl')]; simp
    · rw [hr2, getElem!_pos _ s (by simpa using hsl')]; simp

end Go.Proofs.Ytpkahjflhboddaa
