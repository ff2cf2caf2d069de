/-
  What the function of MaglevTurns does, whatever backends it is given.
-/
import Derived.Test.YtpkahjflhboddaaLaw
import Derived.Deep.RegionHeld3
import Derived.Test.YtpkahjflhboddaaSharesWalk
import Derived.Test.YtpkahjflhboddaaFallsWalk
import Derived.Deep.OwnRows
namespace Go.Proofs.Ytpkahjflhboddaa
open Go.RowKit
set_option linter.unusedVariables false
set_option linter.unusedSimpArgs false
set_option maxRecDepth 10000
attribute [local go_sem ↓] big22


/-- How often each stands in the ring. -/
theorem ring_count_in (l : List Bk) (i : Nat) : ∀ o : List Nat, o.Nodup → (ring l o).count (i : Int) = if i ∈ o then (l[i]!).wt.toNat else 0
  | [], _ => by simp [ring]
  | a :: r, h => by
    have ih := ring_count_in l i r (List.nodup_cons.1 h).2
    have hr : ring l (a :: r) = List.replicate (l[a]!).wt.toNat (a : Int) ++ ring l r := by simp only [ring, List.flatMap_cons]
    rw [hr, List.count_append, ih, List.count_replicate]
    by_cases e : a = i
    · subst e
      rw [if_neg (List.nodup_cons.1 h).1]
      simp
    · have e2 : ((a : Int) == (i : Int)) = false := by simpa using (by omega : ¬ (a : Int) = (i : Int))
      rw [e2]
      have e3 : (i ∈ a :: r) = (i ∈ r) := by simp [Ne.symm e]
      simp only [e3]
      simp
theorem ord_nodup {l : List Bk} {o : List Nat} (ho : IsOrd l o) : o.Nodup := by
  rw [List.Nodup, List.pairwise_iff_getElem]
  intro i j hi hj hij e
  have := ho.inj (r := i) (s := j) (by rw [← ho.1]; exact hi) (by rw [← ho.1]; exact hj) (by rw [getElem!_pos o i hi, getElem!_pos o j hj]; exact e)
  omega
theorem ring_count {l : List Bk} {o : List Nat} (hR : Right l) (ho : IsOrd l o) {i : Nat} (hi : i < l.length) : ((ring l o).count (i : Int) : Int) = (l[i]!).wt := by
  rw [ring_count_in l i o (ord_nodup ho)]
  obtain ⟨r, hr, hor⟩ := ho.all hR.2.2.2 hi
  rw [if_pos (by rw [← hor, getElem!_pos o r (by rw [ho.1]; exact hr)]; exact List.getElem_mem _)]
  have := (hR.2.2.1 i hi).2.2.1
  omega
theorem ring_in {l : List Bk} {o : List Nat} (ho : IsOrd l o) : ∀ x ∈ ring l o, ∃ i : Nat, i < l.length ∧ x = (i : Int) := by
  intro x hx
  simp only [ring, List.mem_flatMap, List.mem_replicate] at hx
  obtain ⟨i, hi, _, rfl⟩ := hx
  obtain ⟨r, hr, rfl⟩ := List.getElem_of_mem hi
  have := (ho.2 r (by rw [← ho.1]; exact hr)).1
  rw [getElem!_pos o r hr] at this
  exact ⟨_, this, rfl⟩
theorem ring_all {l : List Bk} {o : List Nat} (ho : IsOrd l o) : (ring l o).countP (inB l.length) = (ring l o).length := by
  rw [List.countP_eq_length]
  intro x hx
  obtain ⟨i, hi, rfl⟩ := ring_in ho x hx
  exact decide_eq_true (by omega)
theorem ring_le {l : List Bk} {o : List Nat} (hR : Right l) (ho : IsOrd l o) : (ring l o).length ≤ 1600 := by
  have := ring_len_le l (fun i hi => (hR.2.2.1 i hi).2.2.2) o (fun i hi => by
    obtain ⟨r, hr, rfl⟩ := List.getElem_of_mem hi
    have := (ho.2 r (by rw [← ho.1]; exact hr)).1
    rwa [getElem!_pos o r hr] at this)
  have := ho.1
  have := hR.2.1
  omega

/-- All are up, or the first j. -/
def ups (n j : Nat) : List Bool := List.replicate j true ++ List.replicate (n - j) false
theorem ups_len {n j : Nat} (h : j ≤ n) : (ups n j).length = n := by simp [ups]; omega
theorem ups_set {n j : Nat} (h : j < n) : (ups n j).set j true = ups n (j + 1) := by
  unfold ups
  rw [List.set_append_right _ _ (by simp), List.length_replicate, Nat.sub_self, show n - j = (n - (j + 1)) + 1 by omega, List.replicate_succ, List.set_cons_zero, List.replicate_succ', List.append_assoc]
  rfl
theorem ups_zero (n : Nat) : ups n 0 = List.replicate n false := by simp [ups]
theorem ups_all (n : Nat) : ups n n = List.replicate n true := by simp [ups]
theorem who_all {rg : List Int} {n s : Nat} (h : ∀ x ∈ rg, ∃ i : Nat, i < n ∧ x = (i : Int)) (hs : s < rg.length) : who rg s (List.replicate n true) = rg[s]! ∧ whoIs rg s (List.replicate n true) = true := by
  have hm : rg[s]! ∈ rg := by rw [getElem!_pos rg s hs]; exact List.getElem_mem hs
  obtain ⟨i, hi, e⟩ := h _ hm
  have hf : fst rg s (List.replicate n true) = some 0 := fst_some (by omega) (by
    rw [Nat.add_zero, Nat.mod_eq_of_lt hs, e, upAt, Int.toNat_natCast, decide_eq_true (by simp; omega), getElem!_pos _ i (by simp; omega)]
    simp) (fun q hq => by omega)
  rw [who, whoIs, hf]
  simp only [Nat.add_zero, Nat.mod_eq_of_lt hs, Option.isSome_some, and_self]

theorem ar_puts {W : World} {B : Nat} {up : List Bool} (h : Ar W B (bcs up)) {x : Nat} (hx : x < up.length) (y : Bool) : Ar (W.setCell ⟨B, x, none⟩ (.bool y)) B (bcs (up.set x y)) := by
  have := h.set x (by rw [bcs_len]; exact hx) (.bool y)
  rwa [show bcs (up.set x y) = (bcs up).set x (.bool y) by simp [bcs, List.map_set]]
theorem ar_bool {W : World} {B : Nat} {up : List Bool} (h : Ar W B (bcs up)) {x : Nat} (hx : x < up.length) : W.cell? ⟨B, x, none⟩ = some (.bool up[x]!) ∧ W.frozen? ⟨B, x, none⟩ = false :=
  ⟨h.cell x (by rw [bcs, List.getElem?_map, List.getElem?_eq_getElem hx, getElem!_pos up x hx]; rfl), h.free x (by rw [bcs_len]; exact hx)⟩
theorem bls_of_ar {W : World} {B : Nat} {up : List Bool} (h : Ar W B (bcs up)) {n : Nat} (hn : n = up.length) : Bls W (some ⟨B, 0, none⟩) n n up :=
  ⟨hn, Nat.le_refl _, fun _ => ⟨B, 0, rfl, h.1, fun j hj => by rw [Nat.zero_add]; exact (ar_bool h (by omega)).1⟩⟩

end Go.Proofs.Ytpkahjflhboddaa
