/-
  A timer that is told once; one that is told at its new time alone: without memory.
-/
import Derived.Test.YthddphgeepgidaaLaw
namespace Go.Proofs.Ythddphgeepgidaa
open Go.RowKit Go.Maps
set_option linter.unusedVariables false
set_option linter.unusedSimpArgs false
set_option maxRecDepth 10000

theorem mv_ok {s : St} {x : Int} (h : okM s.now x = true) : ∃ m : Nat, x = m ∧ s.now ≤ m ∧ m ≤ 1099511627776 ∧ mvD s.l s.now x = ids (due s.l m) ∧ mvN s.now x = m ∧ mvL s.l s.now x = left s.l m := by
  have hx := of_decide_eq_true (show decide ((s.now : Int) ≤ x ∧ x ≤ 1099511627776) = true from h)
  obtain ⟨m, rfl⟩ := Int.eq_ofNat_of_zero_le (show 0 ≤ x by omega)
  refine ⟨m, rfl, by omega, by omega, ?_, ?_, ?_⟩
  · unfold mvD; rw [if_pos h]; rfl
  · unfold mvN; rw [if_pos h]; rfl
  · unfold mvL; rw [if_pos h]; rfl
theorem mv_bad {s : St} {x : Int} (h : okM s.now x = false) : mvD s.l s.now x = [] ∧ mvN s.now x = s.now ∧ mvL s.l s.now x = s.l := by
  refine ⟨?_, ?_, ?_⟩
  · unfold mvD; rw [h]; simp
  · unfold mvN; rw [h]; simp
  · unfold mvL; rw [h]; simp

theorem mem_ids {l : List Tm} {i : Nat} : ((i : Int) ∈ ids l) ↔ ∃ t ∈ l, t.id = i := by
  unfold ids
  rw [List.mem_map]
  constructor
  · rintro ⟨t, ht, e⟩; exact ⟨t, ht, by omega⟩
  · rintro ⟨t, ht, rfl⟩; exact ⟨t, ht, rfl⟩
theorem mem_due {l : List Tm} {t : Tm} {m : Nat} : t ∈ due l m ↔ t ∈ l ∧ t.at_ ≤ m := by
  unfold due; rw [List.mem_filter]; simp
theorem mem_left {l : List Tm} {t : Tm} {m : Nat} : t ∈ left l m ↔ t ∈ l ∧ m < t.at_ := by
  unfold left; rw [List.mem_filter]; simp

/-- Of the timer i: it is there, at g, and was not told; or it is not there, and was told. -/
def Onc (L : List Tm) (i g : Nat) (told : Bool) : Prop := (told = false ∧ (⟨i, g⟩ : Tm) ∈ L ∧ ∀ t ∈ L, t.id = i → t.at_ = g) ∨ (told = true ∧ ∀ t ∈ L, t.id ≠ i)

theorem onc_move {s : St} {i g : Nat} {told : Bool} (h : Onc s.l i g told) (x : Int) :
    decide ((i : Int) ∈ mvD s.l s.now x) = (!told && okM s.now x && decide ((g : Int) ≤ x)) ∧ Onc (mvL s.l s.now x) i g (told || decide ((i : Int) ∈ mvD s.l s.now x)) := by
  cases hok : okM s.now x with
  | false =>
    obtain ⟨e1, e2, e3⟩ := mv_bad hok
    rw [e1, e3]
    simp
    exact h
  | true =>
    obtain ⟨m, rfl, h1, h2, e1, e2, e3⟩ := mv_ok hok
    rw [e1, e3]
    rcases h with ⟨rfl, hm, ho⟩ | ⟨rfl, hn⟩
    · by_cases hg : g ≤ m
      · have hin : (i : Int) ∈ ids (due s.l m) := mem_ids.2 ⟨⟨i, g⟩, mem_due.2 ⟨hm, hg⟩, rfl⟩
        have hgz : (g : Int) ≤ (m : Int) := by omega
        refine ⟨by simp [hin, hgz], ?_⟩
        rw [decide_eq_true hin]
        exact .inr ⟨by simp, fun t ht e => by
          obtain ⟨h3, h4⟩ := mem_left.1 ht
          have := ho t h3 e
          omega⟩
      · have hin : ¬ (i : Int) ∈ ids (due s.l m) := fun h => by
          obtain ⟨t, ht, e⟩ := mem_ids.1 h
          obtain ⟨h3, h4⟩ := mem_due.1 ht
          have := ho t h3 e
          omega
        have hgz : ¬ (g : Int) ≤ (m : Int) := by omega
        refine ⟨by simp [hin, hgz], ?_⟩
        rw [decide_eq_false hin]
        exact .inl ⟨by simp, mem_left.2 ⟨hm, by simp only; omega⟩, fun t ht => ho t (mem_left.1 ht).1⟩
    · have hin : ¬ (i : Int) ∈ ids (due s.l m) := fun h => by
        obtain ⟨t, ht, e⟩ := mem_ids.1 h
        exact hn t (mem_due.1 ht).1 e
      refine ⟨by simp [hin], ?_⟩
      rw [decide_eq_false hin]
      exact .inr ⟨by simp, fun t ht => hn t (mem_left.1 ht).1⟩

theorem onc_set (L : List Tm) (hL : Fit L) {i g : Nat} (hi : i ≤ 65535) (hg : g ≤ 1099511627776) : Onc (setL L i g) i g false := by
  have e1 : inR (i : Int) (g : Int) = true := decide_eq_true (by omega)
  have e2 : setL L (i : Int) (g : Int) = ins ⟨i, g⟩ (woutI L i) := by unfold setL; rw [if_pos e1]; rfl
  rw [e2]
  refine .inl ⟨rfl, mem_ins.2 (.inl rfl), fun t ht e => ?_⟩
  rcases mem_ins.1 ht with rfl | ht
  · rfl
  · exact absurd e (woutI_not t ht)

theorem onc_look {L : List Tm} {i g : Nat} {told : Bool} (h : Onc L i g told) : (look L i).isSome = !told := by
  rcases h with ⟨rfl, hm, _⟩ | ⟨rfl, hn⟩
  · cases hl : look L (i : Int) with
    | none => exact absurd rfl (look_none hl _ hm)
    | some a => rfl
  · rw [look_not hn]; rfl

/-- The first so many ids. -/
def seen (D : List Int) (i : Int) (k : Nat) : Bool := decide (i ∈ D.take k)
theorem seen_zero (D : List Int) (i : Int) : seen D i 0 = false := by simp [seen]
theorem seen_all (D : List Int) (i : Int) : seen D i D.length = decide (i ∈ D) := by simp [seen]
theorem seen_next (D : List Int) (i : Int) {k : Nat} (h : k < D.length) : seen D i (k + 1) = (seen D i k || decide (D[k]! = i)) := by
  unfold seen
  rw [List.take_add_one, List.getElem?_eq_getElem h, getElem!_pos D k h]
  generalize D[k] = y
  rw [Bool.eq_iff_iff, Bool.or_eq_true, decide_eq_true_eq, decide_eq_true_eq, decide_eq_true_eq, List.mem_append, Option.toList_some, List.mem_singleton]
  exact or_congr Iff.rfl ⟨fun h => h.symm, fun h => h.symm⟩

end Go.Proofs.Ythddphgeepgidaa
