/-
  Which probes are due at which tick.
-/
import Derived.Test.YtkcndgiiangmjaaBd
namespace Go.Proofs.Ytkcndgiiangmjaa
open Go.RowKit
set_option linter.unusedVariables false
set_option linter.unusedSimpArgs false

theorem mem_setL {L : List Tm} {k a : Nat} (hk : k ≤ 65535) (ha : a ≤ 1099511627776) (y : Tm) : y ∈ setL L (k : Int) (a : Int) ↔ y = ⟨k, a⟩ ∨ (y ∈ L ∧ y.id ≠ k) := by
  have e1 : inR (k : Int) (a : Int) = true := decide_eq_true (by omega)
  unfold setL
  rw [if_pos e1, mem_ins]
  simp only [Int.toNat_natCast]
  constructor
  · rintro (h | h)
    · exact .inl h
    · have := List.mem_filter.1 h
      refine .inr ⟨this.1, ?_⟩
      have h2 := this.2
      simp at h2
      omega
  · rintro (h | ⟨h, h2⟩)
    · exact .inl h
    · refine .inr (List.mem_filter.2 ⟨h, ?_⟩)
      simp
      omega

/-- When a probe is due: in round R, behind t ticks of it. -/
def gR (E R t id : Nat) : Nat := if id < t then id + 1 + (R + 1) * E else id + 1 + R * E
structure DueAt (s : St) (n E R t : Nat) : Prop where
  ok : OkS s 16
  now : s.now ≤ 1 + R * E + t
  mem : ∀ x, x ∈ s.l ↔ x.id < n ∧ x.at_ = gR E R t x.id

theorem layS_mem : ∀ n, n ≤ 16 → ∀ x, x ∈ (layS n).l ↔ x.id < n ∧ x.at_ = x.id + 1
  | 0, _, x => by
    constructor
    · intro h; exact absurd h (by simp [layS])
    · intro h; omega
  | n + 1, hn, x => by
    rw [layS_next]
    have h1 := mem_setL (L := (layS n).l) (k := n) (a := n + 1) (by omega) (by omega) x
    have e : ((n + 1 : Nat) : Int) = (n : Int) + 1 := by omega
    rw [e] at h1
    rw [h1, layS_mem n (by omega) x]
    constructor
    · rintro (h | ⟨⟨h1, h2⟩, h3⟩)
      · subst h; exact ⟨by show n < n + 1; omega, rfl⟩
      · exact ⟨by omega, h2⟩
    · rintro ⟨h1, h2⟩
      by_cases h3 : x.id = n
      · left
        obtain ⟨i, a⟩ := x
        simp only at h2 h3
        subst h3
        rw [h2]
      · exact .inr ⟨⟨by omega, h2⟩, h3⟩
theorem due_start {n E : Nat} (hn : n ≤ 16) : DueAt (layS n) n E 0 0 :=
  ⟨(layS_ok n).mono hn, by show (0 : Nat) ≤ _; omega, fun x => by
    rw [layS_mem n hn x]
    simp [gR]⟩
theorem gR_round {n E R id : Nat} (h : id < n) (hn : n ≤ E) : gR E R E id = gR E (R + 1) 0 id := by
  unfold gR
  rw [if_pos (by omega), if_neg (by omega)]
theorem due_round {s : St} {n E R : Nat} (h : DueAt s n E R E) (hn : n ≤ E) : DueAt s n E (R + 1) 0 :=
  ⟨h.ok, by have := h.now; rw [Nat.succ_mul]; omega, fun x => by
    rw [h.mem x]
    constructor
    · rintro ⟨h1, h2⟩
      exact ⟨h1, h2.trans (gR_round h1 hn)⟩
    · rintro ⟨h1, h2⟩
      exact ⟨h1, h2.trans (gR_round h1 hn).symm⟩⟩

theorem only_one {l : List Tm} {x : Tm} (h : l.Pairwise (fun a b => a.id ≠ b.id)) (ha : ∀ y ∈ l, y = x) (hx : x ∈ l) : l = [x] := by
  match l, h, ha, hx with
  | [], _, _, hx => simp at hx
  | [a], _, ha, _ => rw [ha a (by simp)]
  | a :: b :: r, h, ha, _ =>
    rw [List.pairwise_cons] at h
    have h1 := h.1 b (by simp)
    rw [ha a (by simp), ha b (by simp)] at h1
    exact absurd rfl h1

theorem due_step {s : St} {n E R t : Nat} {r : Ru} (h : DueAt s n E R t) (hE : r.every = (E : Int)) (ht : t < E) (hE5 : E ≤ 500) (hR : R < 3) (hn : n ≤ 16) :
    bmD s ((1 + R * E + t : Nat) : Int) = (if t < n then [(t : Int)] else []) ∧ DueAt (bmS r s ((1 + R * E + t : Nat) : Int)) n E R (t + 1) := by
  have hRE : R * E ≤ 1000 := Nat.le_trans (Nat.mul_le_mul (show R ≤ 2 by omega) hE5) (by decide)
  have hR1 : (R + 1) * E = R * E + E := Nat.succ_mul R E
  obtain ⟨T, hT⟩ : ∃ T, 1 + R * E + t = T := ⟨_, rfl⟩
  have hTs : T ≤ 2000 := by omega
  have hnow := h.now
  rw [hT] at hnow ⊢
  have e1 : farB (T : Int) = false := decide_eq_false (by omega)
  have e2 : okM s.now (T : Int) = true := decide_eq_true (by omega)
  have hfit := h.ok.fit
  have hdm : ∀ x, x ∈ due s.l T ↔ x = ⟨t, T⟩ ∧ t < n := fun x => by
    unfold due
    rw [List.mem_filter, h.mem x]
    simp only [decide_eq_true_eq, gR]
    constructor
    · rintro ⟨⟨h1, h2⟩, h3⟩
      split at h2
      · omega
      · have : x.id = t := by omega
        refine ⟨?_, by omega⟩
        obtain ⟨i, a⟩ := x
        simp only at h2 this
        subst this
        rw [h2]
        congr 1
        omega
    · rintro ⟨rfl, h2⟩
      refine ⟨⟨h2, ?_⟩, Nat.le_refl _⟩
      rw [if_neg (by show ¬ t < t; omega)]
      show T = t + 1 + R * E
      omega
  have hlm : ∀ x, x ∈ left s.l T ↔ (x.id < n ∧ x.at_ = gR E R t x.id) ∧ x.id ≠ t := fun x => by
    unfold left
    rw [List.mem_filter, h.mem x]
    simp only [Bool.not_eq_true', decide_eq_false_iff_not, gR]
    constructor
    · rintro ⟨⟨h1, h2⟩, h3⟩
      refine ⟨⟨h1, h2⟩, fun e => ?_⟩
      rw [e, if_neg (by omega)] at h2
      omega
    · rintro ⟨⟨h1, h2⟩, h3⟩
      refine ⟨⟨h1, h2⟩, ?_⟩
      split at h2 <;> omega
  have hmD : mvD s.l s.now (T : Int) = ids (due s.l T) := by unfold mvD; rw [if_pos e2]; rfl
  have hmL : mvL s.l s.now (T : Int) = left s.l T := by unfold mvL; rw [if_pos e2]; rfl
  have hmN : mvN s.now (T : Int) = T := by unfold mvN; rw [if_pos e2]; rfl
  have hok := bm_ok h.ok r (T : Int)
  have hbD : bmD s (T : Int) = ids (due s.l T) := by unfold bmD; rw [e1, ← hmD]; rfl
  have hbS : bmS r s (T : Int) = ⟨T, setAll (left s.l T) (ids (due s.l T)) ((T : Int) + r.every)⟩ := by unfold bmS; rw [e1, hmD, hmL, hmN]; rfl
  by_cases htn : t < n
  · have hdue : due s.l T = [⟨t, T⟩] := only_one (List.Pairwise.filter _ hfit.nodup) (fun y hy => ((hdm y).1 hy).1) ((hdm _).2 ⟨rfl, htn⟩)
    rw [hdue] at hbD hbS
    have hone : setAll (left s.l T) (ids [⟨t, T⟩]) ((T : Int) + r.every) = setL (left s.l T) (t : Int) ((T + E : Nat) : Int) := by
      rw [hE]
      simp [setAll, ids]
    rw [hone] at hbS
    rw [if_pos htn]
    refine ⟨hbD, ?_⟩
    rw [hbS] at hok ⊢
    refine ⟨hok, by show T ≤ _; omega, fun x => ?_⟩
    show x ∈ setL _ _ _ ↔ _
    rw [mem_setL (by omega) (by omega), hlm x]
    simp only [gR]
    constructor
    · rintro (rfl | ⟨⟨⟨h1, h2⟩, h4⟩, h3⟩)
      · refine ⟨htn, ?_⟩
        rw [if_pos (by show t < t + 1; omega)]
        show T + E = t + 1 + (R + 1) * E
        omega
      · refine ⟨h1, ?_⟩
        rw [h2]
        by_cases h5 : x.id < t
        · rw [if_pos h5, if_pos (by omega)]
        · rw [if_neg h5, if_neg (by omega)]
    · rintro ⟨h1, h2⟩
      by_cases h3 : x.id = t
      · left
        obtain ⟨i, a⟩ := x
        simp only at h2 h3
        subst h3
        rw [if_pos (by omega)] at h2
        rw [h2]
        congr 1
        omega
      · refine .inr ⟨⟨⟨h1, ?_⟩, h3⟩, h3⟩
        rw [h2]
        by_cases h4 : x.id < t
        · rw [if_pos h4, if_pos (by omega)]
        · rw [if_neg h4, if_neg (by omega)]
  · have hdue : due s.l T = [] := List.eq_nil_iff_forall_not_mem.2 fun y hy => htn ((hdm y).1 hy).2
    rw [hdue] at hbD hbS
    rw [if_neg htn]
    refine ⟨hbD, ?_⟩
    rw [hbS] at hok ⊢
    refine ⟨hok, by show T ≤ _; omega, fun x => ?_⟩
    show x ∈ left s.l T ↔ _
    rw [hlm x]
    simp only [gR]
    constructor
    · rintro ⟨⟨h1, h2⟩, h3⟩
      refine ⟨h1, ?_⟩
      rw [h2, if_pos (by omega), if_pos (by omega)]
    · rintro ⟨h1, h2⟩
      refine ⟨⟨h1, ?_⟩, by omega⟩
      rw [h2, if_pos (by omega), if_pos (by omega)]

/-! ## How often each was met -/
def metL (n t : Nat) : List Int := (List.range n).map fun i => if i < t then 1 else 0
theorem metL_len (n t : Nat) : (metL n t).length = n := by simp [metL]
theorem metL_at {n t i : Nat} (h : i < n) : (metL n t)[i]! = if i < t then 1 else 0 := by
  rw [getElem!_pos _ i (by rw [metL_len]; exact h)]
  simp [metL]
theorem metL_next {n t : Nat} (h : t < n) : (icells (metL n t)).set t (.int .i64 1) = icells (metL n (t + 1)) := by
  unfold icells
  rw [← List.map_set (f := fun i : Int => Value.int .i64 i)]
  congr 1
  apply List.ext_getElem
  · simp [metL]
  · intro i h1 h2
    rw [List.getElem_set]
    simp only [metL, List.getElem_map, List.getElem_range]
    by_cases e : t = i
    · subst e; simp
    · rw [if_neg e]
      have : (i < t) = (i < t + 1) := by apply propext; omega
      simp only [this]
theorem metL_stay {n t : Nat} (h : n ≤ t) : metL n (t + 1) = metL n t := by
  unfold metL
  apply List.map_congr_left
  intro i hi
  have := List.mem_range.1 hi
  rw [if_pos (by omega), if_pos (by omega)]
theorem metL_zero (n : Nat) : icells (metL n 0) = List.replicate n (.int .i64 0) := by
  unfold icells metL
  rw [List.map_map]
  apply List.ext_getElem
  · simp
  · intro i h1 h2
    simp

end Go.Proofs.Ytkcndgiiangmjaa
