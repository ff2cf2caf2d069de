/-
  What the document says of the layer maglev, as plain functions: who comes next, who has which place, who is up.
-/
import Derived.Test.YtpkahjflhboddaaPart
namespace Go.Proofs.Ytpkahjflhboddaa
set_option maxRecDepth 10000
set_option linter.unusedVariables false

/-! ## Walks through all places -/

theorem inv_251 : ∀ s : Fin 251, s.val ≠ 0 → (s.val * (s.val ^ 249 % 251)) % 251 = 1 := by decide +kernel

theorem comes_to (a s p : Nat) (hs : 0 < s) (hs2 : s < 251) (hp : p < 251) : ∃ i, i < 251 ∧ (a % 251 + i * s) % 251 = p := by
  obtain ⟨t, ht⟩ : ∃ t, t = s ^ 249 % 251 := ⟨_, rfl⟩
  have h1 : (s * t) % 251 = 1 := by rw [ht]; exact inv_251 ⟨s, hs2⟩ (by show s ≠ 0; omega)
  refine ⟨(p + 251 - a % 251) * t % 251, Nat.mod_lt _ (by omega), ?_⟩
  have ha : a % 251 < 251 := Nat.mod_lt _ (by omega)
  obtain ⟨d, hd⟩ : ∃ d, d = p + 251 - a % 251 := ⟨_, rfl⟩
  rw [← hd]
  have h2 : (d * t % 251 * s) % 251 = d % 251 := by
    rw [Nat.mod_mul_mod, Nat.mul_assoc, Nat.mul_comm t s, ← Nat.mul_mod_mod, h1, Nat.mul_one]
  rw [Nat.add_mod, h2]
  omega

/-- Where a backend would be, step by step. -/
def wk (a b i : Nat) : Nat := (a % 251 + i * (b % 250 + 1)) % 251
theorem wk_lt (a b i : Nat) : wk a b i < 251 := Nat.mod_lt _ (by omega)
theorem wk_all (a b p : Nat) (hp : p < 251) : ∃ i, i < 251 ∧ wk a b i = p := comes_to a (b % 250 + 1) p (by omega) (by have := Nat.mod_lt b (show 0 < 250 by omega); omega) hp

/-! ## Places -/

/-- Nobody has the place. -/
def fre (pl : List (Option Nat)) (p : Nat) : Bool := pl[p]? == some none
def frs (pl : List (Option Nat)) : Nat := pl.countP (· == none)
def cnt (r : Nat) (pl : List (Option Nat)) : Nat := pl.countP (· == some r)

def seat (f : Nat → Nat) (pl : List (Option Nat)) : Option Nat := (List.range 251).find? fun i => fre pl (f i)
def fill (f : Nat → Nat) (pl : List (Option Nat)) (r : Nat) : List (Option Nat) := match seat f pl with
  | some i => pl.set (f i) (some r)
  | none => pl

theorem fill_len (f : Nat → Nat) (pl : List (Option Nat)) (r : Nat) : (fill f pl r).length = pl.length := by
  unfold fill; split <;> simp

theorem seat_some {f : Nat → Nat} {pl : List (Option Nat)} {j : Nat} (hj : j < 251) (h : fre pl (f j) = true) (hn : ∀ i, i < j → fre pl (f i) = false) : seat f pl = some j := by
  unfold seat
  rw [List.find?_range_eq_some]
  exact ⟨h, List.mem_range.2 hj, fun i hi => by simp [hn i hi]⟩
theorem seat_none {f : Nat → Nat} {pl : List (Option Nat)} (hn : ∀ i, i < 251 → fre pl (f i) = false) : seat f pl = none := by
  unfold seat
  rw [List.find?_eq_none]
  intro i hi
  simp [hn i (List.mem_range.1 hi)]
theorem seat_free {f : Nat → Nat} {pl : List (Option Nat)} {j : Nat} (h : seat f pl = some j) : fre pl (f j) = true ∧ j < 251 := by
  unfold seat at h
  rw [List.find?_range_eq_some] at h
  exact ⟨h.1, List.mem_range.1 h.2.1⟩

theorem frs_pos {pl : List (Option Nat)} (h : 0 < frs pl) : ∃ p, p < pl.length ∧ fre pl p = true := by
  unfold frs at h
  rw [List.countP_pos_iff] at h
  obtain ⟨x, hx, he⟩ := h
  obtain ⟨p, hp, rfl⟩ := List.getElem_of_mem hx
  exact ⟨p, hp, by simp only [fre, List.getElem?_eq_getElem hp]; simpa using he⟩
theorem frs_of_fre {pl : List (Option Nat)} {p : Nat} (h : fre pl p = true) : 0 < frs pl := by
  unfold frs
  rw [List.countP_pos_iff]
  simp only [fre, beq_iff_eq] at h
  exact ⟨none, List.mem_of_getElem? h, by simp⟩

theorem seat_full {f : Nat → Nat} {pl : List (Option Nat)} (h : frs pl = 0) : seat f pl = none :=
  seat_none fun i _ => by
    rcases hf : fre pl (f i) with _ | _
    · rfl
    · have := frs_of_fre hf; omega
theorem fill_full {f : Nat → Nat} {pl : List (Option Nat)} (r : Nat) (h : frs pl = 0) : fill f pl r = pl := by
  unfold fill; rw [seat_full h]
theorem seat_has {a b : Nat} {pl : List (Option Nat)} (hl : pl.length = 251) (h : 0 < frs pl) : ∃ j, seat (wk a b) pl = some j := by
  obtain ⟨p, hp, hf⟩ := frs_pos h
  obtain ⟨i, hi, rfl⟩ := wk_all a b p (by omega)
  rcases hs : seat (wk a b) pl with _ | j
  · unfold seat at hs
    rw [List.find?_eq_none] at hs
    have := hs i (List.mem_range.2 hi)
    simp [hf] at this
  · exact ⟨j, rfl⟩

theorem count_set {pl : List (Option Nat)} {p r : Nat} (h : fre pl p = true) : frs (pl.set p (some r)) + 1 = frs pl ∧ ∀ x, cnt x (pl.set p (some r)) = cnt x pl + if x = r then 1 else 0 := by
  have hx : pl[p]? = some none := by simpa [fre] using h
  have hp : p < pl.length := (List.getElem?_eq_some_iff.1 hx).1
  have he : pl[p] = none := by have := List.getElem?_eq_getElem hp; rw [hx] at this; simpa using this.symm
  refine ⟨?_, fun x => ?_⟩
  · have hpos := frs_of_fre h
    have e := List.countP_set (p := fun x : Option Nat => x == none) (a := some r) hp
    rw [he] at e
    have e1 : ((none : Option Nat) == none) = true := rfl
    have e2 : ((some r : Option Nat) == none) = false := rfl
    simp only [e1, e2, if_true, Bool.false_eq_true, if_false] at e
    unfold frs at hpos ⊢
    omega
  · unfold cnt
    rw [List.countP_set hp, he]
    by_cases hxr : x = r
    · subst hxr; simp
    · simp [hxr, Ne.symm hxr]

theorem fill_one {a b : Nat} {pl : List (Option Nat)} (r : Nat) (hl : pl.length = 251) (h : 0 < frs pl) : frs (fill (wk a b) pl r) + 1 = frs pl ∧ ∀ x, cnt x (fill (wk a b) pl r) = cnt x pl + if x = r then 1 else 0 := by
  obtain ⟨j, hj⟩ := seat_has (a := a) (b := b) hl h
  have hf := (seat_free hj).1
  unfold fill
  rw [hj]
  exact count_set hf

/-! ## Turn by turn -/

/-- How often each has been asked: all q times, those ahead of r once more. -/
def nxt (n : Nat) (s : Nat × Nat) : Nat × Nat := if s.2 + 1 = n then (s.1 + 1, 0) else (s.1, s.2 + 1)
def stp (n : Nat) : Nat → Nat × Nat
  | 0 => (0, 0)
  | m + 1 => nxt n (stp n m)
theorem stp_lt (n : Nat) (hn : 0 < n) : ∀ m, (stp n m).2 < n
  | 0 => hn
  | m + 1 => by
    have := stp_lt n hn m
    simp only [stp, nxt]
    split <;> simp <;> omega
def vis (r : Nat) (s : Nat × Nat) : Nat := s.1 + if r < s.2 then 1 else 0
theorem vis_nxt (n r : Nat) (s : Nat × Nat) (hs : s.2 < n) (hr : r < n) : vis r (nxt n s) = vis r s + if r = s.2 then 1 else 0 := by
  simp only [vis, nxt]
  split
  · simp only [Nat.not_lt_zero, if_false]
    rcases Nat.lt_or_ge r s.2 with h | h
    · simp [h, Nat.ne_of_lt h]
    · have : r = s.2 := by omega
      simp [this]
  · simp only
    rcases Nat.lt_trichotomy r s.2 with h | h | h
    · simp [h, Nat.ne_of_lt h, Nat.lt_succ_of_lt h]
    · simp [h]
    · simp [show ¬ r < s.2 + 1 by omega, show ¬ r < s.2 by omega, show ¬ r = s.2 by omega]

/-- Credit behind q turns. -/
def crd (w t q : Nat) : Nat := (q * w) % t
theorem crd_lt (w t q : Nat) (ht : 0 < t) : crd w t q < t := Nat.mod_lt _ ht
theorem crd_step (w t q : Nat) (ht : 0 < t) (hw : w ≤ t) : crd w t (q + 1) = if t ≤ crd w t q + w then crd w t q + w - t else crd w t q + w := by
  have h := crd_lt w t q ht
  have e : crd w t (q + 1) = (crd w t q + w) % t := by unfold crd; rw [Nat.succ_mul, Nat.mod_add_mod]
  rw [e]
  split
  · rename_i hc
    rw [Nat.mod_eq_sub_mod hc, Nat.mod_eq_of_lt (by omega)]
  · exact Nat.mod_eq_of_lt (by omega)

/-- Backends in order: a weight each, and the two numbers of a walk. -/
structure Sd where
  w : Nat
  a : Nat
  b : Nat
deriving Inhabited

def came (t : Nat) (S : List Sd) (s : Nat × Nat) : Bool := decide (t ≤ crd (S[s.2]!).w t s.1 + (S[s.2]!).w)
def pls (t : Nat) (S : List Sd) : Nat → List (Option Nat)
  | 0 => List.replicate 251 none
  | m + 1 => if came t S (stp S.length m) then fill (wk (S[(stp S.length m).2]!).a (S[(stp S.length m).2]!).b) (pls t S m) (stp S.length m).2 else pls t S m

theorem pls_len (t : Nat) (S : List Sd) : ∀ m, (pls t S m).length = 251
  | 0 => by show (List.replicate 251 none).length = 251; exact List.length_replicate
  | m + 1 => by
    simp only [pls]
    split
    · rw [fill_len, pls_len]
    · exact pls_len t S m
theorem pls_zero (t : Nat) (S : List Sd) : frs (pls t S 0) = 251 := by
  show frs (List.replicate 251 none) = 251
  decide +kernel
theorem pls_step (t : Nat) (S : List Sd) (m : Nat) : (frs (pls t S (m + 1)) ≤ frs (pls t S m)) ∧ (frs (pls t S m) = 0 → pls t S (m + 1) = pls t S m) := by
  simp only [pls]
  split
  · refine ⟨?_, fun h => fill_full _ h⟩
    rcases Nat.eq_zero_or_pos (frs (pls t S m)) with h | h
    · rw [fill_full _ h]; exact Nat.le_refl _
    · have := (fill_one (a := (S[(stp S.length m).2]!).a) (b := (S[(stp S.length m).2]!).b) (stp S.length m).2 (pls_len t S m) h).1
      omega
  · exact ⟨Nat.le_refl _, fun _ => rfl⟩
theorem pls_stay (t : Nat) (S : List Sd) (m : Nat) (h : frs (pls t S m) = 0) : ∀ j, pls t S (m + j) = pls t S m
  | 0 => rfl
  | j + 1 => by
    have ih := pls_stay t S m h j
    rw [← Nat.add_assoc, (pls_step t S (m + j)).2 (by rw [ih]; exact h), ih]

/-- The table is laid: nothing is free. -/
def Lays (t : Nat) (S : List Sd) (pl : List (Option Nat)) : Prop := ∃ m, pl = pls t S m ∧ frs pl = 0
theorem lays_same {t : Nat} {S : List Sd} {p q : List (Option Nat)} (hp : Lays t S p) (hq : Lays t S q) : p = q := by
  obtain ⟨m, rfl, h⟩ := hp
  obtain ⟨k, rfl, h'⟩ := hq
  rcases Nat.le_total m k with hmk | hmk
  · obtain ⟨j, rfl⟩ := Nat.le.dest hmk
    exact (pls_stay t S m h j).symm
  · obtain ⟨j, rfl⟩ := Nat.le.dest hmk
    exact pls_stay t S k h' j

theorem lays_least {t : Nat} {S : List Sd} {p : List (Option Nat)} (hp : Lays t S p) : ∃ m, p = pls t S (m + 1) ∧ 0 < frs (pls t S m) ∧ frs p = 0 := by
  obtain ⟨m, rfl, h⟩ := hp
  induction m with
  | zero => rw [pls_zero] at h; omega
  | succ m ih =>
    rcases Nat.eq_zero_or_pos (frs (pls t S m)) with h0 | h0
    · have e := (pls_step t S m).2 h0
      rw [e]
      exact ih h0
    · exact ⟨m, rfl, h0, h⟩

/-- The counts, while something is free. -/
theorem counts {t : Nat} {S : List Sd} (hS : 0 < S.length) : ∀ m, (∀ r, r < S.length → cnt r (pls t S m) ≤ vis r (stp S.length m)) ∧ (∀ r, r < S.length → (S[r]!).w = t → 0 < frs (pls t S m) → cnt r (pls t S m) = vis r (stp S.length m))
  | 0 => by
    have h0 : ∀ r, cnt r (pls t S 0) = 0 := fun r => by
      show (List.replicate 251 none).countP (fun x => x == some r) = 0
      rw [List.countP_replicate, if_neg (by simp)]
    exact ⟨fun r _ => by rw [h0]; exact Nat.zero_le _, fun r _ _ _ => by rw [h0]; rfl⟩
  | m + 1 => by
    obtain ⟨h1, h2⟩ := counts hS m
    have hlt := stp_lt S.length hS m
    have hmono := (pls_step t S m).1
    refine ⟨fun r hr => ?_, fun r hr hw hf => ?_⟩
    · have hv := vis_nxt S.length r (stp S.length m) hlt hr
      have h1 := h1 r hr
      show cnt r (pls t S (m + 1)) ≤ vis r (nxt S.length (stp S.length m))
      rw [hv]
      simp only [pls]
      split
      · rcases Nat.eq_zero_or_pos (frs (pls t S m)) with h | h
        · rw [fill_full _ h]; exact Nat.le_trans h1 (Nat.le_add_right _ _)
        · rw [(fill_one _ (pls_len t S m) h).2 r]; exact Nat.add_le_add_right h1 _
      · exact Nat.le_trans h1 (Nat.le_add_right _ _)
    · have hf' : 0 < frs (pls t S m) := by omega
      have hv := vis_nxt S.length r (stp S.length m) hlt hr
      have h2 := h2 r hr hw hf'
      show cnt r (pls t S (m + 1)) = vis r (nxt S.length (stp S.length m))
      rw [hv]
      simp only [pls]
      split
      · rw [(fill_one _ (pls_len t S m) hf').2 r, h2]
      · rename_i hc
        by_cases e : r = (stp S.length m).2
        · exfalso
          apply hc
          simp only [came, ← e, hw, decide_eq_true_eq]
          omega
        · simp only [e, if_false]; omega

/-- Who has the greatest weight has no fewer than any other one has, but one. -/
theorem shares {t : Nat} {S : List Sd} {p : List (Option Nat)} (hS : 0 < S.length) (hp : Lays t S p) (x y : Nat) (hx : x < S.length) (hy : y < S.length) (hw : (S[x]!).w = t) : cnt y p ≤ cnt x p + 1 := by
  obtain ⟨m, rfl, hf, hz⟩ := lays_least hp
  obtain ⟨h1, h2⟩ := counts (t := t) hS m
  have h1 := h1 y hy
  have h2 := h2 x hx hw hf
  have hlt := stp_lt S.length hS m
  simp only [pls] at hz ⊢
  split at hz
  · rename_i hc
    simp only [hc, if_true]
    rw [(fill_one _ (pls_len t S m) hf).2 x, (fill_one _ (pls_len t S m) hf).2 y]
    simp only [vis] at h1 h2
    split at h1 <;> split at h2 <;> split <;> split <;> omega
  · omega

/-- Each place is somebody's. -/
theorem pls_who {t : Nat} {S : List Sd} (hS : 0 < S.length) : ∀ (m p r : Nat), (pls t S m)[p]? = some (some r) → r < S.length
  | 0, p, r, h => by
    have h' : (List.replicate 251 (none : Option Nat))[p]? = some (some r) := h
    rw [List.getElem?_replicate] at h'
    split at h' <;> simp at h'
  | m + 1, p, r, h => by
    have ih := pls_who (t := t) hS m p r
    simp only [pls] at h
    split at h
    · unfold fill at h
      split at h
      · rw [List.getElem?_set] at h
        split at h
        · split at h
          · simp at h; rw [← h]; exact stp_lt _ hS m
          · simp at h
        · exact ih h
      · exact ih h
    · exact ih h
theorem lays_who {t : Nat} {S : List Sd} {pl : List (Option Nat)} (hS : 0 < S.length) (h : Lays t S pl) : pl.length = 251 ∧ ∀ p, p < 251 → ∃ r, r < S.length ∧ pl[p]? = some (some r) := by
  obtain ⟨m, rfl, h0⟩ := h
  have hl := pls_len t S m
  refine ⟨hl, fun p hp => ?_⟩
  have e := List.getElem?_eq_getElem (show p < (pls t S m).length by omega)
  rcases hx : (pls t S m)[p]'(by omega) with _ | r
  · rw [hx] at e
    have : 0 < frs (pls t S m) := frs_of_fre (p := p) (by simp [fre, e])
    omega
  · rw [hx] at e
    exact ⟨r, pls_who hS m p r e, e⟩

end Go.Proofs.Ytpkahjflhboddaa
