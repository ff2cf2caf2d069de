/-
  Places that are gone round: what is found, what is laid, what is left.
-/
import Derived.Test.YtondjponengedaaMath2
namespace Go.Proofs.Ytondjponengedaa
set_option linter.unusedVariables false

structure Pc where
  is_ : Nat
  en : En
deriving Inhabited

def cnt (pl : List Pc) (j : Nat) : Nat := pl.countP fun p => p.is_ == j
def ent1 (p : Pc) : List En := if p.is_ = 2 then [p.en] else []
def ents (pl : List Pc) : List En := pl.flatMap ent1

def fnd (pl : List Pc) (f : Fl) : Nat → Nat → Option Nat → Nat × Bool
  | 0, at_, fr => (fr.getD at_, false)
  | n + 1, at_, fr =>
    if (pl[at_]!).is_ = 2 then (if (pl[at_]!).en.fl = f then (at_, true) else fnd pl f n ((at_ + 1) % 128) fr)
    else if (pl[at_]!).is_ = 1 then fnd pl f n ((at_ + 1) % 128) (some (fr.getD at_))
    else (fr.getD at_, false)

structure TabP (h : Fl → Nat) (pl : List Pc) (L : List En) : Prop where
  len : pl.length = 128
  kinds : ∀ i, i < 128 → (pl[i]!).is_ ≤ 2
  perm : (ents pl).Perm L
  fine : Fine L
  chain : ∀ i, i < 128 → (pl[i]!).is_ = 2 → ∀ j, j < (i + 128 - h (pl[i]!).en.fl) % 128 → (pl[(h (pl[i]!).en.fl + j) % 128]!).is_ ≠ 0
  uniq : ∀ i j, i < 128 → j < 128 → (pl[i]!).is_ = 2 → (pl[j]!).is_ = 2 → (pl[i]!).en.fl = (pl[j]!).en.fl → i = j

theorem at_set {pl : List Pc} {i : Nat} (hi : i < pl.length) (p : Pc) (j : Nat) : (pl.set i p)[j]! = if j = i then p else pl[j]! := by
  rcases Nat.lt_or_ge j pl.length with h | h
  · rw [getElem!_pos _ j (by simpa using h), getElem!_pos pl j h, List.getElem_set]
    by_cases e : i = j
    · rw [if_pos e, if_pos e.symm]
    · rw [if_neg e, if_neg (Ne.symm e)]
  · rw [if_neg (by omega), getElem!_neg _ j (by simpa using h), getElem!_neg pl j (by omega)]
theorem parts_of {pl : List Pc} {i : Nat} (hi : i < pl.length) (p : Pc) : pl = pl.take i ++ pl[i]! :: pl.drop (i + 1) ∧ pl.set i p = pl.take i ++ p :: pl.drop (i + 1) := by
  constructor
  · rw [getElem!_pos pl i hi, List.getElem_cons_drop, List.take_append_drop]
  · rw [List.set_eq_take_append_cons_drop, if_pos hi]
theorem cnt_set {pl : List Pc} {i : Nat} (hi : i < pl.length) (p : Pc) (j : Nat) : cnt (pl.set i p) j + (if (pl[i]!).is_ = j then 1 else 0) = cnt pl j + (if p.is_ = j then 1 else 0) := by
  obtain ⟨h1, h2⟩ := parts_of hi p
  have e1 : cnt pl j = cnt (pl.take i ++ pl[i]! :: pl.drop (i + 1)) j := congrArg (cnt · j) h1
  rw [e1, h2]
  simp only [cnt, List.countP_append, List.countP_cons, beq_iff_eq]
  omega
theorem ents_set {pl : List Pc} {i : Nat} (hi : i < pl.length) (p : Pc) : ∃ R, (ents pl).Perm (ent1 pl[i]! ++ R) ∧ (ents (pl.set i p)).Perm (ent1 p ++ R) := by
  obtain ⟨h1, h2⟩ := parts_of hi p
  refine ⟨ents (pl.take i) ++ ents (pl.drop (i + 1)), ?_, ?_⟩
  · have e1 : ents pl = ents (pl.take i ++ pl[i]! :: pl.drop (i + 1)) := congrArg ents h1
    rw [e1]
    simp only [ents, List.flatMap_append, List.flatMap_cons]
    rw [← List.append_assoc, ← List.append_assoc]
    exact List.perm_append_comm.append_right _
  · rw [h2]
    simp only [ents, List.flatMap_append, List.flatMap_cons]
    rw [← List.append_assoc, ← List.append_assoc]
    exact List.perm_append_comm.append_right _
theorem mem_ents {pl : List Pc} {e : En} : e ∈ ents pl ↔ ∃ i, i < pl.length ∧ (pl[i]!).is_ = 2 ∧ (pl[i]!).en = e := by
  unfold ents
  rw [List.mem_flatMap]
  constructor
  · rintro ⟨p, hp, he⟩
    obtain ⟨i, hi, rfl⟩ := List.getElem_of_mem hp
    unfold ent1 at he
    split at he
    · rename_i h2
      refine ⟨i, hi, ?_, ?_⟩ <;> rw [getElem!_pos pl i hi]
      · exact h2
      · exact (List.mem_singleton.1 he).symm
    · simp at he
  · rintro ⟨i, hi, h2, h3⟩
    rw [getElem!_pos pl i hi] at h2 h3
    exact ⟨pl[i], List.getElem_mem hi, by rw [ent1, if_pos h2, h3]; exact List.mem_singleton.2 rfl⟩
theorem ents_len : ∀ pl : List Pc, (ents pl).length = cnt pl 2
  | [] => rfl
  | p :: r => by
    have ih := ents_len r
    unfold ents cnt at *
    rw [List.flatMap_cons, List.length_append, ih, List.countP_cons]
    unfold ent1
    by_cases h : p.is_ = 2
    · simp [h]; omega
    · simp [h]
theorem cnt_some {pl : List Pc} (h : 1 ≤ cnt pl 0) : ∃ i, i < pl.length ∧ (pl[i]!).is_ = 0 := by
  obtain ⟨p, hp, h0⟩ := List.countP_pos_iff.1 (show 0 < pl.countP (fun p => p.is_ == 0) from h)
  obtain ⟨i, hi, rfl⟩ := List.getElem_of_mem hp
  exact ⟨i, hi, by rw [getElem!_pos pl i hi]; simpa using h0⟩

section
variable {h : Fl → Nat} {pl : List Pc} {L : List En}

theorem TabP.taken (T : TabP h pl L) {i : Nat} (hi : i < 128) (h2 : (pl[i]!).is_ = 2) : (pl[i]!).en ∈ L := T.perm.subset (mem_ents.2 ⟨i, by rw [T.len]; exact hi, h2, rfl⟩)
theorem TabP.place (T : TabP h pl L) {e : En} (he : e ∈ L) : ∃ i, i < 128 ∧ (pl[i]!).is_ = 2 ∧ (pl[i]!).en = e := by
  obtain ⟨i, hi, h2⟩ := mem_ents.1 (T.perm.symm.subset he)
  exact ⟨i, by rw [← T.len]; exact hi, h2⟩
theorem TabP.count (T : TabP h pl L) : cnt pl 2 = L.length := by rw [← ents_len, T.perm.length_eq]

theorem fnd_yes (T : TabP h pl L) (hh : ∀ f, h f < 128) {i : Nat} (hi : i < 128) (h2 : (pl[i]!).is_ = 2) {f : Fl} (hf : (pl[i]!).en.fl = f) :
    ∀ (n k : Nat) (fr : Option Nat), k + n = 128 → k ≤ (i + 128 - h f) % 128 → fnd pl f n ((h f + k) % 128) fr = (i, true)
  | 0, k, fr, hk, hd => by omega
  | n + 1, k, fr, hk, hd => by
    have hhf := hh f
    rw [fnd]
    by_cases e : (h f + k) % 128 = i
    · rw [e, if_pos h2, if_pos hf]
    · have hlt : k < (i + 128 - h f) % 128 := by omega
      have hne := T.chain i hi h2 k (by rw [hf]; exact hlt)
      rw [hf] at hne
      have ek : ((h f + k) % 128 + 1) % 128 = (h f + (k + 1)) % 128 := by omega
      split
      · rename_i h3
        rw [if_neg (fun h4 => e (T.uniq _ i (by omega) hi h3 h2 (by rw [h4, hf]))), ek]
        exact fnd_yes T hh hi h2 hf n (k + 1) fr (by omega) (by omega)
      · rw [if_pos (by
          have := T.kinds ((h f + k) % 128) (by omega)
          omega), ek]
        exact fnd_yes T hh hi h2 hf n (k + 1) _ (by omega) (by omega)

theorem fnd_no (T : TabP h pl L) (hh : ∀ f, h f < 128) (hr : 1 ≤ cnt pl 0) {f : Fl} (hn : ∀ i, i < 128 → (pl[i]!).is_ = 2 → (pl[i]!).en.fl ≠ f) :
    ∀ (n k : Nat) (fr : Option Nat), k + n = 128 → (∀ j, j < k → (pl[(h f + j) % 128]!).is_ ≠ 0) → (fr = none ∨ ∃ m, m < k ∧ fr = some ((h f + m) % 128) ∧ (pl[(h f + m) % 128]!).is_ = 1) →
    ∃ a, fnd pl f n ((h f + k) % 128) fr = (a, false) ∧ a < 128 ∧ (pl[a]!).is_ ≠ 2 ∧ ∀ j, j < (a + 128 - h f) % 128 → (pl[(h f + j) % 128]!).is_ ≠ 0
  | 0, k, fr, hk, hc, _ => by
    exfalso
    have hhf := hh f
    obtain ⟨i, hi, h0⟩ := cnt_some hr
    rw [T.len] at hi
    refine hc ((i + 128 - h f) % 128) (by omega) ?_
    rw [show (h f + (i + 128 - h f) % 128) % 128 = i by omega]
    exact h0
  | n + 1, k, fr, hk, hc, hfr => by
    have hhf := hh f
    have ek : ((h f + k) % 128 + 1) % 128 = (h f + (k + 1)) % 128 := by omega
    rw [fnd]
    split
    · rename_i h3
      rw [if_neg (hn _ (by omega) h3), ek]
      refine fnd_no T hh hr hn n (k + 1) fr (by omega) (fun j hj => ?_) ?_
      · rcases Nat.lt_or_ge j k with h4 | h4
        · exact hc j h4
        · obtain rfl : j = k := by omega
          omega
      · rcases hfr with h4 | ⟨m, h4, h5⟩
        · exact .inl h4
        · exact .inr ⟨m, by omega, h5⟩
    · rename_i h3
      split
      · rename_i h4
        rw [ek]
        refine fnd_no T hh hr hn n (k + 1) _ (by omega) (fun j hj => ?_) (.inr ?_)
        · rcases Nat.lt_or_ge j k with h5 | h5
          · exact hc j h5
          · obtain rfl : j = k := by omega
            omega
        · rcases hfr with rfl | ⟨m, h5, rfl, h6⟩
          · exact ⟨k, by omega, rfl, h4⟩
          · exact ⟨m, by omega, rfl, h6⟩
      · rename_i h4
        rcases hfr with rfl | ⟨m, h5, rfl, h6⟩
        · refine ⟨(h f + k) % 128, rfl, by omega, h3, fun j hj => hc j (by omega)⟩
        · refine ⟨(h f + m) % 128, rfl, by omega, by omega, fun j hj => hc j (by omega)⟩

/-- What is found. -/
theorem TabP.find (T : TabP h pl L) (hh : ∀ f, h f < 128) (hr : 1 ≤ cnt pl 0) (f : Fl) : ∃ a, fnd pl f 128 (h f) none = (a, (getF L f).isSome) ∧ a < 128 ∧
    (∀ j, j < (a + 128 - h f) % 128 → (pl[(h f + j) % 128]!).is_ ≠ 0) ∧ (∀ e, getF L f = some e → (pl[a]!).is_ = 2 ∧ (pl[a]!).en = e) ∧ (getF L f = none → (pl[a]!).is_ ≠ 2) := by
  have hhf := hh f
  rcases hg : getF L f with _ | e
  · obtain ⟨a, h1, h2, h3, h4⟩ := fnd_no T hh hr (f := f) (fun i hi h2 => getF_none.1 hg _ (T.taken hi h2)) 128 0 none rfl (fun j hj => absurd hj (Nat.not_lt_zero j)) (.inl rfl)
    rw [Nat.add_zero, Nat.mod_eq_of_lt hhf] at h1
    exact ⟨a, h1, h2, h4, fun e he => by simp at he, fun _ => h3⟩
  · obtain ⟨he, hf⟩ := getF_mem hg
    obtain ⟨i, hi, h2, h3⟩ := T.place he
    have h1 := fnd_yes T hh hi h2 (f := f) (by rw [h3, hf]) 128 0 none rfl (Nat.zero_le _)
    rw [Nat.add_zero, Nat.mod_eq_of_lt hhf] at h1
    refine ⟨i, h1, hi, fun j hj => ?_, fun e' he' => ⟨h2, by rw [h3]; exact Option.some.inj he'⟩, fun hn => by simp at hn⟩
    have := T.chain i hi h2 j (by rw [h3, hf]; exact hj)
    rwa [h3, hf] at this

/-- What is laid. -/
theorem TabP.lay (T : TabP h pl L) (hh : ∀ f, h f < 128) {e : En} {a : Nat} (ha : a < 128) (hc : ∀ j, j < (a + 128 - h e.fl) % 128 → (pl[(h e.fl + j) % 128]!).is_ ≠ 0)
    (h1 : ∀ x, getF L e.fl = some x → (pl[a]!).is_ = 2 ∧ (pl[a]!).en = x) (h2 : getF L e.fl = none → (pl[a]!).is_ ≠ 2) (hf : Fine (wth L e)) : TabP h (pl.set a ⟨2, e⟩) (wth L e) := by
  have hal : a < pl.length := by rw [T.len]; exact ha
  have hne : ∀ j : Nat, (pl[j]!).is_ ≠ 0 → ((pl.set a ⟨2, e⟩)[j]!).is_ ≠ 0 := fun j hj => by
    rw [at_set hal]; split
    · simp
    · exact hj
  have hun : ∀ i, i < 128 → i ≠ a → (pl[i]!).is_ = 2 → (pl[i]!).en.fl ≠ e.fl := fun i hi hia hi2 hfe => by
    rcases hg : getF L e.fl with _ | x
    · exact getF_none.1 hg _ (T.taken hi hi2) hfe
    · obtain ⟨h3, h4⟩ := h1 x hg
      exact hia (T.uniq i a hi ha hi2 h3 (by rw [h4, hfe, (getF_mem hg).2]))
  refine ⟨by simp [T.len], fun i hi => ?_, ?_, hf, fun i hi hi2 j hj => ?_, fun i j hi hj hi2 hj2 hij => ?_⟩
  · rw [at_set hal]; split
    · simp
    · exact T.kinds i hi
  · obtain ⟨R, hp, hq⟩ := ents_set hal ⟨2, e⟩
    refine hq.trans (List.Perm.trans ?_ (wth_perm L e).symm)
    show ((e :: []) ++ R).Perm _
    refine List.Perm.cons e ?_
    rcases hg : getF L e.fl with _ | x
    · rw [wo_none hg]
      have h3 := h2 hg
      rw [ent1, if_neg h3, List.nil_append] at hp
      exact hp.symm.trans T.perm
    · obtain ⟨h3, h4⟩ := h1 x hg
      obtain ⟨h5, h6⟩ := getF_mem hg
      rw [ent1, if_pos h3, h4] at hp
      have h7 := srt_perm T.fine.1 h5
      rw [h6] at h7
      exact (List.perm_cons x).1 ((hp.symm.trans T.perm).trans h7)
  · by_cases eia : i = a
    · have e1 : (pl.set a ⟨2, e⟩)[i]! = ⟨2, e⟩ := by rw [at_set hal, if_pos eia]
      rw [e1] at hj ⊢
      rw [eia] at hj
      exact hne _ (hc j hj)
    · have e1 : (pl.set a ⟨2, e⟩)[i]! = pl[i]! := by rw [at_set hal, if_neg eia]
      rw [e1] at hi2 hj ⊢
      exact hne _ (T.chain i hi hi2 j hj)
  · rw [at_set hal] at hi2 hij
    rw [at_set hal] at hj2 hij
    by_cases ei : i = a
    · by_cases ej : j = a
      · rw [ei, ej]
      · rw [if_pos ei, if_neg ej] at hij
        rw [if_neg ej] at hj2
        exact absurd hij.symm (hun j hj ej hj2)
    · rw [if_neg ei] at hi2 hij
      by_cases ej : j = a
      · rw [if_pos ej] at hij
        exact absurd hij (hun i hi ei hi2)
      · rw [if_neg ej] at hj2 hij
        exact T.uniq i j hi hj hi2 hj2 hij

/-- What is left. -/
theorem TabP.drop (T : TabP h pl L) {f : Fl} {x : En} {a : Nat} (ha : a < 128) (hg : getF L f = some x) (h3 : (pl[a]!).is_ = 2) (h4 : (pl[a]!).en = x) : TabP h (pl.set a ⟨1, Z⟩) (wo L f) := by
  have hal : a < pl.length := by rw [T.len]; exact ha
  have hne : ∀ j : Nat, (pl[j]!).is_ ≠ 0 → ((pl.set a ⟨1, Z⟩)[j]!).is_ ≠ 0 := fun j hj => by
    rw [at_set hal]; split
    · simp
    · exact hj
  have hold : ∀ i : Nat, ((pl.set a ⟨1, Z⟩)[i]!).is_ = 2 → (pl.set a ⟨1, Z⟩)[i]! = pl[i]! := fun i hi => by
    rw [at_set hal] at hi ⊢
    split at hi
    · simp at hi
    · rename_i h5; rw [if_neg h5]
  refine ⟨by simp [T.len], fun i hi => ?_, ?_, T.fine.wo f, fun i hi hi2 j hj => ?_, fun i j hi hj hi2 hj2 hij => ?_⟩
  · rw [at_set hal]; split
    · simp
    · exact T.kinds i hi
  · obtain ⟨R, hp, hq⟩ := ents_set hal ⟨1, Z⟩
    refine hq.trans ?_
    show ([] ++ R).Perm _
    obtain ⟨h5, h6⟩ := getF_mem hg
    rw [ent1, if_pos h3, h4] at hp
    have h7 := srt_perm T.fine.1 h5
    rw [h6] at h7
    exact (List.perm_cons x).1 ((hp.symm.trans T.perm).trans h7)
  · have e := hold i hi2
    rw [e] at hj hi2 ⊢
    exact hne _ (T.chain i hi hi2 j hj)
  · have e1 := hold i hi2
    have e2 := hold j hj2
    rw [e1, e2] at hij
    rw [e1] at hi2
    rw [e2] at hj2
    exact T.uniq i j hi hj hi2 hj2 hij

theorem TabP.turn (T : TabP h pl L) {L' : List En} (hp : L.Perm L') (hf : Fine L') : TabP h pl L' := ⟨T.len, T.kinds, T.perm.trans hp, hf, T.chain, T.uniq⟩

theorem TabP.new (h : Fl → Nat) : TabP h (List.replicate 128 ⟨0, Z⟩) [] := by
  have he : ∀ i, i < 128 → (List.replicate 128 (⟨0, Z⟩ : Pc))[i]! = ⟨0, Z⟩ := fun i hi => by rw [getElem!_pos _ i (by rw [List.length_replicate]; exact hi), List.getElem_replicate]
  refine ⟨List.length_replicate, fun i hi => ?_, ?_, Fine.nil, fun i hi hi2 => ?_, fun i j hi hj hi2 => ?_⟩
  · rw [he i hi]; simp
  · have : ents (List.replicate 128 (⟨0, Z⟩ : Pc)) = [] := by
      unfold ents
      rw [List.flatMap_eq_nil_iff]
      intro p hp
      rw [(List.mem_replicate.1 hp).2]; rfl
    rw [this]
  · rw [he i hi] at hi2; simp at hi2
  · rw [he i hi] at hi2; simp at hi2
end
theorem cnt_new (j : Nat) : cnt (List.replicate 128 (⟨0, Z⟩ : Pc)) j = if j = 0 then 128 else 0 := by
  unfold cnt
  rw [List.countP_replicate]
  by_cases h : j = 0
  · subst h; simp
  · have : ((0 : Nat) == j) = false := by simpa using Ne.symm h
    simp [this, h]

end Go.Proofs.Ytondjponengedaa
