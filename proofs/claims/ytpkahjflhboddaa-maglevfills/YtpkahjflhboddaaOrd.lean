/-
  Backends, in order of their names.
-/
import Derived.Test.YtpkahjflhboddaaMag
namespace Go.Proofs.Ytpkahjflhboddaa
set_option linter.unusedVariables false

/-! ## Names -/
def lt8 (a b : ByteArray) : Bool := Op.bytesLess a.toList b.toList

theorem bl_irr : ∀ x : List UInt8, Op.bytesLess x x = false
  | [] => rfl
  | a :: r => by simp [Op.bytesLess, bl_irr r]
theorem bl_tri : ∀ x y : List UInt8, Op.bytesLess x y = false → Op.bytesLess y x = false → x = y
  | [], [], _, _ => rfl
  | [], _ :: _, h, _ => by simp [Op.bytesLess] at h
  | _ :: _, [], _, h => by simp [Op.bytesLess] at h
  | a :: r, b :: s, h, h' => by
    simp only [Op.bytesLess, Bool.or_eq_false_iff, Bool.and_eq_false_iff, decide_eq_false_iff_not, beq_eq_false_iff_ne, ne_eq] at h h'
    have e : a = b := UInt8.toNat_inj.1 (by have h1 := h.1; have h2 := h'.1; rw [UInt8.lt_iff_toNat_lt] at h1 h2; omega)
    subst e
    have h1 := h.2.resolve_left (by simp)
    have h2 := h'.2.resolve_left (by simp)
    rw [bl_tri r s h1 h2]
theorem bl_trans : ∀ x y z : List UInt8, Op.bytesLess x y = true → Op.bytesLess y z = true → Op.bytesLess x z = true
  | _, _, [], _, h => by rename_i y _; cases y <;> simp [Op.bytesLess] at h
  | [], _, _ :: _, _, _ => by simp [Op.bytesLess]
  | _ :: _, [], _, h, _ => by simp [Op.bytesLess] at h
  | a :: r, b :: s, c :: u, h, h' => by
    simp only [Op.bytesLess, Bool.or_eq_true, Bool.and_eq_true, decide_eq_true_eq, beq_iff_eq] at h h' ⊢
    rw [UInt8.lt_iff_toNat_lt] at *
    rcases h with h | ⟨rfl, h⟩ <;> rcases h' with h' | ⟨rfl, h'⟩
    · left; omega
    · left; exact h
    · left; exact h'
    · right; exact ⟨rfl, bl_trans r s u h h'⟩

theorem lt8_irr (a : ByteArray) : lt8 a a = false := bl_irr _
theorem lt8_trans {a b c : ByteArray} (h : lt8 a b = true) (h' : lt8 b c = true) : lt8 a c = true := bl_trans _ _ _ h h'
theorem toList_inj {a b : ByteArray} (h : a.toList = b.toList) : a = b := by
  rw [ByteArray.toList_eq, ByteArray.toList_eq] at h
  cases a; cases b
  simp at h
  exact congrArg _ h
theorem lt8_tri {a b : ByteArray} (h : lt8 a b = false) (h' : lt8 b a = false) : a = b := toList_inj (bl_tri _ _ h h')

/-! ## Backends -/
structure Bk where
  name : ByteArray
  wt : Int
deriving Inhabited

/-- Nobody's name is another one's. -/
def Apart (l : List Bk) : Prop := ∀ i j, i < j → j < l.length → (l[i]!).name ≠ (l[j]!).name
def Fit (b : Bk) : Prop := 1 ≤ b.name.size ∧ b.name.size ≤ 40 ∧ 1 ≤ b.wt ∧ b.wt ≤ 100
def Right (l : List Bk) : Prop := 1 ≤ l.length ∧ l.length ≤ 16 ∧ (∀ i, i < l.length → Fit l[i]!) ∧ Apart l

theorem Apart.same {l : List Bk} (h : Apart l) {i j : Nat} (hi : i < l.length) (hj : j < l.length) (e : (l[i]!).name = (l[j]!).name) : i = j := by
  rcases Nat.lt_trichotomy i j with h1 | h1 | h1
  · exact absurd e (h i j h1 hj)
  · exact h1
  · exact absurd e.symm (h j i h1 hi)

def ahead (l : List Bk) (x : ByteArray) : Nat := l.countP fun b => lt8 b.name x

theorem countP_lt {α : Type} (p q : α → Bool) (hpq : ∀ b, p b = true → q b = true) : ∀ l : List α, (∃ b ∈ l, q b = true ∧ p b = false) → l.countP p < l.countP q
  | [], h => by obtain ⟨b, hb, _⟩ := h; simp at hb
  | a :: r, h => by
    have hm : r.countP p ≤ r.countP q := List.countP_mono_left fun b _ => hpq b
    obtain ⟨b, hb, hq, hp⟩ := h
    rw [List.countP_cons, List.countP_cons]
    rcases List.mem_cons.1 hb with rfl | hb
    · simp [hq, hp]; omega
    · have ih := countP_lt p q hpq r ⟨b, hb, hq, hp⟩
      rcases hpa : p a with _ | _
      · simp; omega
      · simp [hpq a hpa]; omega

theorem ahead_lt {l : List Bk} {x y : ByteArray} (h : lt8 x y = true) (hx : ∃ b ∈ l, b.name = x) : ahead l x < ahead l y := by
  obtain ⟨b, hb, rfl⟩ := hx
  exact countP_lt _ _ (fun c hc => lt8_trans hc h) l ⟨b, hb, h, lt8_irr _⟩
theorem ahead_same {l : List Bk} {x y : ByteArray} (hx : ∃ b ∈ l, b.name = x) (hy : ∃ b ∈ l, b.name = y) (h : ahead l x = ahead l y) : x = y := by
  rcases h1 : lt8 x y with _ | _
  · rcases h2 : lt8 y x with _ | _
    · exact lt8_tri h1 h2
    · have := ahead_lt h2 hy; omega
  · have := ahead_lt h1 hx; omega
theorem ahead_lt_len {l : List Bk} {b : Bk} (hb : b ∈ l) : ahead l b.name < l.length := by
  have h := countP_lt (fun c : Bk => lt8 c.name b.name) (fun _ => true) (fun _ _ => rfl) l ⟨b, hb, rfl, lt8_irr _⟩
  rw [List.countP_true] at h
  exact h

theorem mem_at {l : List Bk} {i : Nat} (hi : i < l.length) : l[i]! ∈ l := by
  rw [getElem!_pos l i hi]; exact List.getElem_mem hi

/-- Numbers, by rising names. -/
def IsOrd (l : List Bk) (o : List Nat) : Prop := o.length = l.length ∧ ∀ r, r < l.length → o[r]! < l.length ∧ ahead l (l[o[r]!]!).name = r

theorem IsOrd.inj {l : List Bk} {o : List Nat} (h : IsOrd l o) {r s : Nat} (hr : r < l.length) (hs : s < l.length) (e : o[r]! = o[s]!) : r = s := by
  have h1 := (h.2 r hr).2
  have h2 := (h.2 s hs).2
  rw [e] at h1
  omega
theorem IsOrd.all {l : List Bk} {o : List Nat} (h : IsOrd l o) (ha : Apart l) {i : Nat} (hi : i < l.length) : ∃ r, r < l.length ∧ o[r]! = i := by
  have hr := ahead_lt_len (mem_at hi)
  refine ⟨_, hr, ?_⟩
  obtain ⟨h1, h2⟩ := h.2 _ hr
  exact ha.same h1 hi (ahead_same ⟨_, mem_at h1, rfl⟩ ⟨_, mem_at hi, rfl⟩ h2)
theorem IsOrd.same {l : List Bk} {o p : List Nat} (h : IsOrd l o) (h' : IsOrd l p) (ha : Apart l) : o = p := by
  have hl : o.length = p.length := by rw [h.1, h'.1]
  apply List.ext_getElem hl
  intro r hr hr'
  have h1 := h.2 r (by rw [← h.1]; exact hr)
  have h2 := h'.2 r (by rw [← h.1]; exact hr)
  rw [getElem!_pos o r hr] at h1
  rw [getElem!_pos p r hr'] at h2
  exact ha.same h1.1 h2.1 (ahead_same ⟨_, mem_at h1.1, rfl⟩ ⟨_, mem_at h2.1, rfl⟩ (by rw [h1.2, h2.2]))

/-- Told in another order they are the same, one by one. -/
theorem IsOrd.turned {l m : List Bk} {o p : List Nat} (h : IsOrd l o) (h' : IsOrd m p) (hm : l.Perm m) (ha : Apart l) {r : Nat} (hr : r < l.length) : l[o[r]!]! = m[p[r]!]! := by
  have hc : ∀ x, ahead m x = ahead l x := fun x => (hm.countP_eq _).symm
  have h1 := h.2 r hr
  have h2 := h'.2 r (by rw [← hm.length_eq]; exact hr)
  have hin : m[p[r]!]! ∈ l := hm.symm.subset (mem_at h2.1)
  obtain ⟨i, hi, he⟩ := List.getElem_of_mem hin
  have he' : l[i]! = m[p[r]!]! := by rw [getElem!_pos l i hi, he]
  rw [← he'] at h2 ⊢
  rw [hc] at h2
  rw [ha.same h1.1 hi (ahead_same ⟨_, mem_at h1.1, rfl⟩ ⟨_, mem_at hi, rfl⟩ (by rw [h1.2, h2.2]))]

/-- Sorted by names they are in order. -/
theorem countP_first {α : Type} [Inhabited α] (p : α → Bool) (r : Nat) : ∀ l : List α, r ≤ l.length → (∀ i, i < l.length → (p l[i]! = true ↔ i < r)) → l.countP p = r := by
  intro l hr h
  rw [← List.take_append_drop r l, List.countP_append]
  have h1 : (l.take r).countP p = r := by
    have : (l.take r).countP p = (l.take r).length := List.countP_eq_length.2 fun a ha => by
      obtain ⟨i, hi, rfl⟩ := List.getElem_of_mem ha
      have hi' : i < r ∧ i < l.length := by
        have : i < min r l.length := by simpa using hi
        omega
      have := (h i hi'.2).2 hi'.1
      rw [getElem!_pos l i hi'.2] at this
      simpa using this
    rw [this]; simp; omega
  have h2 : (l.drop r).countP p = 0 := List.countP_eq_zero.2 fun a ha => by
    obtain ⟨i, hi, rfl⟩ := List.getElem_of_mem ha
    have hi' : r + i < l.length := by simp at hi; omega
    have := h (r + i) hi'
    rw [getElem!_pos l _ hi'] at this
    rw [List.getElem_drop]
    intro hpa
    have := this.1 hpa
    omega
  omega

theorem ord_of_sorted {l : List Bk} {o : List Nat} (ha : Apart l) (hp : o.Perm (List.range l.length)) (hs : ∀ i j, i < j → j < l.length → lt8 (l[o[j]!]!).name (l[o[i]!]!).name = false) : IsOrd l o := by
  have hl : o.length = l.length := by rw [hp.length_eq]; simp
  have hb : ∀ r, r < l.length → o[r]! < l.length := fun r hr => by
    have : o[r]! ∈ o := by rw [getElem!_pos o r (by omega)]; exact List.getElem_mem _
    simpa using hp.subset this
  have hn : o.Nodup := hp.nodup_iff.2 List.nodup_range
  have hlt : ∀ i j, i < j → j < l.length → lt8 (l[o[i]!]!).name (l[o[j]!]!).name = true := fun i j hij hj => by
    rcases h : lt8 (l[o[i]!]!).name (l[o[j]!]!).name with _ | _
    · exfalso
      have e := ha.same (hb i (by omega)) (hb j hj) (lt8_tri h (hs i j hij hj))
      rw [getElem!_pos o i (by omega), getElem!_pos o j (by omega)] at e
      have := (List.getElem_inj hn).1 e
      omega
    · rfl
  refine ⟨hl, fun r hr => ⟨hb r hr, ?_⟩⟩
  have e : l = (List.range l.length).map (fun i => l[i]!) := by
    apply List.ext_getElem (by simp)
    intro i h1 h2
    rw [List.getElem_map, List.getElem_range, getElem!_pos l i h1]
  have e2 : ahead l (l[o[r]!]!).name = (o.map (fun i => l[i]!)).countP fun b => lt8 b.name (l[o[r]!]!).name := by
    have hq := (hp.map (fun i => l[i]!)).countP_eq (fun b => lt8 b.name (l[o[r]!]!).name)
    rw [hq, ← e]; rfl
  rw [e2, List.countP_map]
  apply countP_first _ r o (by omega)
  intro i hi
  simp only [Function.comp]
  constructor
  · intro h
    rcases Nat.lt_trichotomy i r with h1 | h1 | h1
    · exact h1
    · subst h1; rw [lt8_irr] at h; simp at h
    · rw [hs r i h1 (by omega)] at h; simp at h
  · intro h
    exact hlt i r h (by omega)

/-! ## The greatest weight -/
def IsTop (l : List Bk) (t : Int) : Prop := (∀ i, i < l.length → (l[i]!).wt ≤ t) ∧ ∃ i, i < l.length ∧ (l[i]!).wt = t
theorem IsTop.same {l : List Bk} {t u : Int} (h : IsTop l t) (h' : IsTop l u) : t = u := by
  obtain ⟨h1, i, hi, e1⟩ := h
  obtain ⟨h2, j, hj, e2⟩ := h'
  have := h1 j hj
  have := h2 i hi
  omega
theorem IsTop.turned {l m : List Bk} {t : Int} (h : IsTop l t) (hm : l.Perm m) : IsTop m t := by
  obtain ⟨h1, i, hi, e1⟩ := h
  refine ⟨fun j hj => ?_, ?_⟩
  · obtain ⟨k, hk, e⟩ := List.getElem_of_mem (hm.symm.subset (mem_at hj))
    have := h1 k hk
    rw [getElem!_pos l k hk, e] at this
    exact this
  · obtain ⟨k, hk, e⟩ := List.getElem_of_mem (hm.subset (mem_at hi))
    exact ⟨k, hk, by rw [getElem!_pos m k hk, e]; exact e1⟩

/-! ## Places and rings, by numbers -/
def sds (k : List Int) (l : List Bk) (o : List Nat) : List Sd := o.map fun i => ⟨(l[i]!).wt.toNat, (hsh k (bts (l[i]!).name)).toNat, (hsh (trn k) (bts (l[i]!).name)).toNat⟩
theorem sds_len (k : List Int) (l : List Bk) (o : List Nat) : (sds k l o).length = o.length := by simp [sds]
theorem sds_at (k : List Int) (l : List Bk) (o : List Nat) {r : Nat} (hr : r < o.length) : (sds k l o)[r]! = ⟨(l[o[r]!]!).wt.toNat, (hsh k (bts (l[o[r]!]!).name)).toNat, (hsh (trn k) (bts (l[o[r]!]!).name)).toNat⟩ := by
  rw [getElem!_pos _ r (by rw [sds_len]; exact hr), getElem!_pos o r hr]
  simp [sds]
theorem sds_turned (k : List Int) {l m : List Bk} {o p : List Nat} (h : IsOrd l o) (h' : IsOrd m p) (hm : l.Perm m) (ha : Apart l) : sds k l o = sds k m p := by
  have hl : o.length = p.length := by rw [h.1, h'.1, hm.length_eq]
  apply List.ext_getElem (by rw [sds_len, sds_len, hl])
  intro r h1 h2
  rw [sds_len] at h1 h2
  have e := h.turned h' hm ha (r := r) (by rw [← h.1]; exact h1)
  have := sds_at k l o h1
  have e2 := sds_at k m p h2
  rw [e, ← e2] at this
  rwa [getElem!_pos _ r (by rw [sds_len]; exact h1), getElem!_pos _ r (by rw [sds_len]; exact h2)] at this

/-- Whose a place is: a number, or -1. -/
def lab1 (o : List Nat) : Option Nat → Int
  | none => -1
  | some r => (o[r]! : Nat)
def lab (o : List Nat) (pl : List (Option Nat)) : List Int := pl.map (lab1 o)
theorem lab_len (o : List Nat) (pl : List (Option Nat)) : (lab o pl).length = pl.length := by simp [lab]
theorem lab_set (o : List Nat) (pl : List (Option Nat)) (p r : Nat) : lab o (pl.set p (some r)) = (lab o pl).set p ((o[r]! : Nat) : Int) := by simp [lab, List.map_set, lab1]
theorem lab_fre (o : List Nat) (pl : List (Option Nat)) {p : Nat} (hp : p < pl.length) : ∃ x, (lab o pl)[p]? = some x ∧ (fre pl p = true → x = -1) ∧ (fre pl p = false → 0 ≤ x) := by
  refine ⟨lab1 o pl[p], by simp [lab, hp], fun h => ?_, fun h => ?_⟩
  · have : pl[p] = none := by simpa [fre, hp] using h
    rw [this]; rfl
  · rcases hx : pl[p] with _ | r
    · simp [fre, hp, hx] at h
    · simp [lab1]

def ranks (l : List Bk) (o : List Nat) : List Nat := (List.range o.length).flatMap fun r => List.replicate (l[o[r]!]!).wt.toNat r
def ring (l : List Bk) (o : List Nat) : List Int := o.flatMap fun i : Nat => List.replicate (l[i]!).wt.toNat (i : Int)

end Go.Proofs.Ytpkahjflhboddaa
