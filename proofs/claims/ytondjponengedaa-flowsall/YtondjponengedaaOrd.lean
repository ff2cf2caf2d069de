/-
  Comparisons, and what follows from them: flows in order, entries by their ends.
-/
import Derived.Test.YtondjponengedaaLeaf
namespace Go.Proofs.Ytondjponengedaa
set_option linter.unusedVariables false

/-! ## Texts -/
def lt8 (a b : ByteArray) : Bool := Op.bytesLess a.toList b.toList

theorem bl_irr : ∀ x : List UInt8, Op.bytesLess x x = false
  | [] => rfl
  | a :: r => by simp [Op.bytesLess, bl_irr r]
theorem bl_tri : ∀ x y : List UInt8, Op.bytesLess x y = false → Op.bytesLess y x = false → x = y
  | [], [], _, _ => rfl
  | [], _ :: _, h, _ => by simp [Op.bytesLess] at h
  | _ :: _, [], _, h => by simp [Op.bytesLess] at h
  | a :: r, b :: s, h, h' => by
    simp only [Op.bytesLess, Bool.or_eq_false_iff, Bool.and_eq_false_iff, decide_eq_false_iff_not, beq_eq_false_iff_ne, ne_eq] at h h'
    have e : a = b := UInt8.toNat_inj.1 (by have h1 := h.1; have h2 := h'.1; rw [UInt8.lt_iff_toNat_lt] at h1 h2; omega)
    subst e
    have h1 := h.2.resolve_left (by simp)
    have h2 := h'.2.resolve_left (by simp)
    rw [bl_tri r s h1 h2]
theorem bl_trans : ∀ x y z : List UInt8, Op.bytesLess x y = true → Op.bytesLess y z = true → Op.bytesLess x z = true
  | _, _, [], _, h => by rename_i y _; cases y <;> simp [Op.bytesLess] at h
  | [], _, _ :: _, _, _ => by simp [Op.bytesLess]
  | _ :: _, [], _, h, _ => by simp [Op.bytesLess] at h
  | a :: r, b :: s, c :: u, h, h' => by
    simp only [Op.bytesLess, Bool.or_eq_true, Bool.and_eq_true, decide_eq_true_eq, beq_iff_eq] at h h' ⊢
    rw [UInt8.lt_iff_toNat_lt] at *
    rcases h with h | ⟨rfl, h⟩ <;> rcases h' with h' | ⟨rfl, h'⟩
    · left; omega
    · left; exact h
    · left; exact h'
    · right; exact ⟨rfl, bl_trans r s u h h'⟩

theorem lt8_irr (a : ByteArray) : lt8 a a = false := bl_irr _
theorem lt8_trans {a b c : ByteArray} (h : lt8 a b = true) (h' : lt8 b c = true) : lt8 a c = true := bl_trans _ _ _ h h'
theorem toList_inj {a b : ByteArray} (h : a.toList = b.toList) : a = b := by
  rw [ByteArray.toList_eq, ByteArray.toList_eq] at h
  cases a; cases b
  simp at h
  exact congrArg _ h
theorem lt8_tri {a b : ByteArray} (h : lt8 a b = false) (h' : lt8 b a = false) : a = b := toList_inj (bl_tri _ _ h h')

/-! ## What a comparison is -/
structure Cmp {α : Type} (c : α → α → Int) : Prop where
  eq : ∀ x y, c x y = 0 ↔ x = y
  anti : ∀ x y, c x y < 0 ↔ 0 < c y x
  trans : ∀ x y z, c x y < 0 → c y z < 0 → c x z < 0

def cmpI (a b : Int) : Int := if a < b then -1 else if b < a then 1 else 0
def cmp8 (a b : ByteArray) : Int := if lt8 a b then -1 else if lt8 b a then 1 else 0

theorem cmpI_ok : Cmp cmpI where
  eq x y := by unfold cmpI; split <;> (try split) <;> omega
  anti x y := by unfold cmpI; split <;> (try split) <;> (try split) <;> (try split) <;> omega
  trans x y z h h' := by
    unfold cmpI at h h' ⊢
    split at h
    · split at h'
      · rw [if_pos (by omega)]; omega
      · split at h' <;> omega
    · split at h <;> omega
theorem cmp8_neg (x y : ByteArray) : cmp8 x y < 0 ↔ lt8 x y = true := by
  unfold cmp8; split
  · simp_all
  · split <;> simp_all
theorem cmp8_pos (x y : ByteArray) : 0 < cmp8 y x ↔ lt8 x y = true := by
  unfold cmp8; split
  · rename_i h
    constructor
    · intro h2; omega
    · intro h2
      have := lt8_trans h h2
      rw [lt8_irr] at this; simp at this
  · split <;> simp_all
theorem cmp8_ok : Cmp cmp8 where
  eq x y := by
    constructor
    · intro h
      rcases h1 : lt8 x y with _ | _
      · rcases h2 : lt8 y x with _ | _
        · exact lt8_tri h1 h2
        · have := (cmp8_pos y x).2 h2; omega
      · have := (cmp8_neg x y).2 h1; omega
    · rintro rfl; simp [cmp8, lt8_irr]
  anti x y := by rw [cmp8_neg, cmp8_pos]
  trans x y z h h' := by rw [cmp8_neg] at *; exact lt8_trans h h'

/-- The first of two that tells them apart. -/
def or2 (a b : Int) : Int := if a = 0 then b else a
theorem or2_neg {a b : Int} : or2 a b < 0 ↔ a < 0 ∨ (a = 0 ∧ b < 0) := by unfold or2; split <;> omega
theorem or2_pos {a b : Int} : 0 < or2 a b ↔ 0 < a ∨ (a = 0 ∧ 0 < b) := by unfold or2; split <;> omega
theorem or2_zero {a b : Int} : or2 a b = 0 ↔ a = 0 ∧ b = 0 := by unfold or2; split <;> omega

theorem Cmp.refl {α : Type} {c : α → α → Int} (h : Cmp c) (x : α) : c x x = 0 := (h.eq x x).2 rfl
theorem Cmp.lex {α β : Type} {c : α → α → Int} {d : β → β → Int} (h : Cmp c) (k : Cmp d) : Cmp (fun (p q : α × β) => or2 (c p.1 q.1) (d p.2 q.2)) where
  eq x y := by
    rw [or2_zero, h.eq, k.eq]
    exact ⟨fun ⟨a, b⟩ => Prod.ext a b, fun e => by subst e; exact ⟨rfl, rfl⟩⟩
  anti x y := by
    rw [or2_neg, or2_pos, ← h.anti, ← k.anti, h.eq, h.eq]
    exact or_congr Iff.rfl ⟨fun ⟨a, b⟩ => ⟨a.symm, b⟩, fun ⟨a, b⟩ => ⟨a.symm, b⟩⟩
  trans x y z h1 h2 := by
    rw [or2_neg] at *
    rcases h1 with h1 | ⟨h1, h3⟩ <;> rcases h2 with h2 | ⟨h2, h4⟩
    · exact .inl (h.trans _ _ _ h1 h2)
    · rw [h.eq] at h2; rw [h2] at h1; exact .inl h1
    · rw [h.eq] at h1; rw [← h1] at h2; exact .inl h2
    · rw [h.eq] at h1 h2; exact .inr ⟨by rw [h1, h2]; exact h.refl _, k.trans _ _ _ h3 h4⟩
theorem Cmp.by_ {α β : Type} {c : β → β → Int} (h : Cmp c) (f : α → β) (hf : ∀ x y, f x = f y → x = y) : Cmp (fun x y => c (f x) (f y)) where
  eq x y := by rw [h.eq]; exact ⟨hf x y, fun e => by rw [e]⟩
  anti x y := h.anti _ _
  trans x y z h1 h2 := h.trans _ _ _ h1 h2

/-! ## Flows and entries -/
structure Fl where
  proto : Int
  frm : ByteArray
  to_ : ByteArray
  port : Int
  dest : Int
deriving Inhabited
structure En where
  fl : Fl
  bk : Int
  st : Int
  ends : Int
deriving Inhabited

def ordF (a b : Fl) : Int := or2 (cmpI a.proto b.proto) (or2 (cmp8 a.frm b.frm) (or2 (cmpI a.port b.port) (or2 (cmp8 a.to_ b.to_) (cmpI a.dest b.dest))))
theorem ordF_ok : Cmp ordF :=
  Cmp.by_ (Cmp.lex cmpI_ok (Cmp.lex cmp8_ok (Cmp.lex cmpI_ok (Cmp.lex cmp8_ok cmpI_ok)))) (fun f : Fl => (f.proto, f.frm, f.port, f.to_, f.dest)) fun x y h => by
    cases x; cases y; simp at h; simp [h]
def ordE (a b : En) : Int := or2 (cmpI a.ends b.ends) (ordF a.fl b.fl)
def keyE (a : En) : Int × Fl := (a.ends, a.fl)
theorem ordK_ok : Cmp (fun p q : Int × Fl => or2 (cmpI p.1 q.1) (ordF p.2 q.2)) := Cmp.lex cmpI_ok ordF_ok

/-- Which flow is ahead. -/
def ahd (a b : Fl) : Bool := decide (ordF a b < 0)

instance : DecidableEq Fl := fun a b => if h : ordF a b = 0 then .isTrue ((ordF_ok.eq a b).1 h) else .isFalse fun e => h ((ordF_ok.eq a b).2 e)

/-! ## Rows in order -/
theorem row_unique {α : Type} {R : α → α → Prop} (asym : ∀ x y, R x y → ¬ R y x) : ∀ l m : List α, l.Pairwise R → m.Pairwise R → l.Perm m → l = m
  | [], m, _, _, h => h.nil_eq
  | a :: r, [], _, _, h => absurd h.symm.nil_eq (by simp)
  | a :: r, b :: s, h1, h2, h => by
    rw [List.pairwise_cons] at h1 h2
    have ha : a ∈ b :: s := h.subset (List.mem_cons_self)
    have hb : b ∈ a :: r := h.symm.subset (List.mem_cons_self)
    have e : a = b := by
      rcases List.mem_cons.1 ha with e | ha
      · exact e
      · rcases List.mem_cons.1 hb with e | hb
        · exact e.symm
        · exact absurd (h1.1 b hb) (asym _ _ (h2.1 a ha))
    subst e
    rw [row_unique asym r s h1.2 h2.2 ((List.perm_cons a).1 h)]

end Go.Proofs.Ytondjponengedaa
