/-
  What a table of flows answers: entries in a row, in order.
-/
import Derived.Test.YtondjponengedaaOrd
namespace Go.Proofs.Ytondjponengedaa
set_option linter.unusedVariables false

def LtF (x y : En) : Prop := ordF x.fl y.fl < 0
def LtE (x y : En) : Prop := ordE x y < 0
theorem LtF.asym {x y : En} (h : LtF x y) : ¬ LtF y x := fun h2 => by
  have := (ordF_ok.anti _ _).1 h; unfold LtF at h2; omega
theorem LtE.asym {x y : En} (h : LtE x y) : ¬ LtE y x := fun h2 => by
  have := (ordK_ok.anti (keyE x) (keyE y)).1 h
  have : 0 < ordE y x := this
  unfold LtE at h2; omega
theorem LtF.trans {x y z : En} (h : LtF x y) (k : LtF y z) : LtF x z := ordF_ok.trans _ _ _ h k
theorem LtE.trans {x y z : En} (h : LtE x y) (k : LtE y z) : LtE x z := ordK_ok.trans (keyE x) (keyE y) (keyE z) h k
theorem LtF.tri {x y : En} (h : x.fl ≠ y.fl) (h2 : ¬ LtF x y) : LtF y x := by
  have h3 : ordF x.fl y.fl ≠ 0 := fun e => h ((ordF_ok.eq _ _).1 e)
  unfold LtF at *
  rw [ordF_ok.anti]; omega
theorem ltE_iff (x y : En) : LtE x y ↔ x.ends < y.ends ∨ (x.ends = y.ends ∧ LtF x y) := by
  unfold LtE ordE LtF
  rw [or2_neg, cmpI_ok.eq]
  unfold cmpI
  constructor
  · rintro (h | h)
    · split at h
      · left; assumption
      · split at h <;> omega
    · exact .inr h
  · rintro (h | h)
    · left; rw [if_pos h]; omega
    · exact .inr h

/-- In order. -/
def Srt (L : List En) : Prop := L.Pairwise LtF

def getF (L : List En) (f : Fl) : Option En := L.find? fun e => decide (e.fl = f)
def wo (L : List En) (f : Fl) : List En := L.filter fun e => decide (e.fl ≠ f)
def insF (e : En) : List En → List En
  | [] => [e]
  | x :: r => if ahd e.fl x.fl then e :: x :: r else x :: insF e r
def wth (L : List En) (e : En) : List En := insF e (wo L e.fl)

theorem Srt.wo {L : List En} (h : Srt L) (f : Fl) : Srt (wo L f) := h.filter _
theorem mem_wo {L : List En} {f : Fl} {e : En} : e ∈ wo L f ↔ e ∈ L ∧ e.fl ≠ f := by simp [wo]
theorem insF_perm (e : En) : ∀ L : List En, (insF e L).Perm (e :: L)
  | [] => List.Perm.refl _
  | x :: r => by
    rw [insF]; split
    · exact List.Perm.refl _
    · exact ((insF_perm e r).cons x).trans (List.Perm.swap e x r)
theorem insF_srt (e : En) : ∀ L : List En, Srt L → (∀ x ∈ L, x.fl ≠ e.fl) → Srt (insF e L)
  | [], _, _ => by simp [insF, Srt]
  | x :: r, h, hn => by
    have h' := List.pairwise_cons.1 h
    rw [insF]; split
    · rename_i ha
      have ha' : LtF e x := by unfold ahd at ha; exact (decide_eq_true_iff (p := ordF e.fl x.fl < 0)).1 ha
      refine List.pairwise_cons.2 ⟨fun y hy => ?_, h⟩
      rcases List.mem_cons.1 hy with rfl | hy
      · exact ha'
      · exact ha'.trans (h'.1 y hy)
    · rename_i ha
      have ha' : ¬ LtF e x := fun h => ha (by unfold ahd; exact decide_eq_true h)
      refine List.pairwise_cons.2 ⟨fun y hy => ?_, insF_srt e r h'.2 fun y hy => hn y (List.mem_cons_of_mem _ hy)⟩
      rcases List.mem_cons.1 ((insF_perm e r).subset hy) with rfl | hy
      · exact LtF.tri (hn x List.mem_cons_self).symm ha'
      · exact h'.1 y hy
theorem wth_perm (L : List En) (e : En) : (wth L e).Perm (e :: wo L e.fl) := insF_perm _ _
theorem Srt.wth {L : List En} (h : Srt L) (e : En) : Srt (wth L e) := insF_srt e _ (h.wo _) fun x hx => (mem_wo.1 hx).2
theorem mem_wth {L : List En} {e x : En} : x ∈ wth L e ↔ x = e ∨ (x ∈ L ∧ x.fl ≠ e.fl) := by
  rw [(wth_perm L e).mem_iff, List.mem_cons, mem_wo]

theorem Srt.same {L : List En} (h : Srt L) {x y : En} (hx : x ∈ L) (hy : y ∈ L) (e : x.fl = y.fl) : x = y := by
  rcases Classical.em (x = y) with h1 | h1
  · exact h1
  · exfalso
    have hp : ∀ a ∈ L, ∀ b ∈ L, a ≠ b → LtF a b ∨ LtF b a := by
      clear hx hy
      induction L with
      | nil => simp
      | cons c r ih =>
        have h' := List.pairwise_cons.1 h
        intro a ha b hb hab
        rcases List.mem_cons.1 ha with e1 | ha1 <;> rcases List.mem_cons.1 hb with e2 | hb1
        · exact absurd (e1.trans e2.symm) hab
        · rw [e1]; exact .inl (h'.1 b hb1)
        · rw [e2]; exact .inr (h'.1 a ha1)
        · exact ih h'.2 a ha1 b hb1 hab
    have hz : ordF x.fl y.fl = 0 := (ordF_ok.eq _ _).2 e
    have hz2 : ordF y.fl x.fl = 0 := (ordF_ok.eq _ _).2 e.symm
    rcases hp x hx y hy h1 with h2 | h2 <;> unfold LtF at h2 <;> omega
theorem getF_none {L : List En} {f : Fl} : getF L f = none ↔ ∀ x ∈ L, x.fl ≠ f := by simp [getF]
theorem getF_mem {L : List En} {f : Fl} {e : En} (h : getF L f = some e) : e ∈ L ∧ e.fl = f := by
  refine ⟨List.mem_of_find?_eq_some h, ?_⟩
  have := List.find?_some h
  simpa using this
theorem getF_of {L : List En} (h : Srt L) {e : En} (he : e ∈ L) : getF L e.fl = some e := by
  rcases hg : getF L e.fl with _ | x
  · exact absurd rfl (getF_none.1 hg e he)
  · obtain ⟨h1, h2⟩ := getF_mem hg
    rw [h.same h1 he h2]
theorem wo_none {L : List En} {f : Fl} (h : getF L f = none) : wo L f = L := by
  rw [getF_none] at h
  exact List.filter_eq_self.2 fun x hx => by simpa using h x hx
theorem srt_perm {L : List En} (h : Srt L) {e : En} (he : e ∈ L) : L.Perm (e :: wo L e.fl) := by
  induction L with
  | nil => simp at he
  | cons c r ih =>
    have h' := List.pairwise_cons.1 h
    have hne : ∀ x ∈ r, x.fl ≠ c.fl := fun x hx e => by
      have h1 := h'.1 x hx
      have h2 : ordF c.fl x.fl = 0 := (ordF_ok.eq _ _).2 e.symm
      unfold LtF at h1; omega
    rcases List.mem_cons.1 he with rfl | he
    · have : wo (e :: r) e.fl = r := by
        rw [wo, List.filter_cons_of_neg (by simp)]
        exact List.filter_eq_self.2 fun x hx => by simpa using hne x hx
      rw [this]
    · have : wo (c :: r) e.fl = c :: wo r e.fl := by
        rw [wo, List.filter_cons_of_pos (by simpa using (hne e he).symm)]; rfl
      rw [this]
      exact ((ih h'.2 he).cons c).trans (List.Perm.swap e c _)
theorem wo_len {L : List En} (h : Srt L) {f : Fl} {e : En} (he : getF L f = some e) : (wo L f).length + 1 = L.length := by
  obtain ⟨h1, rfl⟩ := getF_mem he
  have := (srt_perm h h1).length_eq
  simpa using this.symm
theorem wth_len_old {L : List En} (h : Srt L) {e x : En} (he : getF L e.fl = some x) : (wth L e).length = L.length := by
  rw [(wth_perm L e).length_eq, List.length_cons, wo_len h he]
theorem wth_len_new {L : List En} {e : En} (he : getF L e.fl = none) : (wth L e).length = L.length + 1 := by
  rw [(wth_perm L e).length_eq, List.length_cons, wo_none he]

/-! ## What has ended -/
def insE (e : En) : List En → List En
  | [] => [e]
  | x :: r => if e.ends < x.ends then e :: x :: r else x :: insE e r
def xpd (now : Int) (L : List En) : List En := (L.filter fun e => decide (e.ends ≤ now)).foldl (fun o x => insE x o) []
theorem insE_perm (e : En) : ∀ L : List En, (insE e L).Perm (e :: L)
  | [] => List.Perm.refl _
  | x :: r => by
    rw [insE]; split
    · exact List.Perm.refl _
    · exact ((insE_perm e r).cons x).trans (List.Perm.swap e x r)
theorem insE_srt (e : En) : ∀ L : List En, L.Pairwise LtE → (∀ x ∈ L, LtF x e) → (insE e L).Pairwise LtE
  | [], _, _ => by simp [insE]
  | x :: r, h, hn => by
    have h' := List.pairwise_cons.1 h
    rw [insE]; split
    · rename_i ha
      have ha' : LtE e x := (ltE_iff _ _).2 (.inl ha)
      refine List.pairwise_cons.2 ⟨fun y hy => ?_, h⟩
      rcases List.mem_cons.1 hy with rfl | hy
      · exact ha'
      · exact ha'.trans (h'.1 y hy)
    · rename_i ha
      refine List.pairwise_cons.2 ⟨fun y hy => ?_, insE_srt e r h'.2 fun y hy => hn y (List.mem_cons_of_mem _ hy)⟩
      rcases List.mem_cons.1 ((insE_perm e r).subset hy) with rfl | hy
      · have hx := hn x List.mem_cons_self
        refine (ltE_iff _ _).2 ?_
        rcases Int.lt_or_le x.ends y.ends with h1 | h1
        · exact .inl h1
        · exact .inr ⟨by omega, hx⟩
      · exact h'.1 y hy
theorem fold_insE : ∀ (L o : List En), Srt L → o.Pairwise LtE → (∀ x ∈ o, ∀ y ∈ L, LtF x y) → (L.foldl (fun o x => insE x o) o).Pairwise LtE ∧ (L.foldl (fun o x => insE x o) o).Perm (L ++ o)
  | [], o, _, h, _ => ⟨h, List.Perm.refl _⟩
  | a :: r, o, hs, ho, hx => by
    have h' := List.pairwise_cons.1 hs
    have ih := fold_insE r (insE a o) h'.2 (insE_srt a o ho fun x hx' => hx x hx' a List.mem_cons_self) (fun x hx' y hy => by
      rcases List.mem_cons.1 ((insE_perm a o).subset hx') with rfl | hx'
      · exact h'.1 y hy
      · exact hx x hx' y (List.mem_cons_of_mem _ hy))
    refine ⟨ih.1, ih.2.trans ?_⟩
    exact ((insE_perm a o).append_left r).trans List.perm_middle
theorem xpd_srt {L : List En} (h : Srt L) (now : Int) : (xpd now L).Pairwise LtE ∧ (xpd now L).Perm (L.filter fun e => decide (e.ends ≤ now)) := by
  have := fold_insE (L.filter fun e => decide (e.ends ≤ now)) [] (h.filter _) List.Pairwise.nil (by simp)
  simpa [xpd] using this

/-! ## What is answered -/
open Go in
def stp (s f : Int) : Int :=
  if s = 4 then 4 else if bits BinOp.and IntKind.i64 f 5 ≠ 0 then 3 else if s = 1 ∧ bits BinOp.and IntKind.i64 f 18 = 16 then 2 else if s = 3 ∧ bits BinOp.and IntKind.i64 f 18 = 2 then 1 else s
def lif (s : Int) : Int := if s = 1 then 60 else if s = 2 then 900 else if s = 3 then 30 else if s = 4 then 120 else 0
def okS (b : Int) : Bool := decide (0 ≤ b) && decide (b < 16)
def okN (now : Int) : Bool := decide (0 ≤ now) && decide (now ≤ 1099511626776)
def okE (e : En) : Bool := okS e.bk && decide (1 ≤ e.st) && decide (e.st ≤ 4) && decide (0 ≤ e.ends) && decide (e.ends ≤ 1099511627776)
def Z : En := ⟨⟨0, ByteArray.empty, ByteArray.empty, 0, 0⟩, 0, 0, 0⟩

def firstSt (f : Fl) (fl : Int) : Int := if f.proto = 6 then stp 1 fl else 4
def opn (L : List En) (f : Fl) (b fl now : Int) : List En × Int :=
  if (okS b && okN now) = false then (L, 1)
  else if getF L f = none ∧ 64 ≤ L.length then (L, 100)
  else (wth L ⟨f, b, firstSt f fl, now + lif (firstSt f fl)⟩, 0)
def put_ (L : List En) (e : En) (now : Int) : List En × Int :=
  if (okE e && okN now) = false then (L, 1)
  else if getF L e.fl = none ∧ 64 ≤ L.length then (L, 100)
  else if e.ends ≤ now then (wo L e.fl, 101)
  else (wth L e, 0)
def seen (e : En) (fl now : Int) : En := ⟨e.fl, e.bk, stp e.st fl, now + lif (stp e.st fl)⟩
def see (L : List En) (f : Fl) (fl now : Int) : List En × En × Bool :=
  match getF L f with
  | none => (L, Z, false)
  | some e => if okN now = false then (L, Z, false) else (wth L (seen e fl now), seen e fl now, true)
def liv (now : Int) (L : List En) : List En := L.filter fun e => decide (now < e.ends)

structure Opr where
  kind : Int
  flags : Int
  now : Int
  e : En
structure Ans where
  err : Int
  seen : En
  l : List En
def acts (L : List En) (o : Opr) : List En × Ans :=
  if o.kind = 0 then ((opn L o.e.fl o.e.bk o.flags o.now).1, ⟨(opn L o.e.fl o.e.bk o.flags o.now).2, Z, []⟩)
  else if o.kind = 1 then ((see L o.e.fl o.flags o.now).1, ⟨if (see L o.e.fl o.flags o.now).2.2 then 0 else 1, (see L o.e.fl o.flags o.now).2.1, []⟩)
  else if o.kind = 2 then ((put_ L o.e o.now).1, ⟨(put_ L o.e o.now).2, Z, []⟩)
  else if o.kind = 3 then (wo L o.e.fl, ⟨if (getF L o.e.fl).isSome then 0 else 1, Z, []⟩)
  else if o.kind = 4 then (liv o.now L, ⟨0, Z, xpd o.now L⟩)
  else (L, ⟨0, Z, []⟩)

/-- A row that a table may hold. -/
def Fine (L : List En) : Prop := Srt L ∧ L.length ≤ 64

theorem Fine.nil : Fine [] := ⟨List.Pairwise.nil, by simp⟩
theorem Fine.wo {L : List En} (h : Fine L) (f : Fl) : Fine (wo L f) := ⟨h.1.wo f, Nat.le_trans (List.length_filter_le _ _) h.2⟩
theorem Fine.liv {L : List En} (h : Fine L) (now : Int) : Fine (liv now L) := ⟨h.1.filter _, Nat.le_trans (List.length_filter_le _ _) h.2⟩
theorem Fine.wth {L : List En} (h : Fine L) (e : En) (hr : ¬ (getF L e.fl = none ∧ 64 ≤ L.length)) : Fine (wth L e) := by
  refine ⟨h.1.wth e, ?_⟩
  rcases hg : getF L e.fl with _ | x
  · rw [wth_len_new hg]
    have h64 : ¬ 64 ≤ L.length := fun h64 => hr ⟨hg, h64⟩
    omega
  · rw [wth_len_old h.1 hg]; exact h.2
theorem Fine.opn {L : List En} (h : Fine L) (f : Fl) (b fl now : Int) : Fine (opn L f b fl now).1 := by
  unfold Go.Proofs.Ytondjponengedaa.opn
  split
  · exact h
  · split
    · exact h
    · rename_i h2
      exact h.wth ⟨f, b, firstSt f fl, now + lif (firstSt f fl)⟩ h2
theorem Fine.put {L : List En} (h : Fine L) (e : En) (now : Int) : Fine (put_ L e now).1 := by
  unfold put_
  split
  · exact h
  · split
    · exact h
    · split
      · exact h.wo _
      · rename_i h2 h3; exact h.wth e h2
theorem Fine.see {L : List En} (h : Fine L) (f : Fl) (fl now : Int) : Fine (see L f fl now).1 := by
  unfold Go.Proofs.Ytondjponengedaa.see
  rcases hg : getF L f with _ | x
  · exact h
  · simp only
    split
    · exact h
    · exact h.wth _ fun h2 => by
        have := (getF_mem hg).2
        rw [show (seen x fl now).fl = x.fl from rfl, this, hg] at h2; simp at h2
theorem Fine.acts {L : List En} (h : Fine L) (o : Opr) : Fine (acts L o).1 := by
  unfold Go.Proofs.Ytondjponengedaa.acts
  split
  · exact h.opn _ _ _ _
  · split
    · exact h.see _ _ _
    · split
      · exact h.put _ _
      · split
        · exact h.wo _
        · split
          · exact h.liv _
          · exact h

end Go.Proofs.Ytondjponengedaa
