/-
  wheel.Move of whatever time; what a call does.
-/
import Derived.Test.YtkcndgiiangmjaaMoves
import Derived.Test.YtkcndgiiangmjaaSet
namespace Go.Proofs.Ytkcndgiiangmjaa
open Go.RowKit Go.Maps
set_option linter.unusedVariables false
set_option linter.unusedSimpArgs false
set_option maxRecDepth 10000

def okM (now : Nat) (x : Int) : Bool := decide ((now : Int) ≤ x ∧ x ≤ 1099511627776)
def mvN (now : Nat) (x : Int) : Nat := if okM now x = true then x.toNat else now
def mvL (L : List Tm) (now : Nat) (x : Int) : List Tm := if okM now x = true then left L x.toNat else L
def mvD (L : List Tm) (now : Nat) (x : Int) : List Int := if okM now x = true then ids (due L x.toNat) else []

/-- The time and the timers. -/
structure St where
  now : Nat
  l : List Tm
structure OkS (s : St) (n : Nat) : Prop where
  fit : Fit s.l
  now : s.now ≤ 1099511627776
  len : s.l.length ≤ n

theorem move_any {w : World} {F : Nat → Prop} {B : Nat} {s : St} {x : Int} (h : Wh w F B s.now s.l s.l) (ok : OkS s 1000) :
    Calls Try.prog 34 #[.pointer (some ⟨B, 0, none⟩), .int .i64 x] w fun e w' => ∃ v F', e = .returned v ∧ w'.ownsRow w.heap.size 3 1 v (mvD s.l s.now x).length (icells (mvD s.l s.now x)) ∧ (∀ g, v.ownBlock = some g → ¬ F' g) ∧
      Wh w' F' B (mvN s.now x) (mvL s.l s.now x) (mvL s.l s.now x) ∧ (∀ i, F' i → F i ∨ w.heap.size ≤ i) ∧ Only F w w' := by
  by_cases hx : (s.now : Int) ≤ x ∧ x ≤ 1099511627776
  · have e1 : okM s.now x = true := decide_eq_true hx
    obtain ⟨m, rfl⟩ := Int.eq_ofNat_of_zero_le (show 0 ≤ x by omega)
    have e2 : mvD s.l s.now (m : Int) = ids (due s.l m) := by unfold mvD; rw [if_pos e1]; rfl
    have e3 : mvN s.now (m : Int) = m := by unfold mvN; rw [if_pos e1]; rfl
    have e4 : mvL s.l s.now (m : Int) = left s.l m := by unfold mvL; rw [if_pos e1]; rfl
    rw [e2, e3, e4, ids_len]
    exact move_yes h ok.fit (by omega) (by omega) ok.len
  · have e1 : okM s.now x = false := decide_eq_false hx
    have e2 : mvD s.l s.now x = [] := by unfold mvD; rw [e1]; simp
    have e3 : mvN s.now x = s.now := by unfold mvN; rw [e1]; simp
    have e4 : mvL s.l s.now x = s.l := by unfold mvL; rw [e1]; simp
    rw [e2, e3, e4]
    refine (move_no h hx).mono ?_
    rintro e w' ⟨rfl, hb⟩
    exact ⟨_, F, rfl, World.ownsRow_nil _ _ _ _, fun g hg => by simp [Value.ownBlock] at hg, h.below hb, fun i hi => .inl hi, Only.of_below hb⟩

theorem OkS.mono {s : St} {n m : Nat} (h : OkS s n) (hm : n ≤ m) : OkS s m := ⟨h.fit, h.now, Nat.le_trans h.len hm⟩
theorem OkS.move {s : St} {n : Nat} (h : OkS s n) (x : Int) : OkS ⟨mvN s.now x, mvL s.l s.now x⟩ n := by
  by_cases hx : (s.now : Int) ≤ x ∧ x ≤ 1099511627776
  · have e1 : okM s.now x = true := decide_eq_true hx
    refine ⟨?_, ?_, ?_⟩
    · simp only [mvL, if_pos e1]; exact h.fit.filter _
    · simp only [mvN, if_pos e1]; omega
    · simp only [mvL, if_pos e1]; exact Nat.le_trans (List.length_filter_le _ _) h.len
  · have e1 : okM s.now x = false := decide_eq_false hx
    refine ⟨?_, ?_, ?_⟩
    · simp only [mvL, e1]; exact h.fit
    · simp only [mvN, e1]; exact h.now
    · simp only [mvL, e1]; exact h.len

/-! ## A call -/
def stp (s : St) (k i a : Int) : St := if k = 0 then ⟨s.now, setL s.l i a⟩ else if k = 1 then ⟨s.now, woutI s.l i⟩ else if k = 2 then ⟨mvN s.now a, mvL s.l s.now a⟩ else s
def ans (s : St) (k i a : Int) : Bool := if k = 0 then inR i a else if k = 1 then (look s.l i).isSome else true
def tol (s : St) (k a : Int) : List Int := if k = 2 then mvD s.l s.now a else []
theorem OkS.stp {s : St} {n : Nat} (h : OkS s n) (k i a : Int) : OkS (stp s k i a) (n + 1) := by
  unfold Ytkcndgiiangmjaa.stp
  split
  · exact ⟨setL_fit h.fit _ _, h.now, Nat.le_trans (setL_len _ _ _) (by have := h.len; omega)⟩
  · split
    · exact ⟨h.fit.woutI _, h.now, Nat.le_trans (woutI_len _ _) (by have := h.len; omega)⟩
    · split
      · exact (h.move a).mono (by omega)
      · exact h.mono (by omega)

def I64 (x : Int) : Prop := -9223372036854775808 ≤ x ∧ x ≤ 9223372036854775807

end Go.Proofs.Ytkcndgiiangmjaa
