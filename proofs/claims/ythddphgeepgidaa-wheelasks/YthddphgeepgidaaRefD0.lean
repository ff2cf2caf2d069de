/-
  The reference's Do.
-/
import Derived.Test.YthddphgeepgidaaRefT
import Derived.Test.YthddphgeepgidaaRefM
namespace Go.Proofs.Ythddphgeepgidaa
open Go.RowKit Go.Maps
set_option linter.unusedVariables false
set_option linter.unusedSimpArgs false
set_option maxRecDepth 10000

theorem rset_any {w : World} {now : Nat} {v : Value} {L : List Tm} {x a : Int} (hrow : w.ownsRow 0 58 2 v L.length (tcells L)) (hlen : L.length ≤ 1000) :
    Calls Try.prog 28 #[rv now v, .int .i64 x, .int .i64 a] w fun e w' => ∃ v', e = .returned (.tuple #[rv now v', .bool (inR x a)]) ∧ w'.ownsRow 0 58 2 v' (setL L x a).length (tcells (setL L x a)) ∧ (∀ g, v'.ownBlock = some g → v.ownBlock = some g ∨ w.heap.size ≤ g) ∧ Below w.heap.size w w' := by
  by_cases hr : 0 ≤ x ∧ x ≤ 65535 ∧ 0 ≤ a ∧ a ≤ 1099511627776
  · have hi : inR x a = true := by simp only [inR, decide_eq_true_eq]; exact hr
    obtain ⟨id, rfl⟩ : ∃ id : Nat, x = (id : Int) := ⟨x.toNat, by omega⟩
    obtain ⟨b, rfl⟩ : ∃ b : Nat, a = (b : Int) := ⟨a.toNat, by omega⟩
    have hs : setL L (id : Int) (b : Int) = ins ⟨id, b⟩ (woutI L id) := by unfold setL; rw [if_pos hi]; simp
    rw [hi, hs]
    refine (rset_yes (now := now) hrow hlen (by omega) (by omega)).mono ?_
    rintro e w' ⟨v', he, hr, hb⟩
    exact ⟨v', he, row_base hr (Nat.zero_le _), fun g hg => .inr (hr.lt g hg).1, hb⟩
  · have hi : inR x a = false := by simp only [inR, decide_eq_false_iff_not]; exact hr
    have hs : setL L x a = L := by unfold setL; rw [hi]; simp
    rw [hi, hs]
    refine (rset_no (now := now) hrow hr).mono ?_
    rintro e w' ⟨rfl, hb⟩
    exact ⟨v, rfl, row_below hrow hb, fun g hg => .inl hg, hb⟩

theorem rmove_any {w : World} {now : Nat} {v : Value} {L : List Tm} {x : Int} (hrow : w.ownsRow 0 58 2 v L.length (tcells L)) (hlen : L.length ≤ 1000) (hn : now ≤ 1099511627776) :
    Calls Try.prog 30 #[rv now v, .int .i64 x] w fun e w' => ∃ v' u, e = .returned (.tuple #[rv (mvN now x) v', u]) ∧ w'.ownsRow 0 58 2 v' (mvL L now x).length (tcells (mvL L now x)) ∧ (∀ g, v'.ownBlock = some g → v.ownBlock = some g ∨ w.heap.size ≤ g) ∧ w'.ownsRow w.heap.size 3 1 u (mvD L now x).length (icells (mvD L now x)) ∧ Below w.heap.size w w' := by
  unfold mvN mvL mvD
  by_cases hr : okM now x = true
  · rw [if_pos hr, if_pos hr, if_pos hr]
    have h2 : (now : Int) ≤ x ∧ x ≤ 1099511627776 := by simpa [okM] using hr
    obtain ⟨m, rfl⟩ : ∃ m : Nat, x = (m : Int) := ⟨x.toNat, by omega⟩
    refine (rmove_yes (now := now) hrow hlen (by omega) (by omega)).mono ?_
    rintro e w' ⟨v', u, he, hr, hu, hb⟩
    exact ⟨v', u, he, row_base hr (Nat.zero_le _), fun g hg => .inr (hr.lt g hg).1, hu, hb⟩
  · rw [if_neg hr, if_neg hr, if_neg hr]
    refine (rmove_no (now := now) hrow (by simpa using hr)).mono ?_
    rintro e w' ⟨rfl, hb⟩
    exact ⟨v, _, rfl, row_below hrow hb, fun g hg => .inl hg, World.ownsRow_nil _ _ _ _, hb⟩

/-- Do's three boxes: the wheel, the call, the answer. -/
structure Bd (w : World) (N : Nat) (x y k i a z u : Value) : Prop where
  c0 : w.cell? ⟨N, 0, none⟩ = some x
  c1 : w.cell? ⟨N, 1, none⟩ = some y
  o0 : w.cell? ⟨N + 1, 0, none⟩ = some k
  o1 : w.cell? ⟨N + 1, 1, none⟩ = some i
  o2 : w.cell? ⟨N + 1, 2, none⟩ = some a
  r0 : w.cell? ⟨N + 2, 0, none⟩ = some z
  r1 : w.cell? ⟨N + 2, 1, none⟩ = some u
  f0 : w.frozen? ⟨N, 0, none⟩ = false
  f1 : w.frozen? ⟨N, 1, none⟩ = false
  g0 : w.frozen? ⟨N + 2, 0, none⟩ = false
  g1 : w.frozen? ⟨N + 2, 1, none⟩ = false
theorem bd_new (w : World) (x y k i a z u : Value) : Bd (((w.alloc (.cells #[x, y] 28)).alloc (.cells #[k, i, a] 38)).alloc (.cells #[z, u] 28)) w.heap.size x y k i a z u := by
  constructor <;> simp [go_sem]
theorem Bd.below {w w' : World} {N : Nat} {x y k i a z u : Value} (h : Bd w N x y k i a z u) {B : Nat} (hb : Below B w w') (hB : N + 3 ≤ B) : Bd w' N x y k i a z u := by
  have e : ∀ p : Addr, p.block < B → w'.cell? p = w.cell? p := fun p hp => World.cell?_of_block (hb.block p.block hp)
  have f : ∀ p : Addr, p.block < B → w'.frozen? p = w.frozen? p := fun p hp => World.frozen?_of_block (hb.block p.block hp)
  exact ⟨(e _ (by simp; omega)).trans h.c0, (e _ (by simp; omega)).trans h.c1, (e _ (by simp; omega)).trans h.o0, (e _ (by simp; omega)).trans h.o1, (e _ (by simp; omega)).trans h.o2, (e _ (by simp; omega)).trans h.r0, (e _ (by simp; omega)).trans h.r1, (f _ (by simp; omega)).trans h.f0, (f _ (by simp; omega)).trans h.f1, (f _ (by simp; omega)).trans h.g0, (f _ (by simp; omega)).trans h.g1⟩


end Go.Proofs.Ythddphgeepgidaa
