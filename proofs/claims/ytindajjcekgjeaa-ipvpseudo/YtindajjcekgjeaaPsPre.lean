/-
  What the walk of IpvPseudo shares.
-/
import Derived.Test.YtindajjcekgjeaaFrame
import Derived.Test.YtindajjcekgjeaaRpseudo
import Derived.Deep.RegionHeld3
namespace Go.Proofs.Ytindajjcekgjeaa
open Go.ChangeShapes Go.WideShapes Go.ChangeAt Go.RowKit
set_option linter.unusedVariables false

theorem wpAnyH_more {P : Program} {md : Region.Mode} {ops : Array Oper} {Q : Exit → Act → World → Prop} {S S' : World → Prop} (hS : ∀ w, S' w → S w) : ∀ (fuel : Nat) (listed : Array Bool) (a : Act) (w : World), wpAnyH P md ops Q S' fuel listed a w → wpAnyH P md ops Q S fuel listed a w
  | 0, _, _, _, h => h
  | fuel + 1, _, _, _, h => ⟨h.1, fun i hi => wpOp_mono (fun a' w' h' => ⟨hS _ h'.1, wpAnyH_more hS fuel _ a' w' h'.2⟩) (h.2 i hi)⟩

/-- What a sum goes over, of any addresses. -/
def pseuL (f t : ByteArray) (p x : Int) : List Int := if alikeB f t = true then pseu f t p x else []
section
variable (f t : ByteArray) (p x : Int) (w : World) (hf : f.size ≤ 140737488351232) (ht : t.size ≤ 140737488351232) (hp : -9223372036854775808 ≤ p ∧ p ≤ 9223372036854775807) (hx : -9223372036854775808 ≤ x ∧ x ≤ 9223372036854775807)
/-- ipv.Pseudo. -/
theorem pseudo_any (hf : f.size ≤ 140737488351232) (ht : t.size ≤ 140737488351232) (hp : -9223372036854775808 ≤ p ∧ p ≤ 9223372036854775807) (hx : -9223372036854775808 ≤ x ∧ x ≤ 9223372036854775807) :
    Calls Try.prog 15 #[.string f, .string t, .int .i64 p, .int .i64 x] w fun e w' => ∃ A n c, e = .returned (.slice A n c) ∧ Hid (Part w' ⟨A, n, c, pseuL f t p x⟩) ∧ Hid (Below w.heap.size w w') := by
  unfold pseuL
  by_cases h : alikeB f t = true
  · rw [if_pos h]
    have h' := h
    simp [alikeB, rightB] at h'
    by_cases h6 : f.size = 16
    · exact (pseudo_six f t p x w hp hx h6 (by omega)).mono fun e w' ⟨g, c, he, ho, hb⟩ => ⟨_, _, _, he, Lib.hid (ho.out.part (pseu_byt f t p x)), hb⟩
    · exact (pseudo_four f t p x w hp hx (by omega) (by omega)).mono fun e w' ⟨g, c, he, ho, hb⟩ => ⟨_, _, _, he, Lib.hid (ho.out.part (pseu_byt f t p x)), hb⟩
  · rw [if_neg h]
    exact (pseudo_no f t p x w hf ht (by simpa using h)).mono fun e w' ⟨he, hb⟩ => ⟨none, 0, 0, he, Lib.hid (Part.gone rfl), Lib.hid hb⟩
/-- outriderref03.Pseudo. -/
theorem rpseudo_any (hf : f.size ≤ 140737488351232) (ht : t.size ≤ 140737488351232) (hp : -9223372036854775808 ≤ p ∧ p ≤ 9223372036854775807) (hx : -9223372036854775808 ≤ x ∧ x ≤ 9223372036854775807) :
    Calls Try.prog 16 #[.string f, .string t, .int .i64 p, .int .i64 x] w fun e w' => ∃ A n c, e = .returned (.slice A n c) ∧ Hid (Part w' ⟨A, n, c, pseuL f t p x⟩) ∧ Hid (Below w.heap.size w w') := by
  unfold pseuL
  by_cases h : alikeB f t = true
  · rw [if_pos h]
    have h' := h
    simp [alikeB, rightB] at h'
    by_cases h6 : f.size = 16
    · exact (rpseudo_six f t p x w hp hx h6 (by omega)).mono fun e w' ⟨g, c, he, ho, hb⟩ => ⟨_, _, _, he, Lib.hid (ho.out.part (pseu_byt f t p x)), hb⟩
    · exact (rpseudo_four f t p x w hp hx (by omega) (by omega)).mono fun e w' ⟨g, c, he, ho, hb⟩ => ⟨_, _, _, he, Lib.hid (ho.out.part (pseu_byt f t p x)), hb⟩
  · rw [if_neg h]
    rcases h1 : rightB f with _ | _
    · exact (rpseudo_no1 f t p x w hf ht h1).mono fun e w' ⟨he, hb⟩ => ⟨none, 0, 0, he, Lib.hid (Part.gone rfl), Lib.hid hb⟩
    · exact (rpseudo_no2 f t p x w hf ht h1 (fun e => h (by simp [alikeB, h1, e]))).mono fun e w' ⟨he, hb⟩ => ⟨none, 0, 0, he, Lib.hid (Part.gone rfl), Lib.hid hb⟩
end
theorem right_at {s : ByteArray} {r : Bool} {w : World} (hs : s.size ≤ 140737488351232) (h : rightB s = r) : Calls Try.prog 17 #[.string s] w fun e w' => e = .returned (.bool r) ∧ w = w' := by subst h; exact right_any s w hs
theorem two_cells {W W' : World} {N B : Nat} {f t : ByteArray} {p l : Int} {s : ByteArray} (h : Boxed W N f t p l s) (hb : Below B W W') (hN : N < B) : W'.cell? ⟨N, 0, none⟩ = some (.string f) ∧ W'.cell? ⟨N, 1, none⟩ = some (.string t) :=
  ⟨(h.below hb hN).1, (h.below hb hN).2.1⟩


end Go.Proofs.Ytindajjcekgjeaa
