/-
  The law's does, of whatever kind.
-/
import Derived.Test.YtondjponengedaaDoesA
import Derived.Test.YtondjponengedaaDoesB
import Derived.Test.YtondjponengedaaDoesC
import Derived.Test.YtondjponengedaaDoesD
import Derived.Test.YtondjponengedaaDoesE
import Derived.Test.YtondjponengedaaDoesF
namespace Go.Proofs.Ytondjponengedaa
open Go.RowKit
set_option linter.unusedVariables false

theorem does_any {w : World} {B : Nat} {k : List Int} {L : List En} (h : Ta w B k L) (o : Opr) (hok : OkF o.e.fl) :
    Calls Try.prog 24 #[.pointer (some ⟨B, 0, none⟩), opv o] w fun e w' => DoesTo w B k (acts L o).1 (acts L o).2 e w' := by
  by_cases h0 : o.kind = 0
  · exact doesA_any h o hok h0
  · by_cases h1 : o.kind = 1
    · exact doesB_any h o hok h1
    · by_cases h2 : o.kind = 2
      · exact doesC_any h o hok h2
      · by_cases h3 : o.kind = 3
        · exact doesD_any h o hok h3
        · by_cases h4 : o.kind = 4
          · exact doesE_any h o hok h4
          · exact doesF_any h o hok ⟨h0, h1, h2, h3, h4⟩

/-! ## A table of the law's own -/
/-- What a script leaves. -/
def runS (l : List Opr) : List En := l.foldl (fun L o => (acts L o).1) []
theorem runS_next (l : List Opr) {j : Nat} (h : j < l.length) : runS (l.take (j + 1)) = (acts (runS (l.take j)) l[j]!).1 := by
  rw [List.take_add_one, List.getElem?_eq_getElem h, getElem!_pos l j h]
  unfold runS
  rw [List.foldl_append]
  rfl
theorem runS_fine : ∀ (l : List Opr) (L : List En), Fine L → Fine (l.foldl (fun L o => (acts L o).1) L)
  | [], _, h => h
  | o :: r, _, h => runS_fine r _ (h.acts o)

/-- The table at B holds these; what was there before is as it was. -/
def Pl (w wr : World) (B : Nat) (k : List Int) (L : List En) : Prop := Ta wr B k L ∧ w.heap.size ≤ B ∧ Below w.heap.size w wr
theorem Pl.grow {w wr w' : World} {B : Nat} {k : List Int} {L : List En} (h : Pl w wr B k L) (hb : Below wr.heap.size wr w') : Pl w w' B k L := ⟨h.1.below hb, h.2.1, h.2.2.trans (hb.mono h.2.2.size)⟩
theorem Pl.turn {w wr w' : World} {B : Nat} {k : List Int} {L L' : List En} (h : Pl w wr B k L) (hT : Ta w' B k L') (ho : Only (· = B) wr w') : Pl w w' B k L' := ⟨hT, h.2.1, h.2.2.trans (ho.below h.2.2.size fun i hi => by rw [hi]; exact h.2.1)⟩
theorem pl_new (w : World) {k : List Int} (hk : Key k) : Calls Try.prog 10 #[kv k] w fun e w' => ∃ B, e = .returned (.pointer (some ⟨B, 0, none⟩)) ∧ Pl w w' B k [] :=
  (new_any k hk w).mono fun e w' ⟨B, he, hT, hB, hb⟩ => ⟨B, he, ⟨_, hT⟩, hB, hb⟩
theorem pl_does {w wr : World} {B : Nat} {k : List Int} {L : List En} (h : Pl w wr B k L) (o : Opr) (hok : OkF o.e.fl) :
    Calls Try.prog 24 #[.pointer (some ⟨B, 0, none⟩), opv o] wr fun e w' => ∃ v, e = .returned (ansv (acts L o).2.err (acts L o).2.seen v) ∧ w'.ownsRow wr.heap.size 42 8 v (acts L o).2.l.length (ecells (acts L o).2.l) ∧ Pl w w' B k (acts L o).1 ∧ Only (· = B) wr w' :=
  (does_any h.1 o hok).mono fun e w' ⟨v, h1, h2, h3, h4⟩ => ⟨v, h1, h2, h.turn h3 h4, h4⟩
theorem all_any {w : World} {B : Nat} {k : List Int} {L : List En} (h : Ta w B k L) : Calls Try.prog 15 #[.pointer (some ⟨B, 0, none⟩)] w fun e w' => ∃ v, e = .returned v ∧ w'.ownsRow w.heap.size 39 8 v L.length (ecells L) ∧ Below w.heap.size w w' := by
  obtain ⟨pl, h⟩ := h
  exact allP_any h.tb h.tp

end Go.Proofs.Ytondjponengedaa
