/-
  What AdvertWrites does.
-/
import Derived.Test.YtpcdaidgijkkbaaRencok
import Derived.Test.YtpcdaidgijkkbaaRencad
namespace Go.Proofs.Ytpcdaidgijkkbaa
open Go.RowKit
set_option linter.unusedVariables false
set_option maxRecDepth 40000

attribute [local go_sem ↓] pk_eq
section
variable {f : ByteArray} {i p e : Int} {A : Option Addr} {n c : Nat} {ss : List ByteArray} {w : World}
/-- outriderref06.Encode of what can't be. -/
theorem rencode_no (hS : Strs w A n c ss) (hf : f.size ≤ 140737488351232) (hn : n ≤ 140737488351232) (h : okA f i p e ss = false) :
    Calls Try.prog 33 #[.agg #[.int .i64 i, .int .i64 p, .int .i64 e, .slice A n c], .string f] w fun r w' => r = .returned (.tuple #[.agg #[.string ⟨#[]⟩, .string ⟨#[]⟩, .int .i64 0, .int .i64 0, .string ⟨#[]⟩], .int .i64 1]) ∧ Below w.heap.size w w' := by
  rcases hr : rightB f with _ | _
  · exact renc_right hf hn hr
  by_cases h0 : i < 1
  · exact renc_id0 hf hn hr  h0
  by_cases h1 : 255 < i
  · exact renc_id1 hf hn hr h0 h1
  by_cases h2 : p < 0
  · exact renc_pr0 hf hn hr h0 h1 h2
  by_cases h3 : 255 < p
  · exact renc_pr1 hf hn hr h0 h1 h2 h3
  by_cases h4 : e < 1
  · exact renc_ev0 hf hn hr h0 h1 h2 h3 h4
  by_cases h5 : 4095 < e
  · exact renc_ev1 hf hn hr h0 h1 h2 h3 h4 h5
  by_cases h6 : (n : Int) < 1
  · exact renc_n0 hf hn hr h0 h1 h2 h3 h4 h5 h6
  by_cases h7 : 8 < (n : Int)
  · exact renc_n1 hf hn hr h0 h1 h2 h3 h4 h5 h6 h7
  have hl : ss.length = n := hS.1
  refine renc_addr hS hf hr (by omega) (by omega) (by omega) (by omega) fun hall => ?_
  have : okA f i p e ss = true := by
    simp only [okA, hr, mayIdB, mayPriorityB, mayEveryB, addrsB, mayCountB, Bool.and_eq_true, decide_eq_true_eq, List.all_eq_true, Bool.true_and]
    exact ⟨by omega, by omega, by omega, by omega, fun s hs => hall s hs⟩
  rw [h] at this
  cases this
end

/-- An advertisement of the reference's lies in a block. -/
def BoxW (W : World) (B : Nat) (i p e : Int) (v : Value) : Prop := W.cell? ⟨B, 0, none⟩ = some (.int .i64 i) ∧ W.cell? ⟨B, 1, none⟩ = some (.int .i64 p) ∧ W.cell? ⟨B, 2, none⟩ = some (.int .i64 e) ∧ W.cell? ⟨B, 3, none⟩ = some v
theorem BoxW.below {W W' : World} {B C : Nat} {i p e : Int} {v : Value} (h : BoxW W B i p e v) (hb : Below C W W') (hB : B < C) : BoxW W' B i p e v :=
  ⟨(hb.cell (p := ⟨B, 0, none⟩) hB).trans h.1, (hb.cell (p := ⟨B, 1, none⟩) hB).trans h.2.1, (hb.cell (p := ⟨B, 2, none⟩) hB).trans h.2.2.1, (hb.cell (p := ⟨B, 3, none⟩) hB).trans h.2.2.2⟩

end Go.Proofs.Ytpcdaidgijkkbaa
