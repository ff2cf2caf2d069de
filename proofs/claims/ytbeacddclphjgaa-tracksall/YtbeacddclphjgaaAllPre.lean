/-
  The program's set and the document's, in one state.
-/
import Derived.Test.YtbeacddclphjgaaAlive
import Derived.Test.YtbeacddclphjgaaRnew
import Derived.Test.YtbeacddclphjgaaRtell
import Derived.Test.YtbeacddclphjgaaRdown
namespace Go.Proofs.Ytbeacddclphjgaa
open Go.RowKit Go.Maps
set_option linter.unusedVariables false
set_option linter.unusedSimpArgs false
set_option maxRecDepth 10000

/-- Where the set, its map and the document's box are. -/
structure GP (w : World) (B M N : Nat) : Prop where
  lB : w.heap.size ≤ B
  lM : w.heap.size ≤ M
  lN : w.heap.size ≤ N
  nB : N ≠ B
  nM : N ≠ M
structure AL (w : World) (B M N : Nat) (a : Option Addr) (n c : Nat) (l : List Bk) (b : Int) (v : Value) (ups : List Bool) (X : World) : Prop where
  set : SetAt X B M b (UT l ups)
  cb : Cb X N 32 [.int .i64 b, .slice a n c, v]
  row : X.ownsRow 0 4 1 v n (ucells ups)
  len : ups.length = n
  bd : 1 ≤ b ∧ b ≤ 255
  bel : Below w.heap.size w X
  vB : ∀ g, v.ownBlock = some g → g ≠ B ∧ g ≠ M ∧ g ≠ N

section
variable {w : World} {B M N : Nat} {a : Option Addr} {n c : Nat} {l : List Bk} {b : Int} {v : Value} {ups : List Bool} {X : World}
theorem AL.below {X' : World} (h : AL w B M N a n c l b v ups X) (hb : Below X.heap.size X X') : AL w B M N a n c l b v ups X' :=
  ⟨h.set.below hb, h.cb.below hb, row_below h.row hb, h.len, h.bd, below_then h.bel h.bel.size hb, h.vB⟩
theorem AL.drew (h : AL w B M N a n c l b v ups X) : AL w B M N a n c l b v ups X.drew := h.below (below_drew (Below.refl _ _))
theorem AL.rs (h : AL w B M N a n c l b v ups X) (hb : Bks w a n c l) : Rs X a n c v l ups := ⟨hb.below h.bel, h.len, h.row⟩
/-- Base of a number that may not be. -/
theorem AL.stay {X' : World} (h : AL w B M N a n c l b v ups X) (g : GP w B M N) (hs : SetAt X' B M b (UT l ups)) (ho : Only (fun i => i = B) X X') : AL w B M N a n c l b v ups X' :=
  ⟨hs, h.cb.only ho g.nB, row_only h.row ho fun i hi => (h.vB i hi).1, h.len, h.bd, h.bel.trans (ho.below (B := w.heap.size) h.bel.size fun i hi => by have h1 : i = B := hi; have := g.lB; omega), h.vB⟩
/-- Base of a number that may be. -/
theorem AL.based {X' : World} {b' : Int} (h : AL w B M N a n c l b v ups X) (g : GP w B M N) (hs : SetAt X' B M b' (UT l ups)) (ho : Only (fun i => i = B) X X') (hb' : 1 ≤ b' ∧ b' ≤ 255) : AL w B M N a n c l b' v ups (X'.setCell ⟨N, 0, none⟩ (.int .i64 b')) := by
  have ho2 : Only (fun i => i = N) X' (X'.setCell ⟨N, 0, none⟩ (.int .i64 b')) := (Only.refl (fun i => i = N) X').setCell (p := ⟨N, 0, none⟩) (.inl rfl) _
  have hc := (h.cb.only ho g.nB).setAt 0 (.int .i64 b')
  have hbel : Below w.heap.size w X' := h.bel.trans (ho.below (B := w.heap.size) h.bel.size fun i hi => by have h1 : i = B := hi; have := g.lB; omega)
  exact ⟨hs.only ho2 (fun e => g.nB e.symm) (fun e => g.nM e.symm), hc, row_only (row_only h.row ho fun i hi => (h.vB i hi).1) ho2 fun i hi => (h.vB i hi).2.2, h.len, hb', hbel.setCell (p := ⟨N, 0, none⟩) g.lN _, h.vB⟩
/-- A track is told. -/
theorem AL.told {X5 X6 X7 X8 : World} {v' : Value} {ups' : List Bool} {x : ByteArray} {u : Bool} (h : AL w B M N a n c l b v ups X) (gp : GP w B M N) (hrs : Rs X5 a n c v' l ups') (hte : UT l ups' = tel (UT l ups) x u) (hb5 : Below X.heap.size X X5)
    (hloc : ∀ g, v'.ownBlock = some g → v.ownBlock = some g ∨ X.heap.size ≤ g) (hb6 : Below X5.heap.size X5 X6) (hcb7 : Cb X7 N 32 [.int .i64 b, .slice a n c, v']) (ho7 : Only (· = N) X6 X7) (hs8 : SetAt X8 B M b (tel (UT l ups) x u)) (ho8 : Only (fun i => i = M) X7 X8) :
    AL w B M N a n c l b v' ups' X8 := by
  have hv : ∀ g, v'.ownBlock = some g → g ≠ B ∧ g ≠ M ∧ g ≠ N := fun g hg => by
    rcases hloc g hg with h1 | h1
    · exact h.vB g h1
    · have h2 := h.set.lt
      have h3 := h.set.map.lt
      have h4 := h.cb.lt
      omega
  refine ⟨by rw [hte]; exact hs8, hcb7.only ho8 gp.nM, row_only (row_only (row_below hrs.row hb6) ho7 fun g hg => (hv g hg).2.2) ho8 fun g hg => (hv g hg).2.1, hrs.len, h.bd, ?_, hv⟩
  have b6 := below_then (below_then h.bel h.bel.size hb5) (Nat.le_trans h.bel.size hb5.size) hb6
  have b7 := only_below b6 ho7 gp.lN
  exact b7.trans (ho8.below (B := w.heap.size) b7.size fun i hi => by have h1 : i = M := hi; have := gp.lM; omega)
end

def AlRel (w : World) (B M N : Nat) (a : Option Addr) (n c : Nat) (l : List Bk) (m gg : Nat) (s69 : Value) (wr : World) : Prop :=
  ∃ (k : Nat) (b : Int) (v : Value) (ups : List Bool), k + gg = m ∧ s69 = .int .i64 k ∧ AL w B M N a n c l b v ups wr
end Go.Proofs.Ytbeacddclphjgaa
