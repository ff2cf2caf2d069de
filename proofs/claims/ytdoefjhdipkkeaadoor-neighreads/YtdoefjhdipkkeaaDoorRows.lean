/-
  NARROWER THAN 'FOR EVERY INPUT', by the rows' own cells (each row's printed sentence says how): NeighAsks: laid · NeighReads: laid · NeighBack: laid · NeighTurned: laid · NeighNear: laid · NeighPadded: laid.
  DERIVED. THE GIVEN ROWS OF THIS SEAT. 6 by the template 'for every input the law returns true; each argument reads behind the call as it read before'; 0 by the template 'total and deterministic' (their statements: YtdoefjhdipkkeaaDoorTotals.lean).
  GIVEN WITH THE SEED: the statements are not yours to turn. If you find one false, say at which input.
  Laid BY PROGRAM, IN A SANDBOX (cutbox-rows.mjs): the forced cells as the released guide's own fill.sh prints them over the translation 52e27005d9608f36… (all of the seat's roots in one cut). By AI agents, Wed Nov 11 2026. No macro, syntax, notation, axiom, sorry.
-/
import Derived.Test.YtdoefjhdipkkeaaDoorChecked
import GoSem.Claim
import GoSem.ClaimJoined
import GoSem.ClaimMapViews
import Derived.JoinedTies
import Derived.KernelRfl
namespace Go.Proofs.YtdoefjhdipkkeaaDoor
/- THE CELL 'sum', in the pinned program and in every row, IS THE sha256 OF THE DUMP (.gsa) THAT YtdoefjhdipkkeaaDoorProg.lean LOADS. Nothing in Lean hashes anything: it is a label: what it is worth is what the hold of that sum in a sandbox is worth. -/
noncomputable def Tryd.pinned : Pinned := { name := "ytdoefjhdipkkeaadoor", sum := "52e27005d9608f3673c2da991038bfa6f0771837b8cd6591283a58460b1ff66a", checked := Tryd.checked }
namespace Rows
def none {H : Type} : Left H := { results := [], args := [] }

/- WHAT THE LISTED PACKAGE-LEVEL VARIABLES READ AS WHEN THE CALL BEGINS. Each datum BY PROGRAM (the guide's laid-datum.mjs) off the statement by which the dump's own 'gosem.cut.vars' lays the variable. In a bare row this is a premise. The card (YtdoefjhdipkkeaaDoorCards.lean) ties it to the program's text. -/
def laid_outrider_neigh_formAsk {H : Type} : DataW H := .agg [.lit (.int .u8 135), .lit (.int .u8 0), .lit (.int .u8 1), .lit (.int .u8 1)]
def laid_outrider_neigh_formTell {H : Type} : DataW H := .agg [.lit (.int .u8 136), .lit (.int .u8 0), .lit (.int .u8 2), .lit (.int .u8 1)]

/-- 'outriderlaw04.NeighAsks': WHATEVER THE INPUT: true; the input reads as it did. -/
def neighAsksSpec : ChangeSpec := { name := "neighAsks", fn := fun _ => fun
  | [d1, d2, d3] => { results := [.lit (.bool true)], args := [d1, d2, d3] }
  | _ => none }
def neighAsksRow : OpenClaim := { program := "ytdoefjhdipkkeaadoor", sum := "52e27005d9608f3673c2da991038bfa6f0771837b8cd6591283a58460b1ff66a", func := "outrider/outriderlaw04.NeighAsks", spec := "neighAsks", inPlace := ["internal/abi.NoEscape", "internal/bytealg.MakeNoZero"], named := ["outrider/neigh.formAsk", "outrider/neigh.formTell"], apart := false, laid := [("outrider/neigh.formAsk", laid_outrider_neigh_formAsk), ("outrider/neigh.formTell", laid_outrider_neigh_formTell)] }
def NeighAsksSaid : Prop := neighAsksRow.holds Tryd.pinned (OpenSpec.ofChange neighAsksSpec)

/-- ITS FALSE NEIGHBOUR: 'it returns false'. Refute it at one input. -/
def neighAsksWrong : ChangeSpec := { name := "neighAsks", fn := fun _ => fun
  | [d1, d2, d3] => { results := [.lit (.bool false)], args := [d1, d2, d3] }
  | _ => none }
def NeighAsksWrongFalsely : Prop := neighAsksRow.holds Tryd.pinned (OpenSpec.ofChange neighAsksWrong)

/-- 'outriderlaw04.NeighReads': WHATEVER THE INPUT: true; the input reads as it did. -/
def neighReadsSpec : ChangeSpec := { name := "neighReads", fn := fun _ => fun
  | [d] => { results := [.lit (.bool true)], args := [d] }
  | _ => none }
def neighReadsRow : OpenClaim := { program := "ytdoefjhdipkkeaadoor", sum := "52e27005d9608f3673c2da991038bfa6f0771837b8cd6591283a58460b1ff66a", func := "outrider/outriderlaw04.NeighReads", spec := "neighReads", inPlace := ["internal/abi.NoEscape", "internal/bytealg.MakeNoZero"], named := ["outrider/neigh.formAsk", "outrider/neigh.formTell"], apart := false, laid := [("outrider/neigh.formAsk", laid_outrider_neigh_formAsk), ("outrider/neigh.formTell", laid_outrider_neigh_formTell)] }
def NeighReadsSaid : Prop := neighReadsRow.holds Tryd.pinned (OpenSpec.ofChange neighReadsSpec)

/-- ITS FALSE NEIGHBOUR: 'it returns false'. Refute it at one input. -/
def neighReadsWrong : ChangeSpec := { name := "neighReads", fn := fun _ => fun
  | [d] => { results := [.lit (.bool false)], args := [d] }
  | _ => none }
def NeighReadsWrongFalsely : Prop := neighReadsRow.holds Tryd.pinned (OpenSpec.ofChange neighReadsWrong)

/-- 'outriderlaw04.NeighBack': WHATEVER THE INPUT: true; the input reads as it did. -/
def neighBackSpec : ChangeSpec := { name := "neighBack", fn := fun _ => fun
  | [d1, d2, d3] => { results := [.lit (.bool true)], args := [d1, d2, d3] }
  | _ => none }
def neighBackRow : OpenClaim := { program := "ytdoefjhdipkkeaadoor", sum := "52e27005d9608f3673c2da991038bfa6f0771837b8cd6591283a58460b1ff66a", func := "outrider/outriderlaw04.NeighBack", spec := "neighBack", inPlace := ["internal/abi.NoEscape", "internal/bytealg.MakeNoZero"], named := ["outrider/neigh.formAsk", "outrider/neigh.formTell"], apart := false, laid := [("outrider/neigh.formAsk", laid_outrider_neigh_formAsk), ("outrider/neigh.formTell", laid_outrider_neigh_formTell)] }
def NeighBackSaid : Prop := neighBackRow.holds Tryd.pinned (OpenSpec.ofChange neighBackSpec)

/-- ITS FALSE NEIGHBOUR: 'it returns false'. Refute it at one input. -/
def neighBackWrong : ChangeSpec := { name := "neighBack", fn := fun _ => fun
  | [d1, d2, d3] => { results := [.lit (.bool false)], args := [d1, d2, d3] }
  | _ => none }
def NeighBackWrongFalsely : Prop := neighBackRow.holds Tryd.pinned (OpenSpec.ofChange neighBackWrong)

/-- 'outriderlaw04.NeighTurned': WHATEVER THE INPUT: true; the input reads as it did. -/
def neighTurnedSpec : ChangeSpec := { name := "neighTurned", fn := fun _ => fun
  | [d1, d2, d3] => { results := [.lit (.bool true)], args := [d1, d2, d3] }
  | _ => none }
def neighTurnedRow : OpenClaim := { program := "ytdoefjhdipkkeaadoor", sum := "52e27005d9608f3673c2da991038bfa6f0771837b8cd6591283a58460b1ff66a", func := "outrider/outriderlaw04.NeighTurned", spec := "neighTurned", inPlace := ["internal/abi.NoEscape", "internal/bytealg.MakeNoZero"], named := ["outrider/neigh.formTell", "outrider/neigh.formAsk"], apart := false, laid := [("outrider/neigh.formAsk", laid_outrider_neigh_formAsk), ("outrider/neigh.formTell", laid_outrider_neigh_formTell)] }
def NeighTurnedSaid : Prop := neighTurnedRow.holds Tryd.pinned (OpenSpec.ofChange neighTurnedSpec)

/-- ITS FALSE NEIGHBOUR: 'it returns false'. Refute it at one input. -/
def neighTurnedWrong : ChangeSpec := { name := "neighTurned", fn := fun _ => fun
  | [d1, d2, d3] => { results := [.lit (.bool false)], args := [d1, d2, d3] }
  | _ => none }
def NeighTurnedWrongFalsely : Prop := neighTurnedRow.holds Tryd.pinned (OpenSpec.ofChange neighTurnedWrong)

/-- 'outriderlaw04.NeighNear': WHATEVER THE INPUT: true; the input reads as it did. -/
def neighNearSpec : ChangeSpec := { name := "neighNear", fn := fun _ => fun
  | [d1, d2] => { results := [.lit (.bool true)], args := [d1, d2] }
  | _ => none }
def neighNearRow : OpenClaim := { program := "ytdoefjhdipkkeaadoor", sum := "52e27005d9608f3673c2da991038bfa6f0771837b8cd6591283a58460b1ff66a", func := "outrider/outriderlaw04.NeighNear", spec := "neighNear", inPlace := ["internal/abi.NoEscape", "internal/bytealg.MakeNoZero"], named := ["outrider/neigh.formTell", "outrider/neigh.formAsk"], apart := false, laid := [("outrider/neigh.formAsk", laid_outrider_neigh_formAsk), ("outrider/neigh.formTell", laid_outrider_neigh_formTell)] }
def NeighNearSaid : Prop := neighNearRow.holds Tryd.pinned (OpenSpec.ofChange neighNearSpec)

/-- ITS FALSE NEIGHBOUR: 'it returns false'. Refute it at one input. -/
def neighNearWrong : ChangeSpec := { name := "neighNear", fn := fun _ => fun
  | [d1, d2] => { results := [.lit (.bool false)], args := [d1, d2] }
  | _ => none }
def NeighNearWrongFalsely : Prop := neighNearRow.holds Tryd.pinned (OpenSpec.ofChange neighNearWrong)

/-- 'outriderlaw04.NeighPadded': WHATEVER THE INPUT: true; the input reads as it did. -/
def neighPaddedSpec : ChangeSpec := { name := "neighPadded", fn := fun _ => fun
  | [d1, d2, d3] => { results := [.lit (.bool true)], args := [d1, d2, d3] }
  | _ => none }
def neighPaddedRow : OpenClaim := { program := "ytdoefjhdipkkeaadoor", sum := "52e27005d9608f3673c2da991038bfa6f0771837b8cd6591283a58460b1ff66a", func := "outrider/outriderlaw04.NeighPadded", spec := "neighPadded", inPlace := ["internal/abi.NoEscape", "internal/bytealg.MakeNoZero"], named := ["outrider/neigh.formAsk", "outrider/neigh.formTell"], apart := false, laid := [("outrider/neigh.formAsk", laid_outrider_neigh_formAsk), ("outrider/neigh.formTell", laid_outrider_neigh_formTell)] }
def NeighPaddedSaid : Prop := neighPaddedRow.holds Tryd.pinned (OpenSpec.ofChange neighPaddedSpec)

/-- ITS FALSE NEIGHBOUR: 'it returns false'. Refute it at one input. -/
def neighPaddedWrong : ChangeSpec := { name := "neighPadded", fn := fun _ => fun
  | [d1, d2, d3] => { results := [.lit (.bool false)], args := [d1, d2, d3] }
  | _ => none }
def NeighPaddedWrongFalsely : Prop := neighPaddedRow.holds Tryd.pinned (OpenSpec.ofChange neighPaddedWrong)

/- THE SECOND FORM. 'bulk': how many values and letters a reading holds, each counted each time it is reached (what is shared counts as often as it is met; a slice's spare places count too). A statement '..UptoSaid' is the law's where the arguments, and the package variables that the reading takes, are together of bulk at most 1048576: NARROWER than '..Said'. Prove '..Said' where nothing that the law and all that it calls make is longer than what came in: it says more and counts as full. Else prove '..UptoSaid'. A law counts once. -/
mutual
def uptoBulk {H : Type} : DataW H → Nat
  | .lit (.string bytes) => bytes.length + 1
  | .lit _ => 1
  | .nil => 1
  | .ptr d => uptoBulk d + 1
  | .slice elems spare => uptoBulkAll elems + uptoBulkAll spare + 1
  | .agg parts => uptoBulkAll parts + 1
  | .iface _ d => uptoBulk d + 1
  | .map entries => uptoBulkEntries entries + 1
  | .held _ => 1
def uptoBulkAll {H : Type} : List (DataW H) → Nat
  | [] => 0
  | d :: r => uptoBulk d + uptoBulkAll r
def uptoBulkEntries {H : Type} : List (Lit × DataW H) → Nat
  | [] => 0
  | x :: r => uptoBulkEntry x + uptoBulkEntries r
def uptoBulkEntry {H : Type} : Lit × DataW H → Nat
  | (.string bytes, d) => bytes.length + uptoBulk d + 1
  | (_, d) => uptoBulk d + 1
 end
def uptoSmall : (H : Type) → List (DataW H) → Bool := fun _ ds => decide (uptoBulkAll ds ≤ 1048576)
def OpenSpec.upto (s : _root_.Go.ChangeSpec) : _root_.Go.OpenSpec := { _root_.Go.OpenSpec.ofChange s with cond := some uptoSmall }

/-- 'outriderlaw04.NeighAsks', WHERE WHAT IT READS IS OF BULK AT MOST 1048576: true; the input reads as it did. -/
def neighAsksUptoRow : OpenClaim := { program := "ytdoefjhdipkkeaadoor", sum := "52e27005d9608f3673c2da991038bfa6f0771837b8cd6591283a58460b1ff66a", func := "outrider/outriderlaw04.NeighAsks", spec := "neighAsks", inPlace := ["internal/abi.NoEscape", "internal/bytealg.MakeNoZero"], named := ["outrider/neigh.formAsk", "outrider/neigh.formTell"], apart := false, laid := [("outrider/neigh.formAsk", laid_outrider_neigh_formAsk), ("outrider/neigh.formTell", laid_outrider_neigh_formTell)], narrowed := true }
def NeighAsksUptoSaid : Prop := neighAsksUptoRow.holds Tryd.pinned (OpenSpec.upto neighAsksSpec)

/-- 'outriderlaw04.NeighReads', WHERE WHAT IT READS IS OF BULK AT MOST 1048576: true; the input reads as it did. -/
def neighReadsUptoRow : OpenClaim := { program := "ytdoefjhdipkkeaadoor", sum := "52e27005d9608f3673c2da991038bfa6f0771837b8cd6591283a58460b1ff66a", func := "outrider/outriderlaw04.NeighReads", spec := "neighReads", inPlace := ["internal/abi.NoEscape", "internal/bytealg.MakeNoZero"], named := ["outrider/neigh.formAsk", "outrider/neigh.formTell"], apart := false, laid := [("outrider/neigh.formAsk", laid_outrider_neigh_formAsk), ("outrider/neigh.formTell", laid_outrider_neigh_formTell)], narrowed := true }
def NeighReadsUptoSaid : Prop := neighReadsUptoRow.holds Tryd.pinned (OpenSpec.upto neighReadsSpec)

/-- 'outriderlaw04.NeighBack', WHERE WHAT IT READS IS OF BULK AT MOST 1048576: true; the input reads as it did. -/
def neighBackUptoRow : OpenClaim := { program := "ytdoefjhdipkkeaadoor", sum := "52e27005d9608f3673c2da991038bfa6f0771837b8cd6591283a58460b1ff66a", func := "outrider/outriderlaw04.NeighBack", spec := "neighBack", inPlace := ["internal/abi.NoEscape", "internal/bytealg.MakeNoZero"], named := ["outrider/neigh.formAsk", "outrider/neigh.formTell"], apart := false, laid := [("outrider/neigh.formAsk", laid_outrider_neigh_formAsk), ("outrider/neigh.formTell", laid_outrider_neigh_formTell)], narrowed := true }
def NeighBackUptoSaid : Prop := neighBackUptoRow.holds Tryd.pinned (OpenSpec.upto neighBackSpec)

/-- 'outriderlaw04.NeighTurned', WHERE WHAT IT READS IS OF BULK AT MOST 1048576: true; the input reads as it did. -/
def neighTurnedUptoRow : OpenClaim := { program := "ytdoefjhdipkkeaadoor", sum := "52e27005d9608f3673c2da991038bfa6f0771837b8cd6591283a58460b1ff66a", func := "outrider/outriderlaw04.NeighTurned", spec := "neighTurned", inPlace := ["internal/abi.NoEscape", "internal/bytealg.MakeNoZero"], named := ["outrider/neigh.formTell", "outrider/neigh.formAsk"], apart := false, laid := [("outrider/neigh.formAsk", laid_outrider_neigh_formAsk), ("outrider/neigh.formTell", laid_outrider_neigh_formTell)], narrowed := true }
def NeighTurnedUptoSaid : Prop := neighTurnedUptoRow.holds Tryd.pinned (OpenSpec.upto neighTurnedSpec)

/-- 'outriderlaw04.NeighNear', WHERE WHAT IT READS IS OF BULK AT MOST 1048576: true; the input reads as it did. -/
def neighNearUptoRow : OpenClaim := { program := "ytdoefjhdipkkeaadoor", sum := "52e27005d9608f3673c2da991038bfa6f0771837b8cd6591283a58460b1ff66a", func := "outrider/outriderlaw04.NeighNear", spec := "neighNear", inPlace := ["internal/abi.NoEscape", "internal/bytealg.MakeNoZero"], named := ["outrider/neigh.formTell", "outrider/neigh.formAsk"], apart := false, laid := [("outrider/neigh.formAsk", laid_outrider_neigh_formAsk), ("outrider/neigh.formTell", laid_outrider_neigh_formTell)], narrowed := true }
def NeighNearUptoSaid : Prop := neighNearUptoRow.holds Tryd.pinned (OpenSpec.upto neighNearSpec)

/-- 'outriderlaw04.NeighPadded', WHERE WHAT IT READS IS OF BULK AT MOST 1048576: true; the input reads as it did. -/
def neighPaddedUptoRow : OpenClaim := { program := "ytdoefjhdipkkeaadoor", sum := "52e27005d9608f3673c2da991038bfa6f0771837b8cd6591283a58460b1ff66a", func := "outrider/outriderlaw04.NeighPadded", spec := "neighPadded", inPlace := ["internal/abi.NoEscape", "internal/bytealg.MakeNoZero"], named := ["outrider/neigh.formAsk", "outrider/neigh.formTell"], apart := false, laid := [("outrider/neigh.formAsk", laid_outrider_neigh_formAsk), ("outrider/neigh.formTell", laid_outrider_neigh_formTell)], narrowed := true }
def NeighPaddedUptoSaid : Prop := neighPaddedUptoRow.holds Tryd.pinned (OpenSpec.upto neighPaddedSpec)

end Rows
end Go.Proofs.YtdoefjhdipkkeaaDoor
