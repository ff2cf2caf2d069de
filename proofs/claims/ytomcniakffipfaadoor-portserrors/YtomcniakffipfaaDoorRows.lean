/-
  NARROWER THAN 'FOR EVERY INPUT', by the rows' own cells (each row's printed sentence says how): PortsQuotes: laid · PortsErrors: laid.
  DERIVED. THE GIVEN ROWS OF THIS SEAT. 2 by the template 'for every input the law returns true; each argument reads behind the call as it read before'; 0 by the template 'total and deterministic' (their statements: YtomcniakffipfaaDoorTotals.lean).
  GIVEN WITH THE SEED: the statements are not yours to turn. If you find one false, say at which input.
  Laid BY PROGRAM, IN A SANDBOX (cutbox-rows.mjs): the forced cells as the released guide's own fill.sh prints them over the translation 4104127226e50ecb… (all of the seat's roots in one cut). By AI agents, Wed Nov 11 2026. No macro, syntax, notation, axiom, sorry.
-/
import Derived.Test.YtomcniakffipfaaDoorChecked
import GoSem.Claim
import GoSem.ClaimJoined
import GoSem.ClaimMapViews
import Derived.JoinedTies
import Derived.KernelRfl
namespace Go.Proofs.YtomcniakffipfaaDoor
/- THE CELL 'sum', in the pinned program and in every row, IS THE sha256 OF THE DUMP (.gsa) THAT YtomcniakffipfaaDoorProg.lean LOADS. Nothing in Lean hashes anything: it is a label: what it is worth is what the hold of that sum in a sandbox is worth. -/
noncomputable def Tryd.pinned : Pinned := { name := "ytomcniakffipfaadoor", sum := "4104127226e50ecb647abb3830ce6ed9dda35239f3aebae2cedb12ae3a08e910", checked := Tryd.checked }
namespace Rows
def none {H : Type} : Left H := { results := [], args := [] }

/- WHAT THE LISTED PACKAGE-LEVEL VARIABLES READ AS WHEN THE CALL BEGINS. Each datum BY PROGRAM (the guide's laid-datum.mjs) off the statement by which the dump's own 'gosem.cut.vars' lays the variable. In a bare row this is a premise. The card (YtomcniakffipfaaDoorCards.lean) ties it to the program's text. -/
def laid_outrider_ports_shapeFour {H : Type} : DataW H := .agg [.lit (.int .i64 9), .lit (.int .i64 12), .lit (.int .i64 16), .lit (.int .i64 20)]
def laid_outrider_ports_shapeSix {H : Type} : DataW H := .agg [.lit (.int .i64 6), .lit (.int .i64 8), .lit (.int .i64 24), .lit (.int .i64 40)]

/-- 'outriderlaw05.PortsQuotes': WHATEVER THE INPUT: true; the input reads as it did. -/
def portsQuotesSpec : ChangeSpec := { name := "portsQuotes", fn := fun _ => fun
  | [d] => { results := [.lit (.bool true)], args := [d] }
  | _ => none }
def portsQuotesRow : OpenClaim := { program := "ytomcniakffipfaadoor", sum := "4104127226e50ecb647abb3830ce6ed9dda35239f3aebae2cedb12ae3a08e910", func := "outrider/outriderlaw05.PortsQuotes", spec := "portsQuotes", unfollowed := true, recurses := true, named := ["outrider/ports.shapeFour", "outrider/ports.shapeSix"], apart := false, laid := [("outrider/ports.shapeFour", laid_outrider_ports_shapeFour), ("outrider/ports.shapeSix", laid_outrider_ports_shapeSix)] }
def PortsQuotesSaid : Prop := portsQuotesRow.holds Tryd.pinned (OpenSpec.ofChange portsQuotesSpec)

/-- ITS FALSE NEIGHBOUR: 'it returns false'. Refute it at one input. -/
def portsQuotesWrong : ChangeSpec := { name := "portsQuotes", fn := fun _ => fun
  | [d] => { results := [.lit (.bool false)], args := [d] }
  | _ => none }
def PortsQuotesWrongFalsely : Prop := portsQuotesRow.holds Tryd.pinned (OpenSpec.ofChange portsQuotesWrong)

/-- 'outriderlaw05.PortsErrors': WHATEVER THE INPUT: true; the input reads as it did. -/
def portsErrorsSpec : ChangeSpec := { name := "portsErrors", fn := fun _ => fun
  | [d1, d2, d3] => { results := [.lit (.bool true)], args := [d1, d2, d3] }
  | _ => none }
def portsErrorsRow : OpenClaim := { program := "ytomcniakffipfaadoor", sum := "4104127226e50ecb647abb3830ce6ed9dda35239f3aebae2cedb12ae3a08e910", func := "outrider/outriderlaw05.PortsErrors", spec := "portsErrors", unfollowed := true, recurses := true, named := ["outrider/ports.shapeFour", "outrider/ports.shapeSix"], apart := false, laid := [("outrider/ports.shapeFour", laid_outrider_ports_shapeFour), ("outrider/ports.shapeSix", laid_outrider_ports_shapeSix)] }
def PortsErrorsSaid : Prop := portsErrorsRow.holds Tryd.pinned (OpenSpec.ofChange portsErrorsSpec)

/-- ITS FALSE NEIGHBOUR: 'it returns false'. Refute it at one input. -/
def portsErrorsWrong : ChangeSpec := { name := "portsErrors", fn := fun _ => fun
  | [d1, d2, d3] => { results := [.lit (.bool false)], args := [d1, d2, d3] }
  | _ => none }
def PortsErrorsWrongFalsely : Prop := portsErrorsRow.holds Tryd.pinned (OpenSpec.ofChange portsErrorsWrong)

/- THE SECOND FORM. 'bulk': how many values and letters a reading holds, each counted each time it is reached (what is shared counts as often as it is met; a slice's spare places count too). A statement '..UptoSaid' is the law's where the arguments, and the package variables that the reading takes, are together of bulk at most 1048576: NARROWER than '..Said'. Prove '..Said' where nothing that the law and all that it calls make is longer than what came in: it says more and counts as full. Else prove '..UptoSaid'. A law counts once. -/
mutual
def uptoBulk {H : Type} : DataW H → Nat
  | .lit (.string bytes) => bytes.length + 1
  | .lit _ => 1
  | .nil => 1
  | .ptr d => uptoBulk d + 1
  | .slice elems spare => uptoBulkAll elems + uptoBulkAll spare + 1
  | .agg parts => uptoBulkAll parts + 1
  | .iface _ d => uptoBulk d + 1
  | .map entries => uptoBulkEntries entries + 1
  | .held _ => 1
def uptoBulkAll {H : Type} : List (DataW H) → Nat
  | [] => 0
  | d :: r => uptoBulk d + uptoBulkAll r
def uptoBulkEntries {H : Type} : List (Lit × DataW H) → Nat
  | [] => 0
  | x :: r => uptoBulkEntry x + uptoBulkEntries r
def uptoBulkEntry {H : Type} : Lit × DataW H → Nat
  | (.string bytes, d) => bytes.length + uptoBulk d + 1
  | (_, d) => uptoBulk d + 1
 end
def uptoSmall : (H : Type) → List (DataW H) → Bool := fun _ ds => decide (uptoBulkAll ds ≤ 1048576)
def OpenSpec.upto (s : _root_.Go.ChangeSpec) : _root_.Go.OpenSpec := { _root_.Go.OpenSpec.ofChange s with cond := some uptoSmall }

/-- 'outriderlaw05.PortsQuotes', WHERE WHAT IT READS IS OF BULK AT MOST 1048576: true; the input reads as it did. -/
def portsQuotesUptoRow : OpenClaim := { program := "ytomcniakffipfaadoor", sum := "4104127226e50ecb647abb3830ce6ed9dda35239f3aebae2cedb12ae3a08e910", func := "outrider/outriderlaw05.PortsQuotes", spec := "portsQuotes", unfollowed := true, recurses := true, named := ["outrider/ports.shapeFour", "outrider/ports.shapeSix"], apart := false, laid := [("outrider/ports.shapeFour", laid_outrider_ports_shapeFour), ("outrider/ports.shapeSix", laid_outrider_ports_shapeSix)], narrowed := true }
def PortsQuotesUptoSaid : Prop := portsQuotesUptoRow.holds Tryd.pinned (OpenSpec.upto portsQuotesSpec)

/-- 'outriderlaw05.PortsErrors', WHERE WHAT IT READS IS OF BULK AT MOST 1048576: true; the input reads as it did. -/
def portsErrorsUptoRow : OpenClaim := { program := "ytomcniakffipfaadoor", sum := "4104127226e50ecb647abb3830ce6ed9dda35239f3aebae2cedb12ae3a08e910", func := "outrider/outriderlaw05.PortsErrors", spec := "portsErrors", unfollowed := true, recurses := true, named := ["outrider/ports.shapeFour", "outrider/ports.shapeSix"], apart := false, laid := [("outrider/ports.shapeFour", laid_outrider_ports_shapeFour), ("outrider/ports.shapeSix", laid_outrider_ports_shapeSix)], narrowed := true }
def PortsErrorsUptoSaid : Prop := portsErrorsUptoRow.holds Tryd.pinned (OpenSpec.upto portsErrorsSpec)

end Rows
end Go.Proofs.YtomcniakffipfaaDoor
