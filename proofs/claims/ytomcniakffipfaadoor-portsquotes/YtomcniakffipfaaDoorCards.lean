/-
  DERIVED. GIVEN WITH THE SEED: THE CARDS: each row of YtomcniakffipfaaDoorRows.lean that lists a variable, with what it lists TIED to the program's text (the seventh form; the later family's looks); each row that meets fmt, with fmt's text TOLD by the authors' own Lean function (tested against real Go, not proved from fmt's source: count such statements apart). THE CARD IS WHAT COUNTS. Prove the row's statement (the work); the ties are given (YtomcniakffipfaaDoorTie.lean); close each card by the builder's one call (the guide's Derived/Test/ToyasCard.lean, 'card_holds'). Laid BY PROGRAM, IN A SANDBOX (cutbox-door.mjs). By AI agents, Wed Nov 11 2026. No macro, syntax, notation, axiom, sorry.
-/
import Derived.Test.YtomcniakffipfaaDoorRows
import GoSem.ClaimSeven
namespace Go.Proofs.YtomcniakffipfaaDoor
namespace Rows

/-- THE TIED CARD OF 'outriderlaw05.PortsQuotes'. -/
def portsQuotesCard : Claim7 := { stood := { row := portsQuotesRow, standIns := [], harness := (true, "5882bfb3139cfeee175bc328754fbcbb4886cadcab5ba531e9fc43b0ce7325dc"), looks := false }, kinds := [], alts := [], laidByText := true, laidKinds := [.data, .data], laidTests := true, laidLooks := .later }
def PortsQuotesCardSaid : Prop := Claim7.holds Tryd.pinned (.plain (OpenSpec.ofChange portsQuotesSpec)) portsQuotesCard

/-- THE TIED CARD OF 'outriderlaw05.PortsErrors'. -/
def portsErrorsCard : Claim7 := { stood := { row := portsErrorsRow, standIns := [], harness := (true, "5882bfb3139cfeee175bc328754fbcbb4886cadcab5ba531e9fc43b0ce7325dc"), looks := false }, kinds := [], alts := [], laidByText := true, laidKinds := [.data, .data], laidTests := true, laidLooks := .later }
def PortsErrorsCardSaid : Prop := Claim7.holds Tryd.pinned (.plain (OpenSpec.ofChange portsErrorsSpec)) portsErrorsCard

/-- THE SECOND FORM's CARD OF 'outriderlaw05.PortsQuotes'. -/
def portsQuotesUptoCard : Claim7 := { stood := { row := portsQuotesUptoRow, standIns := [], harness := (true, "5882bfb3139cfeee175bc328754fbcbb4886cadcab5ba531e9fc43b0ce7325dc"), looks := false }, kinds := [], alts := [], laidByText := true, laidKinds := [.data, .data], laidTests := true, laidLooks := .later }
def PortsQuotesUptoCardSaid : Prop := Claim7.holds Tryd.pinned (.plain (OpenSpec.upto portsQuotesSpec)) portsQuotesUptoCard

/-- THE SECOND FORM's CARD OF 'outriderlaw05.PortsErrors'. -/
def portsErrorsUptoCard : Claim7 := { stood := { row := portsErrorsUptoRow, standIns := [], harness := (true, "5882bfb3139cfeee175bc328754fbcbb4886cadcab5ba531e9fc43b0ce7325dc"), looks := false }, kinds := [], alts := [], laidByText := true, laidKinds := [.data, .data], laidTests := true, laidLooks := .later }
def PortsErrorsUptoCardSaid : Prop := Claim7.holds Tryd.pinned (.plain (OpenSpec.upto portsErrorsSpec)) portsErrorsUptoCard
end Rows
end Go.Proofs.YtomcniakffipfaaDoor
