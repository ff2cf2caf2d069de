/-
  DERIVED. GIVEN WITH THE SEED: THE CARDS: each row of YtdoefjhdipkkeaaDoorRows.lean that lists a variable, with what it lists TIED to the program's text (the seventh form; the later family's looks); each row that meets fmt, with fmt's text TOLD by the authors' own Lean function (tested against real Go, not proved from fmt's source: count such statements apart). THE CARD IS WHAT COUNTS. Prove the row's statement (the work); the ties are given (YtdoefjhdipkkeaaDoorTie.lean); close each card by the builder's one call (the guide's Derived/Test/ToyasCard.lean, 'card_holds'). Laid BY PROGRAM, IN A SANDBOX (cutbox-door.mjs). By AI agents, Wed Nov 11 2026. No macro, syntax, notation, axiom, sorry.
-/
import Derived.Test.YtdoefjhdipkkeaaDoorRows
import GoSem.ClaimSeven
namespace Go.Proofs.YtdoefjhdipkkeaaDoor
namespace Rows

/-- THE TIED CARD OF 'outriderlaw04.NeighAsks'. -/
def neighAsksCard : Claim7 := { stood := { row := neighAsksRow, standIns := [], harness := (true, "5ab4e15f6ae46537e2996cda4b5b98b29286f3d35f80dcb01c4b246180894e76"), looks := false }, kinds := [], alts := [], laidByText := true, laidKinds := [.data, .data], laidTests := true, laidLooks := .later }
def NeighAsksCardSaid : Prop := Claim7.holds Tryd.pinned (.plain (OpenSpec.ofChange neighAsksSpec)) neighAsksCard

/-- THE TIED CARD OF 'outriderlaw04.NeighReads'. -/
def neighReadsCard : Claim7 := { stood := { row := neighReadsRow, standIns := [], harness := (true, "5ab4e15f6ae46537e2996cda4b5b98b29286f3d35f80dcb01c4b246180894e76"), looks := false }, kinds := [], alts := [], laidByText := true, laidKinds := [.data, .data], laidTests := true, laidLooks := .later }
def NeighReadsCardSaid : Prop := Claim7.holds Tryd.pinned (.plain (OpenSpec.ofChange neighReadsSpec)) neighReadsCard

/-- THE TIED CARD OF 'outriderlaw04.NeighBack'. -/
def neighBackCard : Claim7 := { stood := { row := neighBackRow, standIns := [], harness := (true, "5ab4e15f6ae46537e2996cda4b5b98b29286f3d35f80dcb01c4b246180894e76"), looks := false }, kinds := [], alts := [], laidByText := true, laidKinds := [.data, .data], laidTests := true, laidLooks := .later }
def NeighBackCardSaid : Prop := Claim7.holds Tryd.pinned (.plain (OpenSpec.ofChange neighBackSpec)) neighBackCard

/-- THE TIED CARD OF 'outriderlaw04.NeighTurned'. -/
def neighTurnedCard : Claim7 := { stood := { row := neighTurnedRow, standIns := [], harness := (true, "5ab4e15f6ae46537e2996cda4b5b98b29286f3d35f80dcb01c4b246180894e76"), looks := false }, kinds := [], alts := [], laidByText := true, laidKinds := [.data, .data], laidTests := true, laidLooks := .later }
def NeighTurnedCardSaid : Prop := Claim7.holds Tryd.pinned (.plain (OpenSpec.ofChange neighTurnedSpec)) neighTurnedCard

/-- THE TIED CARD OF 'outriderlaw04.NeighNear'. -/
def neighNearCard : Claim7 := { stood := { row := neighNearRow, standIns := [], harness := (true, "5ab4e15f6ae46537e2996cda4b5b98b29286f3d35f80dcb01c4b246180894e76"), looks := false }, kinds := [], alts := [], laidByText := true, laidKinds := [.data, .data], laidTests := true, laidLooks := .later }
def NeighNearCardSaid : Prop := Claim7.holds Tryd.pinned (.plain (OpenSpec.ofChange neighNearSpec)) neighNearCard

/-- THE TIED CARD OF 'outriderlaw04.NeighPadded'. -/
def neighPaddedCard : Claim7 := { stood := { row := neighPaddedRow, standIns := [], harness := (true, "5ab4e15f6ae46537e2996cda4b5b98b29286f3d35f80dcb01c4b246180894e76"), looks := false }, kinds := [], alts := [], laidByText := true, laidKinds := [.data, .data], laidTests := true, laidLooks := .later }
def NeighPaddedCardSaid : Prop := Claim7.holds Tryd.pinned (.plain (OpenSpec.ofChange neighPaddedSpec)) neighPaddedCard

/-- THE SECOND FORM's CARD OF 'outriderlaw04.NeighAsks'. -/
def neighAsksUptoCard : Claim7 := { stood := { row := neighAsksUptoRow, standIns := [], harness := (true, "5ab4e15f6ae46537e2996cda4b5b98b29286f3d35f80dcb01c4b246180894e76"), looks := false }, kinds := [], alts := [], laidByText := true, laidKinds := [.data, .data], laidTests := true, laidLooks := .later }
def NeighAsksUptoCardSaid : Prop := Claim7.holds Tryd.pinned (.plain (OpenSpec.upto neighAsksSpec)) neighAsksUptoCard

/-- THE SECOND FORM's CARD OF 'outriderlaw04.NeighReads'. -/
def neighReadsUptoCard : Claim7 := { stood := { row := neighReadsUptoRow, standIns := [], harness := (true, "5ab4e15f6ae46537e2996cda4b5b98b29286f3d35f80dcb01c4b246180894e76"), looks := false }, kinds := [], alts := [], laidByText := true, laidKinds := [.data, .data], laidTests := true, laidLooks := .later }
def NeighReadsUptoCardSaid : Prop := Claim7.holds Tryd.pinned (.plain (OpenSpec.upto neighReadsSpec)) neighReadsUptoCard

/-- THE SECOND FORM's CARD OF 'outriderlaw04.NeighBack'. -/
def neighBackUptoCard : Claim7 := { stood := { row := neighBackUptoRow, standIns := [], harness := (true, "5ab4e15f6ae46537e2996cda4b5b98b29286f3d35f80dcb01c4b246180894e76"), looks := false }, kinds := [], alts := [], laidByText := true, laidKinds := [.data, .data], laidTests := true, laidLooks := .later }
def NeighBackUptoCardSaid : Prop := Claim7.holds Tryd.pinned (.plain (OpenSpec.upto neighBackSpec)) neighBackUptoCard

/-- THE SECOND FORM's CARD OF 'outriderlaw04.NeighTurned'. -/
def neighTurnedUptoCard : Claim7 := { stood := { row := neighTurnedUptoRow, standIns := [], harness := (true, "5ab4e15f6ae46537e2996cda4b5b98b29286f3d35f80dcb01c4b246180894e76"), looks := false }, kinds := [], alts := [], laidByText := true, laidKinds := [.data, .data], laidTests := true, laidLooks := .later }
def NeighTurnedUptoCardSaid : Prop := Claim7.holds Tryd.pinned (.plain (OpenSpec.upto neighTurnedSpec)) neighTurnedUptoCard

/-- THE SECOND FORM's CARD OF 'outriderlaw04.NeighNear'. -/
def neighNearUptoCard : Claim7 := { stood := { row := neighNearUptoRow, standIns := [], harness := (true, "5ab4e15f6ae46537e2996cda4b5b98b29286f3d35f80dcb01c4b246180894e76"), looks := false }, kinds := [], alts := [], laidByText := true, laidKinds := [.data, .data], laidTests := true, laidLooks := .later }
def NeighNearUptoCardSaid : Prop := Claim7.holds Tryd.pinned (.plain (OpenSpec.upto neighNearSpec)) neighNearUptoCard

/-- THE SECOND FORM's CARD OF 'outriderlaw04.NeighPadded'. -/
def neighPaddedUptoCard : Claim7 := { stood := { row := neighPaddedUptoRow, standIns := [], harness := (true, "5ab4e15f6ae46537e2996cda4b5b98b29286f3d35f80dcb01c4b246180894e76"), looks := false }, kinds := [], alts := [], laidByText := true, laidKinds := [.data, .data], laidTests := true, laidLooks := .later }
def NeighPaddedUptoCardSaid : Prop := Claim7.holds Tryd.pinned (.plain (OpenSpec.upto neighPaddedSpec)) neighPaddedUptoCard
end Rows
end Go.Proofs.YtdoefjhdipkkeaaDoor
