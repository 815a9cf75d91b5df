/-
  DERIVED. GIVEN WITH THE SEED: THE CARDS: each row of YtpbljjbhfhfmgaaGreatDoorRows.lean that lists a variable, with what it lists TIED to the program's text (the seventh form; the later family's looks); each row that meets fmt, with fmt's text TOLD by the authors' own Lean function (tested against real Go, not proved from fmt's source: count such statements apart). THE CARD IS WHAT COUNTS. Prove the row's statement (the work); the ties are given (YtpbljjbhfhfmgaaGreatDoorTie.lean); close each card by the builder's one call (the guide's Derived/Test/ToyasCard.lean, 'card_holds'). Laid BY PROGRAM, IN A SANDBOX (cutbox-door.mjs). By AI agents, Wed Nov 11 2026. No macro, syntax, notation, axiom, sorry.
-/
import Derived.Test.YtpbljjbhfhfmgaaGreatDoorRows
import GoSem.ClaimSeven
namespace Go.Proofs.YtpbljjbhfhfmgaaGreatDoor
namespace Rows

/-- THE TIED CARD OF 'joistlaw18.StateTells'. -/
def stateTellsCard : Claim7 := { stood := { row := stateTellsRow, standIns := [], harness := (true, "fee425edd35e9363a8fc0a5b85f3354806e5ecad38d836e2e50f70edd3829b63"), looks := false }, kinds := [], alts := [], laidByText := true, laidKinds := [.data], laidTests := true, laidLooks := .later }
def StateTellsCardSaid : Prop := Claim7.holds Tryz.pinned (.plain (OpenSpec.ofChange stateTellsSpec)) stateTellsCard

/-- THE TIED CARD OF 'joistlaw18.StateNews'. -/
def stateNewsCard : Claim7 := { stood := { row := stateNewsRow, standIns := [], harness := (true, "fee425edd35e9363a8fc0a5b85f3354806e5ecad38d836e2e50f70edd3829b63"), looks := false }, kinds := [], alts := [], laidByText := true, laidKinds := [.data], laidTests := true, laidLooks := .later }
def StateNewsCardSaid : Prop := Claim7.holds Tryz.pinned (.plain (OpenSpec.ofChange stateNewsSpec)) stateNewsCard

/-- THE SECOND FORM's CARD OF 'joistlaw18.StateTells'. -/
def stateTellsUptoCard : Claim7 := { stood := { row := stateTellsUptoRow, standIns := [], harness := (true, "fee425edd35e9363a8fc0a5b85f3354806e5ecad38d836e2e50f70edd3829b63"), looks := false }, kinds := [], alts := [], laidByText := true, laidKinds := [.data], laidTests := true, laidLooks := .later }
def StateTellsUptoCardSaid : Prop := Claim7.holds Tryz.pinned (.plain (OpenSpec.upto stateTellsSpec)) stateTellsUptoCard

/-- THE SECOND FORM's CARD OF 'joistlaw18.StateNews'. -/
def stateNewsUptoCard : Claim7 := { stood := { row := stateNewsUptoRow, standIns := [], harness := (true, "fee425edd35e9363a8fc0a5b85f3354806e5ecad38d836e2e50f70edd3829b63"), looks := false }, kinds := [], alts := [], laidByText := true, laidKinds := [.data], laidTests := true, laidLooks := .later }
def StateNewsUptoCardSaid : Prop := Claim7.holds Tryz.pinned (.plain (OpenSpec.upto stateNewsSpec)) stateNewsUptoCard
end Rows
end Go.Proofs.YtpbljjbhfhfmgaaGreatDoor
