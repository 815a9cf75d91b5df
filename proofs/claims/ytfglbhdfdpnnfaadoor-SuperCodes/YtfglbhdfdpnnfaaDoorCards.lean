/-
  DERIVED. GIVEN WITH THE SEED: THE CARDS: each row of YtfglbhdfdpnnfaaDoorRows.lean that lists a variable, with what it lists TIED to the program's text (the seventh form; the later family's looks); each row that meets fmt, with fmt's text TOLD by the authors' own Lean function (tested against real Go, not proved from fmt's source: count such statements apart). THE CARD IS WHAT COUNTS. Prove the row's statement (the work); the ties are given (YtfglbhdfdpnnfaaDoorTie.lean); close each card by the builder's one call (the guide's Derived/Test/ToyasCard.lean, 'card_holds'). Laid BY PROGRAM, IN A SANDBOX (cutbox-door.mjs). By AI agents, Wed Nov 11 2026. No macro, syntax, notation, axiom, sorry.
-/
import Derived.Test.YtfglbhdfdpnnfaaDoorRows
import GoSem.ClaimSeven
namespace Go.Proofs.YtfglbhdfdpnnfaaDoor
namespace Rows

/-- THE TIED CARD OF 'joistlaw17.SuperCodes'. -/
def superCodesCard : Claim7 := { stood := { row := superCodesRow, standIns := [], harness := (true, "a65fffb7d1358bfc24ba5eb5a1d3a8c4d40f07a062209ba440c20d24d25119cb"), looks := false }, kinds := [], alts := [], laidByText := true, laidKinds := [.data], laidTests := true, laidLooks := .later }
def SuperCodesCardSaid : Prop := Claim7.holds Tryd.pinned (.plain (OpenSpec.ofChange superCodesSpec)) superCodesCard

/-- THE TIED CARD OF 'joistlaw17.SuperBack'. -/
def superBackCard : Claim7 := { stood := { row := superBackRow, standIns := [], harness := (true, "a65fffb7d1358bfc24ba5eb5a1d3a8c4d40f07a062209ba440c20d24d25119cb"), looks := false }, kinds := [], alts := [], laidByText := true, laidKinds := [.data], laidTests := true, laidLooks := .later }
def SuperBackCardSaid : Prop := Claim7.holds Tryd.pinned (.plain (OpenSpec.ofChange superBackSpec)) superBackCard

/-- THE TIED CARD OF 'joistlaw17.SuperModes'. -/
def superModesCard : Claim7 := { stood := { row := superModesRow, standIns := [], harness := (true, "a65fffb7d1358bfc24ba5eb5a1d3a8c4d40f07a062209ba440c20d24d25119cb"), looks := false }, kinds := [], alts := [], laidByText := true, laidKinds := [.data], laidTests := true, laidLooks := .later }
def SuperModesCardSaid : Prop := Claim7.holds Tryd.pinned (.plain (OpenSpec.ofChange superModesSpec)) superModesCard

/-- THE SECOND FORM's CARD OF 'joistlaw17.SuperCodes'. -/
def superCodesUptoCard : Claim7 := { stood := { row := superCodesUptoRow, standIns := [], harness := (true, "a65fffb7d1358bfc24ba5eb5a1d3a8c4d40f07a062209ba440c20d24d25119cb"), looks := false }, kinds := [], alts := [], laidByText := true, laidKinds := [.data], laidTests := true, laidLooks := .later }
def SuperCodesUptoCardSaid : Prop := Claim7.holds Tryd.pinned (.plain (OpenSpec.upto superCodesSpec)) superCodesUptoCard

/-- THE SECOND FORM's CARD OF 'joistlaw17.SuperBack'. -/
def superBackUptoCard : Claim7 := { stood := { row := superBackUptoRow, standIns := [], harness := (true, "a65fffb7d1358bfc24ba5eb5a1d3a8c4d40f07a062209ba440c20d24d25119cb"), looks := false }, kinds := [], alts := [], laidByText := true, laidKinds := [.data], laidTests := true, laidLooks := .later }
def SuperBackUptoCardSaid : Prop := Claim7.holds Tryd.pinned (.plain (OpenSpec.upto superBackSpec)) superBackUptoCard

/-- THE SECOND FORM's CARD OF 'joistlaw17.SuperModes'. -/
def superModesUptoCard : Claim7 := { stood := { row := superModesUptoRow, standIns := [], harness := (true, "a65fffb7d1358bfc24ba5eb5a1d3a8c4d40f07a062209ba440c20d24d25119cb"), looks := false }, kinds := [], alts := [], laidByText := true, laidKinds := [.data], laidTests := true, laidLooks := .later }
def SuperModesUptoCardSaid : Prop := Claim7.holds Tryd.pinned (.plain (OpenSpec.upto superModesSpec)) superModesUptoCard
end Rows
end Go.Proofs.YtfglbhdfdpnnfaaDoor
