/-
  DERIVED. GIVEN WITH THE SEED: THE CARDS: each row of YtpbljjbhfhfmgaaDoorRows.lean that lists a variable, with what it lists TIED to the program's text (the seventh form; the later family's looks); each row that meets fmt, with fmt's text TOLD by the authors' own Lean function (tested against real Go, not proved from fmt's source: count such statements apart). THE CARD IS WHAT COUNTS. Prove the row's statement (the work); the ties are given (YtpbljjbhfhfmgaaDoorTie.lean); close each card by the builder's one call (the guide's Derived/Test/ToyasCard.lean, 'card_holds'). Laid BY PROGRAM, IN A SANDBOX (cutbox-door.mjs). By AI agents, Wed Nov 11 2026. No macro, syntax, notation, axiom, sorry.
-/
import Derived.Test.YtpbljjbhfhfmgaaDoorRows
import GoSem.ClaimSeven
namespace Go.Proofs.YtpbljjbhfhfmgaaDoor
namespace Rows

/-- THE TIED CARD OF 'joistlaw18.StateApart'. -/
def stateApartCard : Claim7 := { stood := { row := stateApartRow, standIns := [], harness := (true, "1805947f3124bd764c26bba43bea9dc5f4c713555272c10d51607b1fba141815"), looks := false }, kinds := [], alts := [], laidByText := true, laidKinds := [.data], laidTests := true, laidLooks := .later }
def StateApartCardSaid : Prop := Claim7.holds Tryd.pinned (.plain (OpenSpec.ofChange stateApartSpec)) stateApartCard

/-- THE TIED CARD OF 'joistlaw18.StateCounts'. -/
def stateCountsCard : Claim7 := { stood := { row := stateCountsRow, standIns := [], harness := (true, "1805947f3124bd764c26bba43bea9dc5f4c713555272c10d51607b1fba141815"), looks := false }, kinds := [], alts := [], laidByText := true, laidKinds := [.data], laidTests := true, laidLooks := .later }
def StateCountsCardSaid : Prop := Claim7.holds Tryd.pinned (.plain (OpenSpec.ofChange stateCountsSpec)) stateCountsCard

/-- THE SECOND FORM's CARD OF 'joistlaw18.StateApart'. -/
def stateApartUptoCard : Claim7 := { stood := { row := stateApartUptoRow, standIns := [], harness := (true, "1805947f3124bd764c26bba43bea9dc5f4c713555272c10d51607b1fba141815"), looks := false }, kinds := [], alts := [], laidByText := true, laidKinds := [.data], laidTests := true, laidLooks := .later }
def StateApartUptoCardSaid : Prop := Claim7.holds Tryd.pinned (.plain (OpenSpec.upto stateApartSpec)) stateApartUptoCard

/-- THE SECOND FORM's CARD OF 'joistlaw18.StateCounts'. -/
def stateCountsUptoCard : Claim7 := { stood := { row := stateCountsUptoRow, standIns := [], harness := (true, "1805947f3124bd764c26bba43bea9dc5f4c713555272c10d51607b1fba141815"), looks := false }, kinds := [], alts := [], laidByText := true, laidKinds := [.data], laidTests := true, laidLooks := .later }
def StateCountsUptoCardSaid : Prop := Claim7.holds Tryd.pinned (.plain (OpenSpec.upto stateCountsSpec)) stateCountsUptoCard
end Rows
end Go.Proofs.YtpbljjbhfhfmgaaDoor
