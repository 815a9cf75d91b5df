/-
  DERIVED. GIVEN WITH THE SEED: THE CARDS: each row of YtmefepjjlhphnaaDoorRows.lean that lists a variable, with what it lists TIED to the program's text (the seventh form; the later family's looks); each row that meets fmt, with fmt's text TOLD by the authors' own Lean function (tested against real Go, not proved from fmt's source: count such statements apart). THE CARD IS WHAT COUNTS. Prove the row's statement (the work); the ties are given (YtmefepjjlhphnaaDoorTie.lean); close each card by the builder's one call (the guide's Derived/Test/ToyasCard.lean, 'card_holds'). Laid BY PROGRAM, IN A SANDBOX (cutbox-door.mjs). By AI agents, Wed Nov 11 2026. No macro, syntax, notation, axiom, sorry.
-/
import Derived.Test.YtmefepjjlhphnaaDoorRows
import GoSem.ClaimSeven
namespace Go.Proofs.YtmefepjjlhphnaaDoor
namespace Rows

/-- THE TIED CARD OF 'joistlaw09.RootsCodes'. -/
def rootsCodesCard : Claim7 := { stood := { row := rootsCodesRow, standIns := [], harness := (true, "7acf57cc22bde84df1bdc46f11dd87af7369b8bf46eb780b7100bdfc531e4828"), looks := false }, kinds := [], alts := [], laidByText := true, laidKinds := [.data, .pinned], laidTests := true, laidLooks := .later }
def RootsCodesCardSaid : Prop := Claim7.holds Tryd.pinned (.plain (OpenSpec.ofChange rootsCodesSpec)) rootsCodesCard

/-- THE TIED CARD OF 'joistlaw09.RootsBack'. -/
def rootsBackCard : Claim7 := { stood := { row := rootsBackRow, standIns := [], harness := (true, "7acf57cc22bde84df1bdc46f11dd87af7369b8bf46eb780b7100bdfc531e4828"), looks := false }, kinds := [], alts := [], laidByText := true, laidKinds := [.data, .pinned], laidTests := true, laidLooks := .later }
def RootsBackCardSaid : Prop := Claim7.holds Tryd.pinned (.plain (OpenSpec.ofChange rootsBackSpec)) rootsBackCard

/-- THE SECOND FORM's CARD OF 'joistlaw09.RootsCodes'. -/
def rootsCodesUptoCard : Claim7 := { stood := { row := rootsCodesUptoRow, standIns := [], harness := (true, "7acf57cc22bde84df1bdc46f11dd87af7369b8bf46eb780b7100bdfc531e4828"), looks := false }, kinds := [], alts := [], laidByText := true, laidKinds := [.data, .pinned], laidTests := true, laidLooks := .later }
def RootsCodesUptoCardSaid : Prop := Claim7.holds Tryd.pinned (.plain (OpenSpec.upto rootsCodesSpec)) rootsCodesUptoCard

/-- THE SECOND FORM's CARD OF 'joistlaw09.RootsBack'. -/
def rootsBackUptoCard : Claim7 := { stood := { row := rootsBackUptoRow, standIns := [], harness := (true, "7acf57cc22bde84df1bdc46f11dd87af7369b8bf46eb780b7100bdfc531e4828"), looks := false }, kinds := [], alts := [], laidByText := true, laidKinds := [.data, .pinned], laidTests := true, laidLooks := .later }
def RootsBackUptoCardSaid : Prop := Claim7.holds Tryd.pinned (.plain (OpenSpec.upto rootsBackSpec)) rootsBackUptoCard
end Rows
end Go.Proofs.YtmefepjjlhphnaaDoor
