/-
  DERIVED. GIVEN WITH THE SEED: THE CARDS: each row of YtdpdgmdfffedpaaDoorRows.lean that lists a variable, with what it lists TIED to the program's text (the seventh form; the later family's looks); each row that meets fmt, with fmt's text TOLD by the authors' own Lean function (tested against real Go, not proved from fmt's source: count such statements apart). THE CARD IS WHAT COUNTS. Prove the row's statement (the work); the ties are given (YtdpdgmdfffedpaaDoorTie.lean); close each card by the builder's one call (the guide's Derived/Test/ToyasCard.lean, 'card_holds'). Laid BY PROGRAM, IN A SANDBOX (cutbox-door.mjs). By AI agents, Wed Nov 11 2026. No macro, syntax, notation, axiom, sorry.
-/
import Derived.Test.YtdpdgmdfffedpaaDoorRows
import GoSem.ClaimSeven
namespace Go.Proofs.YtdpdgmdfffedpaaDoor
namespace Rows

/-- THE TIED CARD OF 'joistlaw12.ClassTells'. -/
def classTellsCard : Claim7 := { stood := { row := classTellsRow, standIns := [], harness := (true, "24193558e5b90de06c86ecd897d5a33ede1538ff0553cbb55c7cc00926b46d48"), looks := false }, kinds := [], alts := [], laidByText := true, laidKinds := [.data], laidTests := true, laidLooks := .later }
def ClassTellsCardSaid : Prop := Claim7.holds Tryd.pinned (.plain (OpenSpec.ofChange classTellsSpec)) classTellsCard

/-- THE TIED CARD OF 'joistlaw12.ClassHolds'. -/
def classHoldsCard : Claim7 := { stood := { row := classHoldsRow, standIns := [], harness := (true, "24193558e5b90de06c86ecd897d5a33ede1538ff0553cbb55c7cc00926b46d48"), looks := false }, kinds := [], alts := [], laidByText := true, laidKinds := [.data], laidTests := true, laidLooks := .later }
def ClassHoldsCardSaid : Prop := Claim7.holds Tryd.pinned (.plain (OpenSpec.ofChange classHoldsSpec)) classHoldsCard

/-- THE TIED CARD OF 'joistlaw12.ClassBack'. -/
def classBackCard : Claim7 := { stood := { row := classBackRow, standIns := [], harness := (true, "24193558e5b90de06c86ecd897d5a33ede1538ff0553cbb55c7cc00926b46d48"), looks := false }, kinds := [], alts := [], laidByText := true, laidKinds := [.data], laidTests := true, laidLooks := .later }
def ClassBackCardSaid : Prop := Claim7.holds Tryd.pinned (.plain (OpenSpec.ofChange classBackSpec)) classBackCard

/-- THE TIED CARD OF 'joistlaw12.ClassRises'. -/
def classRisesCard : Claim7 := { stood := { row := classRisesRow, standIns := [], harness := (true, "24193558e5b90de06c86ecd897d5a33ede1538ff0553cbb55c7cc00926b46d48"), looks := false }, kinds := [], alts := [], laidByText := true, laidKinds := [.data], laidTests := true, laidLooks := .later }
def ClassRisesCardSaid : Prop := Claim7.holds Tryd.pinned (.plain (OpenSpec.ofChange classRisesSpec)) classRisesCard

/-- THE SECOND FORM's CARD OF 'joistlaw12.ClassTells'. -/
def classTellsUptoCard : Claim7 := { stood := { row := classTellsUptoRow, standIns := [], harness := (true, "24193558e5b90de06c86ecd897d5a33ede1538ff0553cbb55c7cc00926b46d48"), looks := false }, kinds := [], alts := [], laidByText := true, laidKinds := [.data], laidTests := true, laidLooks := .later }
def ClassTellsUptoCardSaid : Prop := Claim7.holds Tryd.pinned (.plain (OpenSpec.upto classTellsSpec)) classTellsUptoCard

/-- THE SECOND FORM's CARD OF 'joistlaw12.ClassHolds'. -/
def classHoldsUptoCard : Claim7 := { stood := { row := classHoldsUptoRow, standIns := [], harness := (true, "24193558e5b90de06c86ecd897d5a33ede1538ff0553cbb55c7cc00926b46d48"), looks := false }, kinds := [], alts := [], laidByText := true, laidKinds := [.data], laidTests := true, laidLooks := .later }
def ClassHoldsUptoCardSaid : Prop := Claim7.holds Tryd.pinned (.plain (OpenSpec.upto classHoldsSpec)) classHoldsUptoCard

/-- THE SECOND FORM's CARD OF 'joistlaw12.ClassBack'. -/
def classBackUptoCard : Claim7 := { stood := { row := classBackUptoRow, standIns := [], harness := (true, "24193558e5b90de06c86ecd897d5a33ede1538ff0553cbb55c7cc00926b46d48"), looks := false }, kinds := [], alts := [], laidByText := true, laidKinds := [.data], laidTests := true, laidLooks := .later }
def ClassBackUptoCardSaid : Prop := Claim7.holds Tryd.pinned (.plain (OpenSpec.upto classBackSpec)) classBackUptoCard

/-- THE SECOND FORM's CARD OF 'joistlaw12.ClassRises'. -/
def classRisesUptoCard : Claim7 := { stood := { row := classRisesUptoRow, standIns := [], harness := (true, "24193558e5b90de06c86ecd897d5a33ede1538ff0553cbb55c7cc00926b46d48"), looks := false }, kinds := [], alts := [], laidByText := true, laidKinds := [.data], laidTests := true, laidLooks := .later }
def ClassRisesUptoCardSaid : Prop := Claim7.holds Tryd.pinned (.plain (OpenSpec.upto classRisesSpec)) classRisesUptoCard
end Rows
end Go.Proofs.YtdpdgmdfffedpaaDoor
