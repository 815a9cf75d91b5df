/-
  NARROWER THAN 'FOR EVERY INPUT', by the rows' own cells (each row's printed sentence says how): PagesTells: laid · PagesRuns: laid · PagesPlaces: laid · PagesFull: laid · PagesMates: laid · PagesFills: laid.
  DERIVED. THE GIVEN ROWS OF THIS SEAT. 6 by the template 'for every input the law returns true; each argument reads behind the call as it read before'; 0 by the template 'total and deterministic' (their statements: YtlghhhhgfnnjgaaDoorTotals.lean).
  GIVEN WITH THE SEED: the statements are not yours to turn. If you find one false, say at which input.
  Laid BY PROGRAM, IN A SANDBOX (cutbox-rows.mjs): the forced cells as the released guide's own fill.sh prints them over the translation 4d219410cf2b5e4a… (all of the seat's roots in one cut). By AI agents, Wed Nov 11 2026. No macro, syntax, notation, axiom, sorry.
-/
import Derived.Test.YtlghhhhgfnnjgaaDoorChecked
import GoSem.Claim
import GoSem.ClaimJoined
import GoSem.ClaimMapViews
import Derived.JoinedTies
import Derived.KernelRfl
namespace Go.Proofs.YtlghhhhgfnnjgaaDoor
/- THE CELL 'sum', in the pinned program and in every row, IS THE sha256 OF THE DUMP (.gsa) THAT YtlghhhhgfnnjgaaDoorProg.lean LOADS. Nothing in Lean hashes anything: it is a label: what it is worth is what the hold of that sum in a sandbox is worth. -/
noncomputable def Tryd.pinned : Pinned := { name := "ytlghhhhgfnnjgaadoor", sum := "4d219410cf2b5e4a793ba6c98b3bc5ffecfd996072375639d7e0c0599363e233", checked := Tryd.checked }
namespace Rows
def none {H : Type} : Left H := { results := [], args := [] }

/- WHAT THE LISTED PACKAGE-LEVEL VARIABLES READ AS WHEN THE CALL BEGINS. Each datum BY PROGRAM (the guide's laid-datum.mjs) off the statement by which the dump's own 'gosem.cut.vars' lays the variable. In a bare row this is a premise. The card (YtlghhhhgfnnjgaaDoorCards.lean) ties it to the program's text. -/
def laid_joist_class_cellWords {H : Type} : DataW H := .agg [.lit (.int .i64 2), .lit (.int .i64 3), .lit (.int .i64 5), .lit (.int .i64 7), .lit (.int .i64 10), .lit (.int .i64 15)]

/-- 'joistlaw13.PagesTells': WHATEVER THE INPUT: true; the input reads as it did. -/
def pagesTellsSpec : ChangeSpec := { name := "pagesTells", fn := fun _ => fun
  | [d1, d2, d3, d4] => { results := [.lit (.bool true)], args := [d1, d2, d3, d4] }
  | _ => none }
def pagesTellsRow : OpenClaim := { program := "ytlghhhhgfnnjgaadoor", sum := "4d219410cf2b5e4a793ba6c98b3bc5ffecfd996072375639d7e0c0599363e233", func := "joist/joistlaw13.PagesTells", spec := "pagesTells", unfollowed := true, recurses := true, named := ["joist/class.cellWords"], apart := false, laid := [("joist/class.cellWords", laid_joist_class_cellWords)] }
def PagesTellsSaid : Prop := pagesTellsRow.holds Tryd.pinned (OpenSpec.ofChange pagesTellsSpec)

/-- ITS FALSE NEIGHBOUR: 'it returns false'. Refute it at one input. -/
def pagesTellsWrong : ChangeSpec := { name := "pagesTells", fn := fun _ => fun
  | [d1, d2, d3, d4] => { results := [.lit (.bool false)], args := [d1, d2, d3, d4] }
  | _ => none }
def PagesTellsWrongFalsely : Prop := pagesTellsRow.holds Tryd.pinned (OpenSpec.ofChange pagesTellsWrong)

/-- 'joistlaw13.PagesRuns': WHATEVER THE INPUT: true; the input reads as it did. -/
def pagesRunsSpec : ChangeSpec := { name := "pagesRuns", fn := fun _ => fun
  | [d1, d2] => { results := [.lit (.bool true)], args := [d1, d2] }
  | _ => none }
def pagesRunsRow : OpenClaim := { program := "ytlghhhhgfnnjgaadoor", sum := "4d219410cf2b5e4a793ba6c98b3bc5ffecfd996072375639d7e0c0599363e233", func := "joist/joistlaw13.PagesRuns", spec := "pagesRuns", unfollowed := true, recurses := true, named := ["joist/class.cellWords"], apart := false, laid := [("joist/class.cellWords", laid_joist_class_cellWords)] }
def PagesRunsSaid : Prop := pagesRunsRow.holds Tryd.pinned (OpenSpec.ofChange pagesRunsSpec)

/-- ITS FALSE NEIGHBOUR: 'it returns false'. Refute it at one input. -/
def pagesRunsWrong : ChangeSpec := { name := "pagesRuns", fn := fun _ => fun
  | [d1, d2] => { results := [.lit (.bool false)], args := [d1, d2] }
  | _ => none }
def PagesRunsWrongFalsely : Prop := pagesRunsRow.holds Tryd.pinned (OpenSpec.ofChange pagesRunsWrong)

/-- 'joistlaw13.PagesPlaces': WHATEVER THE INPUT: true; the input reads as it did. -/
def pagesPlacesSpec : ChangeSpec := { name := "pagesPlaces", fn := fun _ => fun
  | [d1, d2, d3] => { results := [.lit (.bool true)], args := [d1, d2, d3] }
  | _ => none }
def pagesPlacesRow : OpenClaim := { program := "ytlghhhhgfnnjgaadoor", sum := "4d219410cf2b5e4a793ba6c98b3bc5ffecfd996072375639d7e0c0599363e233", func := "joist/joistlaw13.PagesPlaces", spec := "pagesPlaces", unfollowed := true, recurses := true, named := ["joist/class.cellWords"], apart := false, laid := [("joist/class.cellWords", laid_joist_class_cellWords)] }
def PagesPlacesSaid : Prop := pagesPlacesRow.holds Tryd.pinned (OpenSpec.ofChange pagesPlacesSpec)

/-- ITS FALSE NEIGHBOUR: 'it returns false'. Refute it at one input. -/
def pagesPlacesWrong : ChangeSpec := { name := "pagesPlaces", fn := fun _ => fun
  | [d1, d2, d3] => { results := [.lit (.bool false)], args := [d1, d2, d3] }
  | _ => none }
def PagesPlacesWrongFalsely : Prop := pagesPlacesRow.holds Tryd.pinned (OpenSpec.ofChange pagesPlacesWrong)

/-- 'joistlaw13.PagesFull': WHATEVER THE INPUT: true; the input reads as it did. -/
def pagesFullSpec : ChangeSpec := { name := "pagesFull", fn := fun _ => fun
  | [d1, d2, d3, d4] => { results := [.lit (.bool true)], args := [d1, d2, d3, d4] }
  | _ => none }
def pagesFullRow : OpenClaim := { program := "ytlghhhhgfnnjgaadoor", sum := "4d219410cf2b5e4a793ba6c98b3bc5ffecfd996072375639d7e0c0599363e233", func := "joist/joistlaw13.PagesFull", spec := "pagesFull", unfollowed := true, recurses := true, named := ["joist/class.cellWords"], apart := false, laid := [("joist/class.cellWords", laid_joist_class_cellWords)] }
def PagesFullSaid : Prop := pagesFullRow.holds Tryd.pinned (OpenSpec.ofChange pagesFullSpec)

/-- ITS FALSE NEIGHBOUR: 'it returns false'. Refute it at one input. -/
def pagesFullWrong : ChangeSpec := { name := "pagesFull", fn := fun _ => fun
  | [d1, d2, d3, d4] => { results := [.lit (.bool false)], args := [d1, d2, d3, d4] }
  | _ => none }
def PagesFullWrongFalsely : Prop := pagesFullRow.holds Tryd.pinned (OpenSpec.ofChange pagesFullWrong)

/-- 'joistlaw13.PagesMates': WHATEVER THE INPUT: true; the input reads as it did. -/
def pagesMatesSpec : ChangeSpec := { name := "pagesMates", fn := fun _ => fun
  | [d1, d2] => { results := [.lit (.bool true)], args := [d1, d2] }
  | _ => none }
def pagesMatesRow : OpenClaim := { program := "ytlghhhhgfnnjgaadoor", sum := "4d219410cf2b5e4a793ba6c98b3bc5ffecfd996072375639d7e0c0599363e233", func := "joist/joistlaw13.PagesMates", spec := "pagesMates", unfollowed := true, recurses := true, named := ["joist/class.cellWords"], apart := false, laid := [("joist/class.cellWords", laid_joist_class_cellWords)] }
def PagesMatesSaid : Prop := pagesMatesRow.holds Tryd.pinned (OpenSpec.ofChange pagesMatesSpec)

/-- ITS FALSE NEIGHBOUR: 'it returns false'. Refute it at one input. -/
def pagesMatesWrong : ChangeSpec := { name := "pagesMates", fn := fun _ => fun
  | [d1, d2] => { results := [.lit (.bool false)], args := [d1, d2] }
  | _ => none }
def PagesMatesWrongFalsely : Prop := pagesMatesRow.holds Tryd.pinned (OpenSpec.ofChange pagesMatesWrong)

/-- 'joistlaw13.PagesFills': WHATEVER THE INPUT: true; the input reads as it did. -/
def pagesFillsSpec : ChangeSpec := { name := "pagesFills", fn := fun _ => fun
  | [d] => { results := [.lit (.bool true)], args := [d] }
  | _ => none }
def pagesFillsRow : OpenClaim := { program := "ytlghhhhgfnnjgaadoor", sum := "4d219410cf2b5e4a793ba6c98b3bc5ffecfd996072375639d7e0c0599363e233", func := "joist/joistlaw13.PagesFills", spec := "pagesFills", unfollowed := true, recurses := true, named := ["joist/class.cellWords"], apart := false, laid := [("joist/class.cellWords", laid_joist_class_cellWords)] }
def PagesFillsSaid : Prop := pagesFillsRow.holds Tryd.pinned (OpenSpec.ofChange pagesFillsSpec)

/-- ITS FALSE NEIGHBOUR: 'it returns false'. Refute it at one input. -/
def pagesFillsWrong : ChangeSpec := { name := "pagesFills", fn := fun _ => fun
  | [d] => { results := [.lit (.bool false)], args := [d] }
  | _ => none }
def PagesFillsWrongFalsely : Prop := pagesFillsRow.holds Tryd.pinned (OpenSpec.ofChange pagesFillsWrong)

/- THE SECOND FORM. 'bulk': how many values and letters a reading holds, each counted each time it is reached (what is shared counts as often as it is met; a slice's spare places count too). A statement '..UptoSaid' is the law's where the arguments, and the package variables that the reading takes, are together of bulk at most 1048576: NARROWER than '..Said'. Prove '..Said' where nothing that the law and all that it calls make is longer than what came in: it says more and counts as full. Else prove '..UptoSaid'. A law counts once. -/
mutual
def uptoBulk {H : Type} : DataW H → Nat
  | .lit (.string bytes) => bytes.length + 1
  | .lit _ => 1
  | .nil => 1
  | .ptr d => uptoBulk d + 1
  | .slice elems spare => uptoBulkAll elems + uptoBulkAll spare + 1
  | .agg parts => uptoBulkAll parts + 1
  | .iface _ d => uptoBulk d + 1
  | .map entries => uptoBulkEntries entries + 1
  | .held _ => 1
def uptoBulkAll {H : Type} : List (DataW H) → Nat
  | [] => 0
  | d :: r => uptoBulk d + uptoBulkAll r
def uptoBulkEntries {H : Type} : List (Lit × DataW H) → Nat
  | [] => 0
  | x :: r => uptoBulkEntry x + uptoBulkEntries r
def uptoBulkEntry {H : Type} : Lit × DataW H → Nat
  | (.string bytes, d) => bytes.length + uptoBulk d + 1
  | (_, d) => uptoBulk d + 1
 end
def uptoSmall : (H : Type) → List (DataW H) → Bool := fun _ ds => decide (uptoBulkAll ds ≤ 1048576)
def OpenSpec.upto (s : _root_.Go.ChangeSpec) : _root_.Go.OpenSpec := { _root_.Go.OpenSpec.ofChange s with cond := some uptoSmall }

/-- 'joistlaw13.PagesTells', WHERE WHAT IT READS IS OF BULK AT MOST 1048576: true; the input reads as it did. -/
def pagesTellsUptoRow : OpenClaim := { program := "ytlghhhhgfnnjgaadoor", sum := "4d219410cf2b5e4a793ba6c98b3bc5ffecfd996072375639d7e0c0599363e233", func := "joist/joistlaw13.PagesTells", spec := "pagesTells", unfollowed := true, recurses := true, named := ["joist/class.cellWords"], apart := false, laid := [("joist/class.cellWords", laid_joist_class_cellWords)], narrowed := true }
def PagesTellsUptoSaid : Prop := pagesTellsUptoRow.holds Tryd.pinned (OpenSpec.upto pagesTellsSpec)

/-- 'joistlaw13.PagesRuns', WHERE WHAT IT READS IS OF BULK AT MOST 1048576: true; the input reads as it did. -/
def pagesRunsUptoRow : OpenClaim := { program := "ytlghhhhgfnnjgaadoor", sum := "4d219410cf2b5e4a793ba6c98b3bc5ffecfd996072375639d7e0c0599363e233", func := "joist/joistlaw13.PagesRuns", spec := "pagesRuns", unfollowed := true, recurses := true, named := ["joist/class.cellWords"], apart := false, laid := [("joist/class.cellWords", laid_joist_class_cellWords)], narrowed := true }
def PagesRunsUptoSaid : Prop := pagesRunsUptoRow.holds Tryd.pinned (OpenSpec.upto pagesRunsSpec)

/-- 'joistlaw13.PagesPlaces', WHERE WHAT IT READS IS OF BULK AT MOST 1048576: true; the input reads as it did. -/
def pagesPlacesUptoRow : OpenClaim := { program := "ytlghhhhgfnnjgaadoor", sum := "4d219410cf2b5e4a793ba6c98b3bc5ffecfd996072375639d7e0c0599363e233", func := "joist/joistlaw13.PagesPlaces", spec := "pagesPlaces", unfollowed := true, recurses := true, named := ["joist/class.cellWords"], apart := false, laid := [("joist/class.cellWords", laid_joist_class_cellWords)], narrowed := true }
def PagesPlacesUptoSaid : Prop := pagesPlacesUptoRow.holds Tryd.pinned (OpenSpec.upto pagesPlacesSpec)

/-- 'joistlaw13.PagesFull', WHERE WHAT IT READS IS OF BULK AT MOST 1048576: true; the input reads as it did. -/
def pagesFullUptoRow : OpenClaim := { program := "ytlghhhhgfnnjgaadoor", sum := "4d219410cf2b5e4a793ba6c98b3bc5ffecfd996072375639d7e0c0599363e233", func := "joist/joistlaw13.PagesFull", spec := "pagesFull", unfollowed := true, recurses := true, named := ["joist/class.cellWords"], apart := false, laid := [("joist/class.cellWords", laid_joist_class_cellWords)], narrowed := true }
def PagesFullUptoSaid : Prop := pagesFullUptoRow.holds Tryd.pinned (OpenSpec.upto pagesFullSpec)

/-- 'joistlaw13.PagesMates', WHERE WHAT IT READS IS OF BULK AT MOST 1048576: true; the input reads as it did. -/
def pagesMatesUptoRow : OpenClaim := { program := "ytlghhhhgfnnjgaadoor", sum := "4d219410cf2b5e4a793ba6c98b3bc5ffecfd996072375639d7e0c0599363e233", func := "joist/joistlaw13.PagesMates", spec := "pagesMates", unfollowed := true, recurses := true, named := ["joist/class.cellWords"], apart := false, laid := [("joist/class.cellWords", laid_joist_class_cellWords)], narrowed := true }
def PagesMatesUptoSaid : Prop := pagesMatesUptoRow.holds Tryd.pinned (OpenSpec.upto pagesMatesSpec)

/-- 'joistlaw13.PagesFills', WHERE WHAT IT READS IS OF BULK AT MOST 1048576: true; the input reads as it did. -/
def pagesFillsUptoRow : OpenClaim := { program := "ytlghhhhgfnnjgaadoor", sum := "4d219410cf2b5e4a793ba6c98b3bc5ffecfd996072375639d7e0c0599363e233", func := "joist/joistlaw13.PagesFills", spec := "pagesFills", unfollowed := true, recurses := true, named := ["joist/class.cellWords"], apart := false, laid := [("joist/class.cellWords", laid_joist_class_cellWords)], narrowed := true }
def PagesFillsUptoSaid : Prop := pagesFillsUptoRow.holds Tryd.pinned (OpenSpec.upto pagesFillsSpec)

end Rows
end Go.Proofs.YtlghhhhgfnnjgaaDoor
