/-
  NARROWER THAN 'FOR EVERY INPUT', by the rows' own cells (each row's printed sentence says how): ClassTells: laid · ClassHolds: laid · ClassBack: laid · ClassRises: laid.
  DERIVED. THE GIVEN ROWS OF THIS SEAT. 4 by the template 'for every input the law returns true; each argument reads behind the call as it read before'; 0 by the template 'total and deterministic' (their statements: YtdpdgmdfffedpaaDoorTotals.lean).
  GIVEN WITH THE SEED: the statements are not yours to turn. If you find one false, say at which input.
  Laid BY PROGRAM, IN A SANDBOX (cutbox-rows.mjs): the forced cells as the released guide's own fill.sh prints them over the translation c1ddf9eb69d26e14… (all of the seat's roots in one cut). By AI agents, Wed Nov 11 2026. No macro, syntax, notation, axiom, sorry.
-/
import Derived.Test.YtdpdgmdfffedpaaDoorChecked
import GoSem.Claim
import GoSem.ClaimJoined
import GoSem.ClaimMapViews
import Derived.JoinedTies
import Derived.KernelRfl
namespace Go.Proofs.YtdpdgmdfffedpaaDoor
/- THE CELL 'sum', in the pinned program and in every row, IS THE sha256 OF THE DUMP (.gsa) THAT YtdpdgmdfffedpaaDoorProg.lean LOADS. Nothing in Lean hashes anything: it is a label: what it is worth is what the hold of that sum in a sandbox is worth. -/
noncomputable def Tryd.pinned : Pinned := { name := "ytdpdgmdfffedpaadoor", sum := "c1ddf9eb69d26e14385ede2551201c28ecff8f178ff73ba3e23b0da9ddefcf90", checked := Tryd.checked }
namespace Rows
def none {H : Type} : Left H := { results := [], args := [] }

/- WHAT THE LISTED PACKAGE-LEVEL VARIABLES READ AS WHEN THE CALL BEGINS. Each datum BY PROGRAM (the guide's laid-datum.mjs) off the statement by which the dump's own 'gosem.cut.vars' lays the variable. In a bare row this is a premise. The card (YtdpdgmdfffedpaaDoorCards.lean) ties it to the program's text. -/
def laid_joist_class_cellWords {H : Type} : DataW H := .agg [.lit (.int .i64 2), .lit (.int .i64 3), .lit (.int .i64 5), .lit (.int .i64 7), .lit (.int .i64 10), .lit (.int .i64 15)]

/-- 'joistlaw12.ClassTells': WHATEVER THE INPUT: true; the input reads as it did. -/
def classTellsSpec : ChangeSpec := { name := "classTells", fn := fun _ => fun
  | [d1, d2, d3, d4] => { results := [.lit (.bool true)], args := [d1, d2, d3, d4] }
  | _ => none }
def classTellsRow : OpenClaim := { program := "ytdpdgmdfffedpaadoor", sum := "c1ddf9eb69d26e14385ede2551201c28ecff8f178ff73ba3e23b0da9ddefcf90", func := "joist/joistlaw12.ClassTells", spec := "classTells", named := ["joist/class.cellWords"], apart := false, laid := [("joist/class.cellWords", laid_joist_class_cellWords)] }
def ClassTellsSaid : Prop := classTellsRow.holds Tryd.pinned (OpenSpec.ofChange classTellsSpec)

/-- ITS FALSE NEIGHBOUR: 'it returns false'. Refute it at one input. -/
def classTellsWrong : ChangeSpec := { name := "classTells", fn := fun _ => fun
  | [d1, d2, d3, d4] => { results := [.lit (.bool false)], args := [d1, d2, d3, d4] }
  | _ => none }
def ClassTellsWrongFalsely : Prop := classTellsRow.holds Tryd.pinned (OpenSpec.ofChange classTellsWrong)

/-- 'joistlaw12.ClassHolds': WHATEVER THE INPUT: true; the input reads as it did. -/
def classHoldsSpec : ChangeSpec := { name := "classHolds", fn := fun _ => fun
  | [d1, d2, d3] => { results := [.lit (.bool true)], args := [d1, d2, d3] }
  | _ => none }
def classHoldsRow : OpenClaim := { program := "ytdpdgmdfffedpaadoor", sum := "c1ddf9eb69d26e14385ede2551201c28ecff8f178ff73ba3e23b0da9ddefcf90", func := "joist/joistlaw12.ClassHolds", spec := "classHolds", named := ["joist/class.cellWords"], apart := false, laid := [("joist/class.cellWords", laid_joist_class_cellWords)] }
def ClassHoldsSaid : Prop := classHoldsRow.holds Tryd.pinned (OpenSpec.ofChange classHoldsSpec)

/-- ITS FALSE NEIGHBOUR: 'it returns false'. Refute it at one input. -/
def classHoldsWrong : ChangeSpec := { name := "classHolds", fn := fun _ => fun
  | [d1, d2, d3] => { results := [.lit (.bool false)], args := [d1, d2, d3] }
  | _ => none }
def ClassHoldsWrongFalsely : Prop := classHoldsRow.holds Tryd.pinned (OpenSpec.ofChange classHoldsWrong)

/-- 'joistlaw12.ClassBack': WHATEVER THE INPUT: true; the input reads as it did. -/
def classBackSpec : ChangeSpec := { name := "classBack", fn := fun _ => fun
  | [d1, d2, d3] => { results := [.lit (.bool true)], args := [d1, d2, d3] }
  | _ => none }
def classBackRow : OpenClaim := { program := "ytdpdgmdfffedpaadoor", sum := "c1ddf9eb69d26e14385ede2551201c28ecff8f178ff73ba3e23b0da9ddefcf90", func := "joist/joistlaw12.ClassBack", spec := "classBack", named := ["joist/class.cellWords"], apart := false, laid := [("joist/class.cellWords", laid_joist_class_cellWords)] }
def ClassBackSaid : Prop := classBackRow.holds Tryd.pinned (OpenSpec.ofChange classBackSpec)

/-- ITS FALSE NEIGHBOUR: 'it returns false'. Refute it at one input. -/
def classBackWrong : ChangeSpec := { name := "classBack", fn := fun _ => fun
  | [d1, d2, d3] => { results := [.lit (.bool false)], args := [d1, d2, d3] }
  | _ => none }
def ClassBackWrongFalsely : Prop := classBackRow.holds Tryd.pinned (OpenSpec.ofChange classBackWrong)

/-- 'joistlaw12.ClassRises': WHATEVER THE INPUT: true; the input reads as it did. -/
def classRisesSpec : ChangeSpec := { name := "classRises", fn := fun _ => fun
  | [d1, d2] => { results := [.lit (.bool true)], args := [d1, d2] }
  | _ => none }
def classRisesRow : OpenClaim := { program := "ytdpdgmdfffedpaadoor", sum := "c1ddf9eb69d26e14385ede2551201c28ecff8f178ff73ba3e23b0da9ddefcf90", func := "joist/joistlaw12.ClassRises", spec := "classRises", named := ["joist/class.cellWords"], apart := false, laid := [("joist/class.cellWords", laid_joist_class_cellWords)] }
def ClassRisesSaid : Prop := classRisesRow.holds Tryd.pinned (OpenSpec.ofChange classRisesSpec)

/-- ITS FALSE NEIGHBOUR: 'it returns false'. Refute it at one input. -/
def classRisesWrong : ChangeSpec := { name := "classRises", fn := fun _ => fun
  | [d1, d2] => { results := [.lit (.bool false)], args := [d1, d2] }
  | _ => none }
def ClassRisesWrongFalsely : Prop := classRisesRow.holds Tryd.pinned (OpenSpec.ofChange classRisesWrong)

/- THE SECOND FORM. 'bulk': how many values and letters a reading holds, each counted each time it is reached (what is shared counts as often as it is met; a slice's spare places count too). A statement '..UptoSaid' is the law's where the arguments, and the package variables that the reading takes, are together of bulk at most 1048576: NARROWER than '..Said'. Prove '..Said' where nothing that the law and all that it calls make is longer than what came in: it says more and counts as full. Else prove '..UptoSaid'. A law counts once. -/
mutual
def uptoBulk {H : Type} : DataW H → Nat
  | .lit (.string bytes) => bytes.length + 1
  | .lit _ => 1
  | .nil => 1
  | .ptr d => uptoBulk d + 1
  | .slice elems spare => uptoBulkAll elems + uptoBulkAll spare + 1
  | .agg parts => uptoBulkAll parts + 1
  | .iface _ d => uptoBulk d + 1
  | .map entries => uptoBulkEntries entries + 1
  | .held _ => 1
def uptoBulkAll {H : Type} : List (DataW H) → Nat
  | [] => 0
  | d :: r => uptoBulk d + uptoBulkAll r
def uptoBulkEntries {H : Type} : List (Lit × DataW H) → Nat
  | [] => 0
  | x :: r => uptoBulkEntry x + uptoBulkEntries r
def uptoBulkEntry {H : Type} : Lit × DataW H → Nat
  | (.string bytes, d) => bytes.length + uptoBulk d + 1
  | (_, d) => uptoBulk d + 1
 end
def uptoSmall : (H : Type) → List (DataW H) → Bool := fun _ ds => decide (uptoBulkAll ds ≤ 1048576)
def OpenSpec.upto (s : _root_.Go.ChangeSpec) : _root_.Go.OpenSpec := { _root_.Go.OpenSpec.ofChange s with cond := some uptoSmall }

/-- 'joistlaw12.ClassTells', WHERE WHAT IT READS IS OF BULK AT MOST 1048576: true; the input reads as it did. -/
def classTellsUptoRow : OpenClaim := { program := "ytdpdgmdfffedpaadoor", sum := "c1ddf9eb69d26e14385ede2551201c28ecff8f178ff73ba3e23b0da9ddefcf90", func := "joist/joistlaw12.ClassTells", spec := "classTells", named := ["joist/class.cellWords"], apart := false, laid := [("joist/class.cellWords", laid_joist_class_cellWords)], narrowed := true }
def ClassTellsUptoSaid : Prop := classTellsUptoRow.holds Tryd.pinned (OpenSpec.upto classTellsSpec)

/-- 'joistlaw12.ClassHolds', WHERE WHAT IT READS IS OF BULK AT MOST 1048576: true; the input reads as it did. -/
def classHoldsUptoRow : OpenClaim := { program := "ytdpdgmdfffedpaadoor", sum := "c1ddf9eb69d26e14385ede2551201c28ecff8f178ff73ba3e23b0da9ddefcf90", func := "joist/joistlaw12.ClassHolds", spec := "classHolds", named := ["joist/class.cellWords"], apart := false, laid := [("joist/class.cellWords", laid_joist_class_cellWords)], narrowed := true }
def ClassHoldsUptoSaid : Prop := classHoldsUptoRow.holds Tryd.pinned (OpenSpec.upto classHoldsSpec)

/-- 'joistlaw12.ClassBack', WHERE WHAT IT READS IS OF BULK AT MOST 1048576: true; the input reads as it did. -/
def classBackUptoRow : OpenClaim := { program := "ytdpdgmdfffedpaadoor", sum := "c1ddf9eb69d26e14385ede2551201c28ecff8f178ff73ba3e23b0da9ddefcf90", func := "joist/joistlaw12.ClassBack", spec := "classBack", named := ["joist/class.cellWords"], apart := false, laid := [("joist/class.cellWords", laid_joist_class_cellWords)], narrowed := true }
def ClassBackUptoSaid : Prop := classBackUptoRow.holds Tryd.pinned (OpenSpec.upto classBackSpec)

/-- 'joistlaw12.ClassRises', WHERE WHAT IT READS IS OF BULK AT MOST 1048576: true; the input reads as it did. -/
def classRisesUptoRow : OpenClaim := { program := "ytdpdgmdfffedpaadoor", sum := "c1ddf9eb69d26e14385ede2551201c28ecff8f178ff73ba3e23b0da9ddefcf90", func := "joist/joistlaw12.ClassRises", spec := "classRises", named := ["joist/class.cellWords"], apart := false, laid := [("joist/class.cellWords", laid_joist_class_cellWords)], narrowed := true }
def ClassRisesUptoSaid : Prop := classRisesUptoRow.holds Tryd.pinned (OpenSpec.upto classRisesSpec)

end Rows
end Go.Proofs.YtdpdgmdfffedpaaDoor
