/-
  NARROWER THAN 'FOR EVERY INPUT', by the rows' own cells (each row's printed sentence says how): TagsWrites: laid · TagsReads: laid · TagsBack: laid · TagsWalks: laid · TagsLists: laid.
  DERIVED. THE GIVEN ROWS OF THIS SEAT. 5 by the template 'for every input the law returns true; each argument reads behind the call as it read before'; 0 by the template 'total and deterministic' (their statements: YtclkooaepfedaaaDoorTotals.lean).
  GIVEN WITH THE SEED: the statements are not yours to turn. If you find one false, say at which input.
  Laid BY PROGRAM, IN A SANDBOX (cutbox-rows.mjs): the forced cells as the released guide's own fill.sh prints them over the translation 064480781301576d… (all of the seat's roots in one cut). By AI agents, Wed Nov 11 2026. No macro, syntax, notation, axiom, sorry.
-/
import Derived.Test.YtclkooaepfedaaaDoorChecked
import GoSem.Claim
import GoSem.ClaimJoined
import GoSem.ClaimMapViews
import Derived.JoinedTies
import Derived.KernelRfl
namespace Go.Proofs.YtclkooaepfedaaaDoor
/- THE CELL 'sum', in the pinned program and in every row, IS THE sha256 OF THE DUMP (.gsa) THAT YtclkooaepfedaaaDoorProg.lean LOADS. Nothing in Lean hashes anything: it is a label: what it is worth is what the hold of that sum in a sandbox is worth. -/
noncomputable def Tryd.pinned : Pinned := { name := "ytclkooaepfedaaadoor", sum := "064480781301576dedab546dac735ee13ceecee46dec5983d06a0359ecfe1fc9", checked := Tryd.checked }
namespace Rows
def none {H : Type} : Left H := { results := [], args := [] }

/- WHAT THE LISTED PACKAGE-LEVEL VARIABLES READ AS WHEN THE CALL BEGINS. Each datum BY PROGRAM (the guide's laid-datum.mjs) off the statement by which the dump's own 'gosem.cut.vars' lays the variable. In a bare row this is a premise. The card (YtclkooaepfedaaaDoorCards.lean) ties it to the program's text. -/
def laid_joist_tags_mostWords {H : Type} : DataW H := .agg [.lit (.int .i64 4), .lit (.int .i64 8), .lit (.int .i64 16), .lit (.int .i64 32), .lit (.int .i64 64), .lit (.int .i64 128)]

/-- 'joistlaw11.TagsWrites': WHATEVER THE INPUT: true; the input reads as it did. -/
def tagsWritesSpec : ChangeSpec := { name := "tagsWrites", fn := fun _ => fun
  | [d1, d2, d3, d4, d5] => { results := [.lit (.bool true)], args := [d1, d2, d3, d4, d5] }
  | _ => none }
def tagsWritesRow : OpenClaim := { program := "ytclkooaepfedaaadoor", sum := "064480781301576dedab546dac735ee13ceecee46dec5983d06a0359ecfe1fc9", func := "joist/joistlaw11.TagsWrites", spec := "tagsWrites", unfollowed := true, recurses := true, named := ["joist/tags.mostWords"], apart := false, laid := [("joist/tags.mostWords", laid_joist_tags_mostWords)] }
def TagsWritesSaid : Prop := tagsWritesRow.holds Tryd.pinned (OpenSpec.ofChange tagsWritesSpec)

/-- ITS FALSE NEIGHBOUR: 'it returns false'. Refute it at one input. -/
def tagsWritesWrong : ChangeSpec := { name := "tagsWrites", fn := fun _ => fun
  | [d1, d2, d3, d4, d5] => { results := [.lit (.bool false)], args := [d1, d2, d3, d4, d5] }
  | _ => none }
def TagsWritesWrongFalsely : Prop := tagsWritesRow.holds Tryd.pinned (OpenSpec.ofChange tagsWritesWrong)

/-- 'joistlaw11.TagsReads': WHATEVER THE INPUT: true; the input reads as it did. -/
def tagsReadsSpec : ChangeSpec := { name := "tagsReads", fn := fun _ => fun
  | [d1, d2, d3, d4] => { results := [.lit (.bool true)], args := [d1, d2, d3, d4] }
  | _ => none }
def tagsReadsRow : OpenClaim := { program := "ytclkooaepfedaaadoor", sum := "064480781301576dedab546dac735ee13ceecee46dec5983d06a0359ecfe1fc9", func := "joist/joistlaw11.TagsReads", spec := "tagsReads", unfollowed := true, recurses := true, named := ["joist/tags.mostWords"], apart := false, laid := [("joist/tags.mostWords", laid_joist_tags_mostWords)] }
def TagsReadsSaid : Prop := tagsReadsRow.holds Tryd.pinned (OpenSpec.ofChange tagsReadsSpec)

/-- ITS FALSE NEIGHBOUR: 'it returns false'. Refute it at one input. -/
def tagsReadsWrong : ChangeSpec := { name := "tagsReads", fn := fun _ => fun
  | [d1, d2, d3, d4] => { results := [.lit (.bool false)], args := [d1, d2, d3, d4] }
  | _ => none }
def TagsReadsWrongFalsely : Prop := tagsReadsRow.holds Tryd.pinned (OpenSpec.ofChange tagsReadsWrong)

/-- 'joistlaw11.TagsBack': WHATEVER THE INPUT: true; the input reads as it did. -/
def tagsBackSpec : ChangeSpec := { name := "tagsBack", fn := fun _ => fun
  | [d1, d2, d3, d4, d5, d6] => { results := [.lit (.bool true)], args := [d1, d2, d3, d4, d5, d6] }
  | _ => none }
def tagsBackRow : OpenClaim := { program := "ytclkooaepfedaaadoor", sum := "064480781301576dedab546dac735ee13ceecee46dec5983d06a0359ecfe1fc9", func := "joist/joistlaw11.TagsBack", spec := "tagsBack", unfollowed := true, recurses := true, named := ["joist/tags.mostWords"], apart := false, laid := [("joist/tags.mostWords", laid_joist_tags_mostWords)] }
def TagsBackSaid : Prop := tagsBackRow.holds Tryd.pinned (OpenSpec.ofChange tagsBackSpec)

/-- ITS FALSE NEIGHBOUR: 'it returns false'. Refute it at one input. -/
def tagsBackWrong : ChangeSpec := { name := "tagsBack", fn := fun _ => fun
  | [d1, d2, d3, d4, d5, d6] => { results := [.lit (.bool false)], args := [d1, d2, d3, d4, d5, d6] }
  | _ => none }
def TagsBackWrongFalsely : Prop := tagsBackRow.holds Tryd.pinned (OpenSpec.ofChange tagsBackWrong)

/-- 'joistlaw11.TagsWalks': WHATEVER THE INPUT: true; the input reads as it did. -/
def tagsWalksSpec : ChangeSpec := { name := "tagsWalks", fn := fun _ => fun
  | [d1, d2, d3, d4] => { results := [.lit (.bool true)], args := [d1, d2, d3, d4] }
  | _ => none }
def tagsWalksRow : OpenClaim := { program := "ytclkooaepfedaaadoor", sum := "064480781301576dedab546dac735ee13ceecee46dec5983d06a0359ecfe1fc9", func := "joist/joistlaw11.TagsWalks", spec := "tagsWalks", unfollowed := true, recurses := true, named := ["joist/tags.mostWords"], apart := false, laid := [("joist/tags.mostWords", laid_joist_tags_mostWords)] }
def TagsWalksSaid : Prop := tagsWalksRow.holds Tryd.pinned (OpenSpec.ofChange tagsWalksSpec)

/-- ITS FALSE NEIGHBOUR: 'it returns false'. Refute it at one input. -/
def tagsWalksWrong : ChangeSpec := { name := "tagsWalks", fn := fun _ => fun
  | [d1, d2, d3, d4] => { results := [.lit (.bool false)], args := [d1, d2, d3, d4] }
  | _ => none }
def TagsWalksWrongFalsely : Prop := tagsWalksRow.holds Tryd.pinned (OpenSpec.ofChange tagsWalksWrong)

/-- 'joistlaw11.TagsLists': WHATEVER THE INPUT: true; the input reads as it did. -/
def tagsListsSpec : ChangeSpec := { name := "tagsLists", fn := fun _ => fun
  | [d1, d2, d3, d4, d5, d6] => { results := [.lit (.bool true)], args := [d1, d2, d3, d4, d5, d6] }
  | _ => none }
def tagsListsRow : OpenClaim := { program := "ytclkooaepfedaaadoor", sum := "064480781301576dedab546dac735ee13ceecee46dec5983d06a0359ecfe1fc9", func := "joist/joistlaw11.TagsLists", spec := "tagsLists", unfollowed := true, recurses := true, named := ["joist/tags.mostWords"], apart := false, laid := [("joist/tags.mostWords", laid_joist_tags_mostWords)] }
def TagsListsSaid : Prop := tagsListsRow.holds Tryd.pinned (OpenSpec.ofChange tagsListsSpec)

/-- ITS FALSE NEIGHBOUR: 'it returns false'. Refute it at one input. -/
def tagsListsWrong : ChangeSpec := { name := "tagsLists", fn := fun _ => fun
  | [d1, d2, d3, d4, d5, d6] => { results := [.lit (.bool false)], args := [d1, d2, d3, d4, d5, d6] }
  | _ => none }
def TagsListsWrongFalsely : Prop := tagsListsRow.holds Tryd.pinned (OpenSpec.ofChange tagsListsWrong)

/- THE SECOND FORM. 'bulk': how many values and letters a reading holds, each counted each time it is reached (what is shared counts as often as it is met; a slice's spare places count too). A statement '..UptoSaid' is the law's where the arguments, and the package variables that the reading takes, are together of bulk at most 1048576: NARROWER than '..Said'. Prove '..Said' where nothing that the law and all that it calls make is longer than what came in: it says more and counts as full. Else prove '..UptoSaid'. A law counts once. -/
mutual
def uptoBulk {H : Type} : DataW H → Nat
  | .lit (.string bytes) => bytes.length + 1
  | .lit _ => 1
  | .nil => 1
  | .ptr d => uptoBulk d + 1
  | .slice elems spare => uptoBulkAll elems + uptoBulkAll spare + 1
  | .agg parts => uptoBulkAll parts + 1
  | .iface _ d => uptoBulk d + 1
  | .map entries => uptoBulkEntries entries + 1
  | .held _ => 1
def uptoBulkAll {H : Type} : List (DataW H) → Nat
  | [] => 0
  | d :: r => uptoBulk d + uptoBulkAll r
def uptoBulkEntries {H : Type} : List (Lit × DataW H) → Nat
  | [] => 0
  | x :: r => uptoBulkEntry x + uptoBulkEntries r
def uptoBulkEntry {H : Type} : Lit × DataW H → Nat
  | (.string bytes, d) => bytes.length + uptoBulk d + 1
  | (_, d) => uptoBulk d + 1
 end
def uptoSmall : (H : Type) → List (DataW H) → Bool := fun _ ds => decide (uptoBulkAll ds ≤ 1048576)
def OpenSpec.upto (s : _root_.Go.ChangeSpec) : _root_.Go.OpenSpec := { _root_.Go.OpenSpec.ofChange s with cond := some uptoSmall }

/-- 'joistlaw11.TagsWrites', WHERE WHAT IT READS IS OF BULK AT MOST 1048576: true; the input reads as it did. -/
def tagsWritesUptoRow : OpenClaim := { program := "ytclkooaepfedaaadoor", sum := "064480781301576dedab546dac735ee13ceecee46dec5983d06a0359ecfe1fc9", func := "joist/joistlaw11.TagsWrites", spec := "tagsWrites", unfollowed := true, recurses := true, named := ["joist/tags.mostWords"], apart := false, laid := [("joist/tags.mostWords", laid_joist_tags_mostWords)], narrowed := true }
def TagsWritesUptoSaid : Prop := tagsWritesUptoRow.holds Tryd.pinned (OpenSpec.upto tagsWritesSpec)

/-- 'joistlaw11.TagsReads', WHERE WHAT IT READS IS OF BULK AT MOST 1048576: true; the input reads as it did. -/
def tagsReadsUptoRow : OpenClaim := { program := "ytclkooaepfedaaadoor", sum := "064480781301576dedab546dac735ee13ceecee46dec5983d06a0359ecfe1fc9", func := "joist/joistlaw11.TagsReads", spec := "tagsReads", unfollowed := true, recurses := true, named := ["joist/tags.mostWords"], apart := false, laid := [("joist/tags.mostWords", laid_joist_tags_mostWords)], narrowed := true }
def TagsReadsUptoSaid : Prop := tagsReadsUptoRow.holds Tryd.pinned (OpenSpec.upto tagsReadsSpec)

/-- 'joistlaw11.TagsBack', WHERE WHAT IT READS IS OF BULK AT MOST 1048576: true; the input reads as it did. -/
def tagsBackUptoRow : OpenClaim := { program := "ytclkooaepfedaaadoor", sum := "064480781301576dedab546dac735ee13ceecee46dec5983d06a0359ecfe1fc9", func := "joist/joistlaw11.TagsBack", spec := "tagsBack", unfollowed := true, recurses := true, named := ["joist/tags.mostWords"], apart := false, laid := [("joist/tags.mostWords", laid_joist_tags_mostWords)], narrowed := true }
def TagsBackUptoSaid : Prop := tagsBackUptoRow.holds Tryd.pinned (OpenSpec.upto tagsBackSpec)

/-- 'joistlaw11.TagsWalks', WHERE WHAT IT READS IS OF BULK AT MOST 1048576: true; the input reads as it did. -/
def tagsWalksUptoRow : OpenClaim := { program := "ytclkooaepfedaaadoor", sum := "064480781301576dedab546dac735ee13ceecee46dec5983d06a0359ecfe1fc9", func := "joist/joistlaw11.TagsWalks", spec := "tagsWalks", unfollowed := true, recurses := true, named := ["joist/tags.mostWords"], apart := false, laid := [("joist/tags.mostWords", laid_joist_tags_mostWords)], narrowed := true }
def TagsWalksUptoSaid : Prop := tagsWalksUptoRow.holds Tryd.pinned (OpenSpec.upto tagsWalksSpec)

/-- 'joistlaw11.TagsLists', WHERE WHAT IT READS IS OF BULK AT MOST 1048576: true; the input reads as it did. -/
def tagsListsUptoRow : OpenClaim := { program := "ytclkooaepfedaaadoor", sum := "064480781301576dedab546dac735ee13ceecee46dec5983d06a0359ecfe1fc9", func := "joist/joistlaw11.TagsLists", spec := "tagsLists", unfollowed := true, recurses := true, named := ["joist/tags.mostWords"], apart := false, laid := [("joist/tags.mostWords", laid_joist_tags_mostWords)], narrowed := true }
def TagsListsUptoSaid : Prop := tagsListsUptoRow.holds Tryd.pinned (OpenSpec.upto tagsListsSpec)

end Rows
end Go.Proofs.YtclkooaepfedaaaDoor
