/-
  NARROWER THAN 'FOR EVERY INPUT', by the rows' own cells (each row's printed sentence says how): ImageEncodes: laid · ImageDecodes: laid · ImageBack: laid · ImageApart: laid · ImageLines: laid · ImageTurns: laid.
  DERIVED. THE GIVEN ROWS OF THIS SEAT. 6 by the template 'for every input the law returns true; each argument reads behind the call as it read before'; 0 by the template 'total and deterministic' (their statements: YtfdnicekdkchbaaGreatDoorTotals.lean).
  GIVEN WITH THE SEED: the statements are not yours to turn. If you find one false, say at which input.
  Laid BY PROGRAM, IN A SANDBOX (cutbox-rows.mjs): the forced cells as the released guide's own fill.sh prints them over the translation 5d78b8f31d4903db… (all of the seat's roots in one cut). By AI agents, Wed Nov 11 2026. No macro, syntax, notation, axiom, sorry.
-/
import Derived.Test.YtfdnicekdkchbaaGreatDoorChecked
import GoSem.PinnedTables
import GoSem.Claim
import GoSem.ClaimJoined
import GoSem.ClaimMapViews
import Derived.JoinedTies
import Derived.KernelRfl
namespace Go.Proofs.YtfdnicekdkchbaaGreatDoor
/- THE CELL 'sum', in the pinned program and in every row, IS THE sha256 OF THE DUMP (.gsa) THAT YtfdnicekdkchbaaGreatDoorProg.lean LOADS. Nothing in Lean hashes anything: it is a label: what it is worth is what the hold of that sum in a sandbox is worth. -/
noncomputable def Tryz.pinned : Pinned := { name := "ytfdnicekdkchbaagreatdoor", sum := "5d78b8f31d4903dbf1a64738499dab812a07f01b014c6dc61d870b19ab078f4c", checked := Tryz.checked }
namespace Rows
def none {H : Type} : Left H := { results := [], args := [] }

/- WHAT THE LISTED PACKAGE-LEVEL VARIABLES READ AS WHEN THE CALL BEGINS. Each datum BY PROGRAM (the guide's laid-datum.mjs) off the statement by which the dump's own 'gosem.cut.vars' lays the variable. In a bare row this is a premise. The card (YtfdnicekdkchbaaGreatDoorCards.lean) ties it to the program's text. -/
def laid_joist_class_cellWords {H : Type} : DataW H := .agg [.lit (.int .i64 2), .lit (.int .i64 3), .lit (.int .i64 5), .lit (.int .i64 7), .lit (.int .i64 10), .lit (.int .i64 15)]
def laid_unicode_utf8_acceptRanges {H : Type} : DataW H := .agg [.agg [.lit (.int .u8 128), .lit (.int .u8 191)], .agg [.lit (.int .u8 160), .lit (.int .u8 191)], .agg [.lit (.int .u8 128), .lit (.int .u8 159)], .agg [.lit (.int .u8 144), .lit (.int .u8 191)], .agg [.lit (.int .u8 128), .lit (.int .u8 143)], .agg [.lit (.int .u8 0), .lit (.int .u8 0)], .agg [.lit (.int .u8 0), .lit (.int .u8 0)], .agg [.lit (.int .u8 0), .lit (.int .u8 0)], .agg [.lit (.int .u8 0), .lit (.int .u8 0)], .agg [.lit (.int .u8 0), .lit (.int .u8 0)], .agg [.lit (.int .u8 0), .lit (.int .u8 0)], .agg [.lit (.int .u8 0), .lit (.int .u8 0)], .agg [.lit (.int .u8 0), .lit (.int .u8 0)], .agg [.lit (.int .u8 0), .lit (.int .u8 0)], .agg [.lit (.int .u8 0), .lit (.int .u8 0)], .agg [.lit (.int .u8 0), .lit (.int .u8 0)]]
def laid_joist_tags_mostWords {H : Type} : DataW H := .agg [.lit (.int .i64 4), .lit (.int .i64 8), .lit (.int .i64 16), .lit (.int .i64 32), .lit (.int .i64 64), .lit (.int .i64 128)]
/-- One of Go's own tables, pinned by name: the form's constant. -/
def laid_unicode_utf8_first : DataW Unit := Go.Pinned.utf8First

/-- 'joistlaw19.ImageEncodes': WHATEVER THE INPUT: true; the input reads as it did. -/
def imageEncodesSpec : ChangeSpec := { name := "imageEncodes", fn := fun _ => fun
  | [d] => { results := [.lit (.bool true)], args := [d] }
  | _ => none }
def imageEncodesRow : OpenClaim := { program := "ytfdnicekdkchbaagreatdoor", sum := "5d78b8f31d4903dbf1a64738499dab812a07f01b014c6dc61d870b19ab078f4c", func := "joist/joistlaw19.ImageEncodes", spec := "imageEncodes", unfollowed := true, recurses := true, named := ["joist/class.cellWords", "joist/tags.mostWords", "unicode/utf8.first", "unicode/utf8.acceptRanges"], apart := false, laid := [("joist/class.cellWords", laid_joist_class_cellWords), ("unicode/utf8.acceptRanges", laid_unicode_utf8_acceptRanges), ("joist/tags.mostWords", laid_joist_tags_mostWords), ("unicode/utf8.first", laid_unicode_utf8_first)] }
def ImageEncodesSaid : Prop := imageEncodesRow.holds Tryz.pinned (OpenSpec.ofChange imageEncodesSpec)

/-- ITS FALSE NEIGHBOUR: 'it returns false'. Refute it at one input. -/
def imageEncodesWrong : ChangeSpec := { name := "imageEncodes", fn := fun _ => fun
  | [d] => { results := [.lit (.bool false)], args := [d] }
  | _ => none }
def ImageEncodesWrongFalsely : Prop := imageEncodesRow.holds Tryz.pinned (OpenSpec.ofChange imageEncodesWrong)

/-- 'joistlaw19.ImageDecodes': WHATEVER THE INPUT: true; the input reads as it did. -/
def imageDecodesSpec : ChangeSpec := { name := "imageDecodes", fn := fun _ => fun
  | [d1, d2] => { results := [.lit (.bool true)], args := [d1, d2] }
  | _ => none }
def imageDecodesRow : OpenClaim := { program := "ytfdnicekdkchbaagreatdoor", sum := "5d78b8f31d4903dbf1a64738499dab812a07f01b014c6dc61d870b19ab078f4c", func := "joist/joistlaw19.ImageDecodes", spec := "imageDecodes", unfollowed := true, recurses := true, named := ["joist/class.cellWords", "joist/tags.mostWords", "unicode/utf8.first", "unicode/utf8.acceptRanges"], apart := false, laid := [("joist/class.cellWords", laid_joist_class_cellWords), ("unicode/utf8.acceptRanges", laid_unicode_utf8_acceptRanges), ("joist/tags.mostWords", laid_joist_tags_mostWords), ("unicode/utf8.first", laid_unicode_utf8_first)] }
def ImageDecodesSaid : Prop := imageDecodesRow.holds Tryz.pinned (OpenSpec.ofChange imageDecodesSpec)

/-- ITS FALSE NEIGHBOUR: 'it returns false'. Refute it at one input. -/
def imageDecodesWrong : ChangeSpec := { name := "imageDecodes", fn := fun _ => fun
  | [d1, d2] => { results := [.lit (.bool false)], args := [d1, d2] }
  | _ => none }
def ImageDecodesWrongFalsely : Prop := imageDecodesRow.holds Tryz.pinned (OpenSpec.ofChange imageDecodesWrong)

/-- 'joistlaw19.ImageBack': WHATEVER THE INPUT: true; the input reads as it did. -/
def imageBackSpec : ChangeSpec := { name := "imageBack", fn := fun _ => fun
  | [d1, d2, d3] => { results := [.lit (.bool true)], args := [d1, d2, d3] }
  | _ => none }
def imageBackRow : OpenClaim := { program := "ytfdnicekdkchbaagreatdoor", sum := "5d78b8f31d4903dbf1a64738499dab812a07f01b014c6dc61d870b19ab078f4c", func := "joist/joistlaw19.ImageBack", spec := "imageBack", unfollowed := true, recurses := true, named := ["joist/class.cellWords", "joist/tags.mostWords", "unicode/utf8.first", "unicode/utf8.acceptRanges"], apart := false, laid := [("joist/class.cellWords", laid_joist_class_cellWords), ("unicode/utf8.acceptRanges", laid_unicode_utf8_acceptRanges), ("joist/tags.mostWords", laid_joist_tags_mostWords), ("unicode/utf8.first", laid_unicode_utf8_first)] }
def ImageBackSaid : Prop := imageBackRow.holds Tryz.pinned (OpenSpec.ofChange imageBackSpec)

/-- ITS FALSE NEIGHBOUR: 'it returns false'. Refute it at one input. -/
def imageBackWrong : ChangeSpec := { name := "imageBack", fn := fun _ => fun
  | [d1, d2, d3] => { results := [.lit (.bool false)], args := [d1, d2, d3] }
  | _ => none }
def ImageBackWrongFalsely : Prop := imageBackRow.holds Tryz.pinned (OpenSpec.ofChange imageBackWrong)

/-- 'joistlaw19.ImageApart': WHATEVER THE INPUT: true; the input reads as it did. -/
def imageApartSpec : ChangeSpec := { name := "imageApart", fn := fun _ => fun
  | [d1, d2] => { results := [.lit (.bool true)], args := [d1, d2] }
  | _ => none }
def imageApartRow : OpenClaim := { program := "ytfdnicekdkchbaagreatdoor", sum := "5d78b8f31d4903dbf1a64738499dab812a07f01b014c6dc61d870b19ab078f4c", func := "joist/joistlaw19.ImageApart", spec := "imageApart", unfollowed := true, recurses := true, named := ["joist/class.cellWords", "joist/tags.mostWords", "unicode/utf8.first", "unicode/utf8.acceptRanges"], apart := false, laid := [("joist/class.cellWords", laid_joist_class_cellWords), ("unicode/utf8.acceptRanges", laid_unicode_utf8_acceptRanges), ("joist/tags.mostWords", laid_joist_tags_mostWords), ("unicode/utf8.first", laid_unicode_utf8_first)] }
def ImageApartSaid : Prop := imageApartRow.holds Tryz.pinned (OpenSpec.ofChange imageApartSpec)

/-- ITS FALSE NEIGHBOUR: 'it returns false'. Refute it at one input. -/
def imageApartWrong : ChangeSpec := { name := "imageApart", fn := fun _ => fun
  | [d1, d2] => { results := [.lit (.bool false)], args := [d1, d2] }
  | _ => none }
def ImageApartWrongFalsely : Prop := imageApartRow.holds Tryz.pinned (OpenSpec.ofChange imageApartWrong)

/-- 'joistlaw19.ImageLines': WHATEVER THE INPUT: true; the input reads as it did. -/
def imageLinesSpec : ChangeSpec := { name := "imageLines", fn := fun _ => fun
  | [d1, d2] => { results := [.lit (.bool true)], args := [d1, d2] }
  | _ => none }
def imageLinesRow : OpenClaim := { program := "ytfdnicekdkchbaagreatdoor", sum := "5d78b8f31d4903dbf1a64738499dab812a07f01b014c6dc61d870b19ab078f4c", func := "joist/joistlaw19.ImageLines", spec := "imageLines", unfollowed := true, recurses := true, named := ["joist/class.cellWords", "joist/tags.mostWords", "unicode/utf8.first", "unicode/utf8.acceptRanges"], apart := false, laid := [("joist/class.cellWords", laid_joist_class_cellWords), ("unicode/utf8.acceptRanges", laid_unicode_utf8_acceptRanges), ("joist/tags.mostWords", laid_joist_tags_mostWords), ("unicode/utf8.first", laid_unicode_utf8_first)] }
def ImageLinesSaid : Prop := imageLinesRow.holds Tryz.pinned (OpenSpec.ofChange imageLinesSpec)

/-- ITS FALSE NEIGHBOUR: 'it returns false'. Refute it at one input. -/
def imageLinesWrong : ChangeSpec := { name := "imageLines", fn := fun _ => fun
  | [d1, d2] => { results := [.lit (.bool false)], args := [d1, d2] }
  | _ => none }
def ImageLinesWrongFalsely : Prop := imageLinesRow.holds Tryz.pinned (OpenSpec.ofChange imageLinesWrong)

/-- 'joistlaw19.ImageTurns': WHATEVER THE INPUT: true; the input reads as it did. -/
def imageTurnsSpec : ChangeSpec := { name := "imageTurns", fn := fun _ => fun
  | [d1, d2, d3] => { results := [.lit (.bool true)], args := [d1, d2, d3] }
  | _ => none }
def imageTurnsRow : OpenClaim := { program := "ytfdnicekdkchbaagreatdoor", sum := "5d78b8f31d4903dbf1a64738499dab812a07f01b014c6dc61d870b19ab078f4c", func := "joist/joistlaw19.ImageTurns", spec := "imageTurns", unfollowed := true, recurses := true, named := ["joist/class.cellWords", "joist/tags.mostWords", "unicode/utf8.first", "unicode/utf8.acceptRanges"], apart := false, laid := [("joist/class.cellWords", laid_joist_class_cellWords), ("unicode/utf8.acceptRanges", laid_unicode_utf8_acceptRanges), ("joist/tags.mostWords", laid_joist_tags_mostWords), ("unicode/utf8.first", laid_unicode_utf8_first)] }
def ImageTurnsSaid : Prop := imageTurnsRow.holds Tryz.pinned (OpenSpec.ofChange imageTurnsSpec)

/-- ITS FALSE NEIGHBOUR: 'it returns false'. Refute it at one input. -/
def imageTurnsWrong : ChangeSpec := { name := "imageTurns", fn := fun _ => fun
  | [d1, d2, d3] => { results := [.lit (.bool false)], args := [d1, d2, d3] }
  | _ => none }
def ImageTurnsWrongFalsely : Prop := imageTurnsRow.holds Tryz.pinned (OpenSpec.ofChange imageTurnsWrong)

/- THE SECOND FORM. 'bulk': how many values and letters a reading holds, each counted each time it is reached (what is shared counts as often as it is met; a slice's spare places count too). A statement '..UptoSaid' is the law's where the arguments, and the package variables that the reading takes, are together of bulk at most 1048576: NARROWER than '..Said'. Prove '..Said' where nothing that the law and all that it calls make is longer than what came in: it says more and counts as full. Else prove '..UptoSaid'. A law counts once. -/
mutual
def uptoBulk {H : Type} : DataW H → Nat
  | .lit (.string bytes) => bytes.length + 1
  | .lit _ => 1
  | .nil => 1
  | .ptr d => uptoBulk d + 1
  | .slice elems spare => uptoBulkAll elems + uptoBulkAll spare + 1
  | .agg parts => uptoBulkAll parts + 1
  | .iface _ d => uptoBulk d + 1
  | .map entries => uptoBulkEntries entries + 1
  | .held _ => 1
def uptoBulkAll {H : Type} : List (DataW H) → Nat
  | [] => 0
  | d :: r => uptoBulk d + uptoBulkAll r
def uptoBulkEntries {H : Type} : List (Lit × DataW H) → Nat
  | [] => 0
  | x :: r => uptoBulkEntry x + uptoBulkEntries r
def uptoBulkEntry {H : Type} : Lit × DataW H → Nat
  | (.string bytes, d) => bytes.length + uptoBulk d + 1
  | (_, d) => uptoBulk d + 1
 end
def uptoSmall : (H : Type) → List (DataW H) → Bool := fun _ ds => decide (uptoBulkAll ds ≤ 1048576)
def OpenSpec.upto (s : _root_.Go.ChangeSpec) : _root_.Go.OpenSpec := { _root_.Go.OpenSpec.ofChange s with cond := some uptoSmall }

/-- 'joistlaw19.ImageEncodes', WHERE WHAT IT READS IS OF BULK AT MOST 1048576: true; the input reads as it did. -/
def imageEncodesUptoRow : OpenClaim := { program := "ytfdnicekdkchbaagreatdoor", sum := "5d78b8f31d4903dbf1a64738499dab812a07f01b014c6dc61d870b19ab078f4c", func := "joist/joistlaw19.ImageEncodes", spec := "imageEncodes", unfollowed := true, recurses := true, named := ["joist/class.cellWords", "joist/tags.mostWords", "unicode/utf8.first", "unicode/utf8.acceptRanges"], apart := false, laid := [("joist/class.cellWords", laid_joist_class_cellWords), ("unicode/utf8.acceptRanges", laid_unicode_utf8_acceptRanges), ("joist/tags.mostWords", laid_joist_tags_mostWords), ("unicode/utf8.first", laid_unicode_utf8_first)], narrowed := true }
def ImageEncodesUptoSaid : Prop := imageEncodesUptoRow.holds Tryz.pinned (OpenSpec.upto imageEncodesSpec)

/-- 'joistlaw19.ImageDecodes', WHERE WHAT IT READS IS OF BULK AT MOST 1048576: true; the input reads as it did. -/
def imageDecodesUptoRow : OpenClaim := { program := "ytfdnicekdkchbaagreatdoor", sum := "5d78b8f31d4903dbf1a64738499dab812a07f01b014c6dc61d870b19ab078f4c", func := "joist/joistlaw19.ImageDecodes", spec := "imageDecodes", unfollowed := true, recurses := true, named := ["joist/class.cellWords", "joist/tags.mostWords", "unicode/utf8.first", "unicode/utf8.acceptRanges"], apart := false, laid := [("joist/class.cellWords", laid_joist_class_cellWords), ("unicode/utf8.acceptRanges", laid_unicode_utf8_acceptRanges), ("joist/tags.mostWords", laid_joist_tags_mostWords), ("unicode/utf8.first", laid_unicode_utf8_first)], narrowed := true }
def ImageDecodesUptoSaid : Prop := imageDecodesUptoRow.holds Tryz.pinned (OpenSpec.upto imageDecodesSpec)

/-- 'joistlaw19.ImageBack', WHERE WHAT IT READS IS OF BULK AT MOST 1048576: true; the input reads as it did. -/
def imageBackUptoRow : OpenClaim := { program := "ytfdnicekdkchbaagreatdoor", sum := "5d78b8f31d4903dbf1a64738499dab812a07f01b014c6dc61d870b19ab078f4c", func := "joist/joistlaw19.ImageBack", spec := "imageBack", unfollowed := true, recurses := true, named := ["joist/class.cellWords", "joist/tags.mostWords", "unicode/utf8.first", "unicode/utf8.acceptRanges"], apart := false, laid := [("joist/class.cellWords", laid_joist_class_cellWords), ("unicode/utf8.acceptRanges", laid_unicode_utf8_acceptRanges), ("joist/tags.mostWords", laid_joist_tags_mostWords), ("unicode/utf8.first", laid_unicode_utf8_first)], narrowed := true }
def ImageBackUptoSaid : Prop := imageBackUptoRow.holds Tryz.pinned (OpenSpec.upto imageBackSpec)

/-- 'joistlaw19.ImageApart', WHERE WHAT IT READS IS OF BULK AT MOST 1048576: true; the input reads as it did. -/
def imageApartUptoRow : OpenClaim := { program := "ytfdnicekdkchbaagreatdoor", sum := "5d78b8f31d4903dbf1a64738499dab812a07f01b014c6dc61d870b19ab078f4c", func := "joist/joistlaw19.ImageApart", spec := "imageApart", unfollowed := true, recurses := true, named := ["joist/class.cellWords", "joist/tags.mostWords", "unicode/utf8.first", "unicode/utf8.acceptRanges"], apart := false, laid := [("joist/class.cellWords", laid_joist_class_cellWords), ("unicode/utf8.acceptRanges", laid_unicode_utf8_acceptRanges), ("joist/tags.mostWords", laid_joist_tags_mostWords), ("unicode/utf8.first", laid_unicode_utf8_first)], narrowed := true }
def ImageApartUptoSaid : Prop := imageApartUptoRow.holds Tryz.pinned (OpenSpec.upto imageApartSpec)

/-- 'joistlaw19.ImageLines', WHERE WHAT IT READS IS OF BULK AT MOST 1048576: true; the input reads as it did. -/
def imageLinesUptoRow : OpenClaim := { program := "ytfdnicekdkchbaagreatdoor", sum := "5d78b8f31d4903dbf1a64738499dab812a07f01b014c6dc61d870b19ab078f4c", func := "joist/joistlaw19.ImageLines", spec := "imageLines", unfollowed := true, recurses := true, named := ["joist/class.cellWords", "joist/tags.mostWords", "unicode/utf8.first", "unicode/utf8.acceptRanges"], apart := false, laid := [("joist/class.cellWords", laid_joist_class_cellWords), ("unicode/utf8.acceptRanges", laid_unicode_utf8_acceptRanges), ("joist/tags.mostWords", laid_joist_tags_mostWords), ("unicode/utf8.first", laid_unicode_utf8_first)], narrowed := true }
def ImageLinesUptoSaid : Prop := imageLinesUptoRow.holds Tryz.pinned (OpenSpec.upto imageLinesSpec)

/-- 'joistlaw19.ImageTurns', WHERE WHAT IT READS IS OF BULK AT MOST 1048576: true; the input reads as it did. -/
def imageTurnsUptoRow : OpenClaim := { program := "ytfdnicekdkchbaagreatdoor", sum := "5d78b8f31d4903dbf1a64738499dab812a07f01b014c6dc61d870b19ab078f4c", func := "joist/joistlaw19.ImageTurns", spec := "imageTurns", unfollowed := true, recurses := true, named := ["joist/class.cellWords", "joist/tags.mostWords", "unicode/utf8.first", "unicode/utf8.acceptRanges"], apart := false, laid := [("joist/class.cellWords", laid_joist_class_cellWords), ("unicode/utf8.acceptRanges", laid_unicode_utf8_acceptRanges), ("joist/tags.mostWords", laid_joist_tags_mostWords), ("unicode/utf8.first", laid_unicode_utf8_first)], narrowed := true }
def ImageTurnsUptoSaid : Prop := imageTurnsUptoRow.holds Tryz.pinned (OpenSpec.upto imageTurnsSpec)

end Rows
end Go.Proofs.YtfdnicekdkchbaaGreatDoor
