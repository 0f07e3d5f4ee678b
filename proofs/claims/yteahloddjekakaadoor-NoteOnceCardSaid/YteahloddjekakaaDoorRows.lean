/-
  NARROWER THAN 'FOR EVERY INPUT', by the rows' own cells (each row's printed sentence says how): NoteChecks: laid · NoteEncodes: laid · NoteSame: laid · NoteOnce: laid.
  DERIVED. THE GIVEN ROWS OF THIS SEAT. 4 by the template 'for every input the law returns true; each argument reads behind the call as it read before'; 0 by the template 'total and deterministic' (their statements: YteahloddjekakaaDoorTotals.lean).
  GIVEN WITH THE SEED: the statements are not yours to turn. If you find one false, say at which input.
  Laid BY PROGRAM, IN A SANDBOX (cutbox-rows.mjs): the forced cells as the released guide's own fill.sh prints them over the translation 5669753f8ac40893… (all of the seat's roots in one cut). By AI agents, Wed Nov 11 2026. No macro, syntax, notation, axiom, sorry.
-/
import Derived.Test.YteahloddjekakaaDoorChecked
import GoSem.Claim
import GoSem.ClaimJoined
import GoSem.ClaimMapViews
import Derived.JoinedTies
import Derived.KernelRfl
namespace Go.Proofs.YteahloddjekakaaDoor
/- THE CELL 'sum', in the pinned program and in every row, IS THE sha256 OF THE DUMP (.gsa) THAT YteahloddjekakaaDoorProg.lean LOADS. Nothing in Lean hashes anything: it is a label: what it is worth is what the hold of that sum in a sandbox is worth. -/
noncomputable def Tryd.pinned : Pinned := { name := "yteahloddjekakaadoor", sum := "5669753f8ac40893f06610254afb030bf760a0ccc4bdcdd5d4d033ed3720ab21", checked := Tryd.checked }
namespace Rows
def none {H : Type} : Left H := { results := [], args := [] }

/- WHAT THE LISTED PACKAGE-LEVEL VARIABLES READ AS WHEN THE CALL BEGINS. Each datum BY PROGRAM (the guide's laid-datum.mjs) off the statement by which the dump's own 'gosem.cut.vars' lays the variable. In a bare row this is a premise. The card (YteahloddjekakaaDoorCards.lean) ties it to the program's text. -/
def laid_clevis_note_kinds {H : Type} : DataW H := .agg [.agg [.lit (.string []), .agg [.lit (.bool false), .lit (.bool false), .lit (.bool false), .lit (.bool false), .lit (.bool false), .lit (.bool false), .lit (.bool false)]], .agg [.lit (.string [97, 99, 99, 101, 112, 116]), .agg [.lit (.bool false), .lit (.bool false), .lit (.bool true), .lit (.bool false), .lit (.bool false), .lit (.bool false), .lit (.bool false)]], .agg [.lit (.string [99, 117, 116]), .agg [.lit (.bool false), .lit (.bool false), .lit (.bool false), .lit (.bool false), .lit (.bool false), .lit (.bool false), .lit (.bool false)]], .agg [.lit (.string [112, 114, 105, 99, 101]), .agg [.lit (.bool false), .lit (.bool false), .lit (.bool false), .lit (.bool true), .lit (.bool true), .lit (.bool false), .lit (.bool false)]], .agg [.lit (.string [115, 101, 116, 116, 108, 101]), .agg [.lit (.bool false), .lit (.bool true), .lit (.bool false), .lit (.bool false), .lit (.bool false), .lit (.bool false), .lit (.bool false)]], .agg [.lit (.string [112, 111, 115, 116]), .agg [.lit (.bool false), .lit (.bool false), .lit (.bool false), .lit (.bool true), .lit (.bool true), .lit (.bool false), .lit (.bool false)]], .agg [.lit (.string [99, 97, 108, 108]), .agg [.lit (.bool false), .lit (.bool false), .lit (.bool false), .lit (.bool true), .lit (.bool true), .lit (.bool false), .lit (.bool false)]], .agg [.lit (.string [97, 110, 115, 119, 101, 114]), .agg [.lit (.bool false), .lit (.bool false), .lit (.bool false), .lit (.bool true), .lit (.bool false), .lit (.bool false), .lit (.bool false)]], .agg [.lit (.string [115, 116, 111, 112]), .agg [.lit (.bool true), .lit (.bool false), .lit (.bool false), .lit (.bool false), .lit (.bool false), .lit (.bool false), .lit (.bool false)]], .agg [.lit (.string [108, 101, 103]), .agg [.lit (.bool true), .lit (.bool true), .lit (.bool true), .lit (.bool false), .lit (.bool false), .lit (.bool false), .lit (.bool false)]], .agg [.lit (.string [109, 97, 114, 107]), .agg [.lit (.bool true), .lit (.bool true), .lit (.bool false), .lit (.bool false), .lit (.bool false), .lit (.bool true), .lit (.bool false)]], .agg [.lit (.string [114, 101, 112, 111, 114, 116]), .agg [.lit (.bool true), .lit (.bool true), .lit (.bool false), .lit (.bool false), .lit (.bool false), .lit (.bool true), .lit (.bool true)]], .agg [.lit (.string [104, 97, 108, 116]), .agg [.lit (.bool true), .lit (.bool false), .lit (.bool false), .lit (.bool false), .lit (.bool false), .lit (.bool false), .lit (.bool false)]]]

/-- 'clevislaw09.NoteChecks': WHATEVER THE INPUT: true; the input reads as it did. -/
def noteChecksSpec : ChangeSpec := { name := "noteChecks", fn := fun _ => fun
  | [d1, d2] => { results := [.lit (.bool true)], args := [d1, d2] }
  | _ => none }
def noteChecksRow : OpenClaim := { program := "yteahloddjekakaadoor", sum := "5669753f8ac40893f06610254afb030bf760a0ccc4bdcdd5d4d033ed3720ab21", func := "clevis/clevislaw09.NoteChecks", spec := "noteChecks", unfollowed := true, recurses := true, named := ["clevis/note.kinds"], apart := false, laid := [("clevis/note.kinds", laid_clevis_note_kinds)] }
def NoteChecksSaid : Prop := noteChecksRow.holds Tryd.pinned (OpenSpec.ofChange noteChecksSpec)

/-- ITS FALSE NEIGHBOUR: 'it returns false'. Refute it at one input. -/
def noteChecksWrong : ChangeSpec := { name := "noteChecks", fn := fun _ => fun
  | [d1, d2] => { results := [.lit (.bool false)], args := [d1, d2] }
  | _ => none }
def NoteChecksWrongFalsely : Prop := noteChecksRow.holds Tryd.pinned (OpenSpec.ofChange noteChecksWrong)

/-- 'clevislaw09.NoteEncodes': WHATEVER THE INPUT: true; the input reads as it did. -/
def noteEncodesSpec : ChangeSpec := { name := "noteEncodes", fn := fun _ => fun
  | [d] => { results := [.lit (.bool true)], args := [d] }
  | _ => none }
def noteEncodesRow : OpenClaim := { program := "yteahloddjekakaadoor", sum := "5669753f8ac40893f06610254afb030bf760a0ccc4bdcdd5d4d033ed3720ab21", func := "clevis/clevislaw09.NoteEncodes", spec := "noteEncodes", unfollowed := true, recurses := true, named := ["clevis/note.kinds"], apart := false, laid := [("clevis/note.kinds", laid_clevis_note_kinds)] }
def NoteEncodesSaid : Prop := noteEncodesRow.holds Tryd.pinned (OpenSpec.ofChange noteEncodesSpec)

/-- ITS FALSE NEIGHBOUR: 'it returns false'. Refute it at one input. -/
def noteEncodesWrong : ChangeSpec := { name := "noteEncodes", fn := fun _ => fun
  | [d] => { results := [.lit (.bool false)], args := [d] }
  | _ => none }
def NoteEncodesWrongFalsely : Prop := noteEncodesRow.holds Tryd.pinned (OpenSpec.ofChange noteEncodesWrong)

/-- 'clevislaw09.NoteSame': WHATEVER THE INPUT: true; the input reads as it did. -/
def noteSameSpec : ChangeSpec := { name := "noteSame", fn := fun _ => fun
  | [d1, d2] => { results := [.lit (.bool true)], args := [d1, d2] }
  | _ => none }
def noteSameRow : OpenClaim := { program := "yteahloddjekakaadoor", sum := "5669753f8ac40893f06610254afb030bf760a0ccc4bdcdd5d4d033ed3720ab21", func := "clevis/clevislaw09.NoteSame", spec := "noteSame", unfollowed := true, recurses := true, named := ["clevis/note.kinds"], apart := false, laid := [("clevis/note.kinds", laid_clevis_note_kinds)] }
def NoteSameSaid : Prop := noteSameRow.holds Tryd.pinned (OpenSpec.ofChange noteSameSpec)

/-- ITS FALSE NEIGHBOUR: 'it returns false'. Refute it at one input. -/
def noteSameWrong : ChangeSpec := { name := "noteSame", fn := fun _ => fun
  | [d1, d2] => { results := [.lit (.bool false)], args := [d1, d2] }
  | _ => none }
def NoteSameWrongFalsely : Prop := noteSameRow.holds Tryd.pinned (OpenSpec.ofChange noteSameWrong)

/-- 'clevislaw09.NoteOnce': WHATEVER THE INPUT: true; the input reads as it did. -/
def noteOnceSpec : ChangeSpec := { name := "noteOnce", fn := fun _ => fun
  | [d1, d2] => { results := [.lit (.bool true)], args := [d1, d2] }
  | _ => none }
def noteOnceRow : OpenClaim := { program := "yteahloddjekakaadoor", sum := "5669753f8ac40893f06610254afb030bf760a0ccc4bdcdd5d4d033ed3720ab21", func := "clevis/clevislaw09.NoteOnce", spec := "noteOnce", unfollowed := true, recurses := true, named := ["clevis/note.kinds"], apart := false, laid := [("clevis/note.kinds", laid_clevis_note_kinds)] }
def NoteOnceSaid : Prop := noteOnceRow.holds Tryd.pinned (OpenSpec.ofChange noteOnceSpec)

/-- ITS FALSE NEIGHBOUR: 'it returns false'. Refute it at one input. -/
def noteOnceWrong : ChangeSpec := { name := "noteOnce", fn := fun _ => fun
  | [d1, d2] => { results := [.lit (.bool false)], args := [d1, d2] }
  | _ => none }
def NoteOnceWrongFalsely : Prop := noteOnceRow.holds Tryd.pinned (OpenSpec.ofChange noteOnceWrong)

/- THE SECOND FORM. 'bulk': how many values and letters a reading holds, each counted each time it is reached (what is shared counts as often as it is met; a slice's spare places count too). A statement '..UptoSaid' is the law's where the arguments, and the package variables that the reading takes, are together of bulk at most 1048576: NARROWER than '..Said'. Prove '..Said' where nothing that the law and all that it calls make is longer than what came in: it says more and counts as full. Else prove '..UptoSaid'. A law counts once. -/
mutual
def uptoBulk {H : Type} : DataW H → Nat
  | .lit (.string bytes) => bytes.length + 1
  | .lit _ => 1
  | .nil => 1
  | .ptr d => uptoBulk d + 1
  | .slice elems spare => uptoBulkAll elems + uptoBulkAll spare + 1
  | .agg parts => uptoBulkAll parts + 1
  | .iface _ d => uptoBulk d + 1
  | .map entries => uptoBulkEntries entries + 1
  | .held _ => 1
def uptoBulkAll {H : Type} : List (DataW H) → Nat
  | [] => 0
  | d :: r => uptoBulk d + uptoBulkAll r
def uptoBulkEntries {H : Type} : List (Lit × DataW H) → Nat
  | [] => 0
  | x :: r => uptoBulkEntry x + uptoBulkEntries r
def uptoBulkEntry {H : Type} : Lit × DataW H → Nat
  | (.string bytes, d) => bytes.length + uptoBulk d + 1
  | (_, d) => uptoBulk d + 1
 end
def uptoSmall : (H : Type) → List (DataW H) → Bool := fun _ ds => decide (uptoBulkAll ds ≤ 1048576)
def OpenSpec.upto (s : _root_.Go.ChangeSpec) : _root_.Go.OpenSpec := { _root_.Go.OpenSpec.ofChange s with cond := some uptoSmall }

/-- 'clevislaw09.NoteChecks', WHERE WHAT IT READS IS OF BULK AT MOST 1048576: true; the input reads as it did. -/
def noteChecksUptoRow : OpenClaim := { program := "yteahloddjekakaadoor", sum := "5669753f8ac40893f06610254afb030bf760a0ccc4bdcdd5d4d033ed3720ab21", func := "clevis/clevislaw09.NoteChecks", spec := "noteChecks", unfollowed := true, recurses := true, named := ["clevis/note.kinds"], apart := false, laid := [("clevis/note.kinds", laid_clevis_note_kinds)], narrowed := true }
def NoteChecksUptoSaid : Prop := noteChecksUptoRow.holds Tryd.pinned (OpenSpec.upto noteChecksSpec)

/-- 'clevislaw09.NoteEncodes', WHERE WHAT IT READS IS OF BULK AT MOST 1048576: true; the input reads as it did. -/
def noteEncodesUptoRow : OpenClaim := { program := "yteahloddjekakaadoor", sum := "5669753f8ac40893f06610254afb030bf760a0ccc4bdcdd5d4d033ed3720ab21", func := "clevis/clevislaw09.NoteEncodes", spec := "noteEncodes", unfollowed := true, recurses := true, named := ["clevis/note.kinds"], apart := false, laid := [("clevis/note.kinds", laid_clevis_note_kinds)], narrowed := true }
def NoteEncodesUptoSaid : Prop := noteEncodesUptoRow.holds Tryd.pinned (OpenSpec.upto noteEncodesSpec)

/-- 'clevislaw09.NoteSame', WHERE WHAT IT READS IS OF BULK AT MOST 1048576: true; the input reads as it did. -/
def noteSameUptoRow : OpenClaim := { program := "yteahloddjekakaadoor", sum := "5669753f8ac40893f06610254afb030bf760a0ccc4bdcdd5d4d033ed3720ab21", func := "clevis/clevislaw09.NoteSame", spec := "noteSame", unfollowed := true, recurses := true, named := ["clevis/note.kinds"], apart := false, laid := [("clevis/note.kinds", laid_clevis_note_kinds)], narrowed := true }
def NoteSameUptoSaid : Prop := noteSameUptoRow.holds Tryd.pinned (OpenSpec.upto noteSameSpec)

/-- 'clevislaw09.NoteOnce', WHERE WHAT IT READS IS OF BULK AT MOST 1048576: true; the input reads as it did. -/
def noteOnceUptoRow : OpenClaim := { program := "yteahloddjekakaadoor", sum := "5669753f8ac40893f06610254afb030bf760a0ccc4bdcdd5d4d033ed3720ab21", func := "clevis/clevislaw09.NoteOnce", spec := "noteOnce", unfollowed := true, recurses := true, named := ["clevis/note.kinds"], apart := false, laid := [("clevis/note.kinds", laid_clevis_note_kinds)], narrowed := true }
def NoteOnceUptoSaid : Prop := noteOnceUptoRow.holds Tryd.pinned (OpenSpec.upto noteOnceSpec)

end Rows
end Go.Proofs.YteahloddjekakaaDoor
