/-
  No cell of these rows narrows 'for every input' (looked for: loops, veiled, ifaces, maps, wideKeys, modest, calm, conditions, laid).
  DERIVED. THE GIVEN ROWS OF THIS SEAT. 4 by the template 'for every input the law returns true; each argument reads behind the call as it read before'; 0 by the template 'total and deterministic' (their statements: YtaidihilhblhgaaTotals.lean).
  GIVEN WITH THE SEED: the statements are not yours to turn. If you find one false, say at which input.
  Laid BY PROGRAM, IN A SANDBOX (cutbox-rows.mjs): the forced cells as the released guide's own fill.sh prints them over the translation c2494cdbf3e5472e… (all of the seat's roots in one cut). By AI agents, Wed Nov 11 2026. No macro, syntax, notation, axiom, sorry.
-/
import Derived.Test.YtaidihilhblhgaaChecked
import GoSem.Claim
import GoSem.ClaimJoined
import GoSem.ClaimMapViews
import Derived.JoinedTies
import Derived.KernelRfl
namespace Go.Proofs.Ytaidihilhblhgaa
/- THE CELL 'sum', in the pinned program and in every row, IS THE sha256 OF THE DUMP (.gsa) THAT YtaidihilhblhgaaProg.lean LOADS. Nothing in Lean hashes anything: it is a label: what it is worth is what the hold of that sum in a sandbox is worth. -/
noncomputable def Try.pinned : Pinned := { name := "ytaidihilhblhgaa", sum := "c2494cdbf3e5472e542ad12b1885e55745a64127c6f5345f300ff5c28ea63dac", checked := Try.checked }
namespace Rows
def none {H : Type} : Left H := { results := [], args := [] }

/-- 'clevislaw14.WindowOuts': WHATEVER THE INPUT: true; the input reads as it did. -/
def windowOutsSpec : ChangeSpec := { name := "windowOuts", fn := fun _ => fun
  | [d] => { results := [.lit (.bool true)], args := [d] }
  | _ => none }
def windowOutsRow : OpenClaim := { program := "ytaidihilhblhgaa", sum := "c2494cdbf3e5472e542ad12b1885e55745a64127c6f5345f300ff5c28ea63dac", func := "clevis/clevislaw14.WindowOuts", spec := "windowOuts", inPlace := ["slices.overlaps[clevis/table.Row[int, string]]"], unfollowed := true, recurses := true, apart := false }
def WindowOutsSaid : Prop := windowOutsRow.holds Try.pinned (OpenSpec.ofChange windowOutsSpec)

/-- ITS FALSE NEIGHBOUR: 'it returns false'. Refute it at one input. -/
def windowOutsWrong : ChangeSpec := { name := "windowOuts", fn := fun _ => fun
  | [d] => { results := [.lit (.bool false)], args := [d] }
  | _ => none }
def WindowOutsWrongFalsely : Prop := windowOutsRow.holds Try.pinned (OpenSpec.ofChange windowOutsWrong)

/-- 'clevislaw14.WindowIns': WHATEVER THE INPUT: true; the input reads as it did. -/
def windowInsSpec : ChangeSpec := { name := "windowIns", fn := fun _ => fun
  | [d] => { results := [.lit (.bool true)], args := [d] }
  | _ => none }
def windowInsRow : OpenClaim := { program := "ytaidihilhblhgaa", sum := "c2494cdbf3e5472e542ad12b1885e55745a64127c6f5345f300ff5c28ea63dac", func := "clevis/clevislaw14.WindowIns", spec := "windowIns", inPlace := ["slices.overlaps[clevis/table.Row[int, int]]", "slices.overlaps[clevis/table.Row[int, string]]"], unfollowed := true, recurses := true, apart := false }
def WindowInsSaid : Prop := windowInsRow.holds Try.pinned (OpenSpec.ofChange windowInsSpec)

/-- ITS FALSE NEIGHBOUR: 'it returns false'. Refute it at one input. -/
def windowInsWrong : ChangeSpec := { name := "windowIns", fn := fun _ => fun
  | [d] => { results := [.lit (.bool false)], args := [d] }
  | _ => none }
def WindowInsWrongFalsely : Prop := windowInsRow.holds Try.pinned (OpenSpec.ofChange windowInsWrong)

/-- 'clevislaw14.WindowOrder': WHATEVER THE INPUT: true; the input reads as it did. -/
def windowOrderSpec : ChangeSpec := { name := "windowOrder", fn := fun _ => fun
  | [d1, d2] => { results := [.lit (.bool true)], args := [d1, d2] }
  | _ => none }
def windowOrderRow : OpenClaim := { program := "ytaidihilhblhgaa", sum := "c2494cdbf3e5472e542ad12b1885e55745a64127c6f5345f300ff5c28ea63dac", func := "clevis/clevislaw14.WindowOrder", spec := "windowOrder", inPlace := ["slices.overlaps[clevis/table.Row[int, int]]", "slices.overlaps[clevis/table.Row[int, string]]"], unfollowed := true, recurses := true, apart := false }
def WindowOrderSaid : Prop := windowOrderRow.holds Try.pinned (OpenSpec.ofChange windowOrderSpec)

/-- ITS FALSE NEIGHBOUR: 'it returns false'. Refute it at one input. -/
def windowOrderWrong : ChangeSpec := { name := "windowOrder", fn := fun _ => fun
  | [d1, d2] => { results := [.lit (.bool false)], args := [d1, d2] }
  | _ => none }
def WindowOrderWrongFalsely : Prop := windowOrderRow.holds Try.pinned (OpenSpec.ofChange windowOrderWrong)

/-- 'clevislaw14.WindowNil': WHATEVER THE INPUT: true; the input reads as it did. -/
def windowNilSpec : ChangeSpec := { name := "windowNil", fn := fun _ => fun
  | [d] => { results := [.lit (.bool true)], args := [d] }
  | _ => none }
def windowNilRow : OpenClaim := { program := "ytaidihilhblhgaa", sum := "c2494cdbf3e5472e542ad12b1885e55745a64127c6f5345f300ff5c28ea63dac", func := "clevis/clevislaw14.WindowNil", spec := "windowNil", inPlace := ["slices.overlaps[clevis/table.Row[int, string]]", "slices.overlaps[clevis/table.Row[int, int]]"], unfollowed := true, recurses := true, apart := false }
def WindowNilSaid : Prop := windowNilRow.holds Try.pinned (OpenSpec.ofChange windowNilSpec)

/-- ITS FALSE NEIGHBOUR: 'it returns false'. Refute it at one input. -/
def windowNilWrong : ChangeSpec := { name := "windowNil", fn := fun _ => fun
  | [d] => { results := [.lit (.bool false)], args := [d] }
  | _ => none }
def WindowNilWrongFalsely : Prop := windowNilRow.holds Try.pinned (OpenSpec.ofChange windowNilWrong)

/- THE SECOND FORM. 'bulk': how many values and letters a reading holds, each counted each time it is reached (what is shared counts as often as it is met; a slice's spare places count too). A statement '..UptoSaid' is the law's where the arguments, and the package variables that the reading takes, are together of bulk at most 1048576: NARROWER than '..Said'. Prove '..Said' where nothing that the law and all that it calls make is longer than what came in: it says more and counts as full. Else prove '..UptoSaid'. A law counts once. -/
mutual
def uptoBulk {H : Type} : DataW H → Nat
  | .lit (.string bytes) => bytes.length + 1
  | .lit _ => 1
  | .nil => 1
  | .ptr d => uptoBulk d + 1
  | .slice elems spare => uptoBulkAll elems + uptoBulkAll spare + 1
  | .agg parts => uptoBulkAll parts + 1
  | .iface _ d => uptoBulk d + 1
  | .map entries => uptoBulkEntries entries + 1
  | .held _ => 1
def uptoBulkAll {H : Type} : List (DataW H) → Nat
  | [] => 0
  | d :: r => uptoBulk d + uptoBulkAll r
def uptoBulkEntries {H : Type} : List (Lit × DataW H) → Nat
  | [] => 0
  | x :: r => uptoBulkEntry x + uptoBulkEntries r
def uptoBulkEntry {H : Type} : Lit × DataW H → Nat
  | (.string bytes, d) => bytes.length + uptoBulk d + 1
  | (_, d) => uptoBulk d + 1
 end
def uptoSmall : (H : Type) → List (DataW H) → Bool := fun _ ds => decide (uptoBulkAll ds ≤ 1048576)
def OpenSpec.upto (s : _root_.Go.ChangeSpec) : _root_.Go.OpenSpec := { _root_.Go.OpenSpec.ofChange s with cond := some uptoSmall }

/-- 'clevislaw14.WindowOuts', WHERE WHAT IT READS IS OF BULK AT MOST 1048576: true; the input reads as it did. -/
def windowOutsUptoRow : OpenClaim := { program := "ytaidihilhblhgaa", sum := "c2494cdbf3e5472e542ad12b1885e55745a64127c6f5345f300ff5c28ea63dac", func := "clevis/clevislaw14.WindowOuts", spec := "windowOuts", inPlace := ["slices.overlaps[clevis/table.Row[int, string]]"], unfollowed := true, recurses := true, apart := false, narrowed := true }
def WindowOutsUptoSaid : Prop := windowOutsUptoRow.holds Try.pinned (OpenSpec.upto windowOutsSpec)

/-- 'clevislaw14.WindowIns', WHERE WHAT IT READS IS OF BULK AT MOST 1048576: true; the input reads as it did. -/
def windowInsUptoRow : OpenClaim := { program := "ytaidihilhblhgaa", sum := "c2494cdbf3e5472e542ad12b1885e55745a64127c6f5345f300ff5c28ea63dac", func := "clevis/clevislaw14.WindowIns", spec := "windowIns", inPlace := ["slices.overlaps[clevis/table.Row[int, int]]", "slices.overlaps[clevis/table.Row[int, string]]"], unfollowed := true, recurses := true, apart := false, narrowed := true }
def WindowInsUptoSaid : Prop := windowInsUptoRow.holds Try.pinned (OpenSpec.upto windowInsSpec)

/-- 'clevislaw14.WindowOrder', WHERE WHAT IT READS IS OF BULK AT MOST 1048576: true; the input reads as it did. -/
def windowOrderUptoRow : OpenClaim := { program := "ytaidihilhblhgaa", sum := "c2494cdbf3e5472e542ad12b1885e55745a64127c6f5345f300ff5c28ea63dac", func := "clevis/clevislaw14.WindowOrder", spec := "windowOrder", inPlace := ["slices.overlaps[clevis/table.Row[int, int]]", "slices.overlaps[clevis/table.Row[int, string]]"], unfollowed := true, recurses := true, apart := false, narrowed := true }
def WindowOrderUptoSaid : Prop := windowOrderUptoRow.holds Try.pinned (OpenSpec.upto windowOrderSpec)

/-- 'clevislaw14.WindowNil', WHERE WHAT IT READS IS OF BULK AT MOST 1048576: true; the input reads as it did. -/
def windowNilUptoRow : OpenClaim := { program := "ytaidihilhblhgaa", sum := "c2494cdbf3e5472e542ad12b1885e55745a64127c6f5345f300ff5c28ea63dac", func := "clevis/clevislaw14.WindowNil", spec := "windowNil", inPlace := ["slices.overlaps[clevis/table.Row[int, string]]", "slices.overlaps[clevis/table.Row[int, int]]"], unfollowed := true, recurses := true, apart := false, narrowed := true }
def WindowNilUptoSaid : Prop := windowNilUptoRow.holds Try.pinned (OpenSpec.upto windowNilSpec)

end Rows
end Go.Proofs.Ytaidihilhblhgaa
