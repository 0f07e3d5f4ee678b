/-
  No cell of these rows narrows 'for every input' (looked for: loops, veiled, ifaces, maps, wideKeys, modest, calm, conditions, laid).
  DERIVED. THE GIVEN ROWS OF THIS SEAT. 5 by the template 'for every input the law returns true; each argument reads behind the call as it read before'; 0 by the template 'total and deterministic' (their statements: YtcidbmkmnlneiaaTotals.lean).
  GIVEN WITH THE SEED: the statements are not yours to turn. If you find one false, say at which input.
  Laid BY PROGRAM, IN A SANDBOX (cutbox-rows.mjs): the forced cells as the released guide's own fill.sh prints them over the translation e4d3a91319f8c209… (all of the seat's roots in one cut). By AI agents, Wed Nov 11 2026. No macro, syntax, notation, axiom, sorry.
-/
import Derived.Test.YtcidbmkmnlneiaaChecked
import GoSem.Claim
import GoSem.ClaimJoined
import GoSem.ClaimMapViews
import Derived.JoinedTies
import Derived.KernelRfl
namespace Go.Proofs.Ytcidbmkmnlneiaa
/- THE CELL 'sum', in the pinned program and in every row, IS THE sha256 OF THE DUMP (.gsa) THAT YtcidbmkmnlneiaaProg.lean LOADS. Nothing in Lean hashes anything: it is a label: what it is worth is what the hold of that sum in a sandbox is worth. -/
noncomputable def Try.pinned : Pinned := { name := "ytcidbmkmnlneiaa", sum := "e4d3a91319f8c209d1876c0269f33b7dde70eedc6436b0d84985fea9d7e1b31a", checked := Try.checked }
namespace Rows
def none {H : Type} : Left H := { results := [], args := [] }

/-- 'clevislaw02.IdentIsins': WHATEVER THE INPUT: true; the input reads as it did. -/
def identIsinsSpec : ChangeSpec := { name := "identIsins", fn := fun _ => fun
  | [d] => { results := [.lit (.bool true)], args := [d] }
  | _ => none }
def identIsinsRow : OpenClaim := { program := "ytcidbmkmnlneiaa", sum := "e4d3a91319f8c209d1876c0269f33b7dde70eedc6436b0d84985fea9d7e1b31a", func := "clevis/clevislaw02.IdentIsins", spec := "identIsins", unfollowed := true, recurses := true, apart := false }
def IdentIsinsSaid : Prop := identIsinsRow.holds Try.pinned (OpenSpec.ofChange identIsinsSpec)

/-- ITS FALSE NEIGHBOUR: 'it returns false'. Refute it at one input. -/
def identIsinsWrong : ChangeSpec := { name := "identIsins", fn := fun _ => fun
  | [d] => { results := [.lit (.bool false)], args := [d] }
  | _ => none }
def IdentIsinsWrongFalsely : Prop := identIsinsRow.holds Try.pinned (OpenSpec.ofChange identIsinsWrong)

/-- 'clevislaw02.IdentTurned': WHATEVER THE INPUT: true; the input reads as it did. -/
def identTurnedSpec : ChangeSpec := { name := "identTurned", fn := fun _ => fun
  | [d1, d2, d3] => { results := [.lit (.bool true)], args := [d1, d2, d3] }
  | _ => none }
def identTurnedRow : OpenClaim := { program := "ytcidbmkmnlneiaa", sum := "e4d3a91319f8c209d1876c0269f33b7dde70eedc6436b0d84985fea9d7e1b31a", func := "clevis/clevislaw02.IdentTurned", spec := "identTurned", unfollowed := true, recurses := true, apart := false }
def IdentTurnedSaid : Prop := identTurnedRow.holds Try.pinned (OpenSpec.ofChange identTurnedSpec)

/-- ITS FALSE NEIGHBOUR: 'it returns false'. Refute it at one input. -/
def identTurnedWrong : ChangeSpec := { name := "identTurned", fn := fun _ => fun
  | [d1, d2, d3] => { results := [.lit (.bool false)], args := [d1, d2, d3] }
  | _ => none }
def IdentTurnedWrongFalsely : Prop := identTurnedRow.holds Try.pinned (OpenSpec.ofChange identTurnedWrong)

/-- 'clevislaw02.IdentNames': WHATEVER THE INPUT: true; the input reads as it did. -/
def identNamesSpec : ChangeSpec := { name := "identNames", fn := fun _ => fun
  | [d1, d2] => { results := [.lit (.bool true)], args := [d1, d2] }
  | _ => none }
def identNamesRow : OpenClaim := { program := "ytcidbmkmnlneiaa", sum := "e4d3a91319f8c209d1876c0269f33b7dde70eedc6436b0d84985fea9d7e1b31a", func := "clevis/clevislaw02.IdentNames", spec := "identNames", unfollowed := true, recurses := true, apart := false }
def IdentNamesSaid : Prop := identNamesRow.holds Try.pinned (OpenSpec.ofChange identNamesSpec)

/-- ITS FALSE NEIGHBOUR: 'it returns false'. Refute it at one input. -/
def identNamesWrong : ChangeSpec := { name := "identNames", fn := fun _ => fun
  | [d1, d2] => { results := [.lit (.bool false)], args := [d1, d2] }
  | _ => none }
def IdentNamesWrongFalsely : Prop := identNamesRow.holds Try.pinned (OpenSpec.ofChange identNamesWrong)

/-- 'clevislaw02.IdentMembers': WHATEVER THE INPUT: true; the input reads as it did. -/
def identMembersSpec : ChangeSpec := { name := "identMembers", fn := fun _ => fun
  | [d] => { results := [.lit (.bool true)], args := [d] }
  | _ => none }
def identMembersRow : OpenClaim := { program := "ytcidbmkmnlneiaa", sum := "e4d3a91319f8c209d1876c0269f33b7dde70eedc6436b0d84985fea9d7e1b31a", func := "clevis/clevislaw02.IdentMembers", spec := "identMembers", unfollowed := true, recurses := true, apart := false }
def IdentMembersSaid : Prop := identMembersRow.holds Try.pinned (OpenSpec.ofChange identMembersSpec)

/-- ITS FALSE NEIGHBOUR: 'it returns false'. Refute it at one input. -/
def identMembersWrong : ChangeSpec := { name := "identMembers", fn := fun _ => fun
  | [d] => { results := [.lit (.bool false)], args := [d] }
  | _ => none }
def IdentMembersWrongFalsely : Prop := identMembersRow.holds Try.pinned (OpenSpec.ofChange identMembersWrong)

/-- 'clevislaw02.IdentWords': WHATEVER THE INPUT: true; the input reads as it did. -/
def identWordsSpec : ChangeSpec := { name := "identWords", fn := fun _ => fun
  | [d] => { results := [.lit (.bool true)], args := [d] }
  | _ => none }
def identWordsRow : OpenClaim := { program := "ytcidbmkmnlneiaa", sum := "e4d3a91319f8c209d1876c0269f33b7dde70eedc6436b0d84985fea9d7e1b31a", func := "clevis/clevislaw02.IdentWords", spec := "identWords", unfollowed := true, recurses := true, apart := false }
def IdentWordsSaid : Prop := identWordsRow.holds Try.pinned (OpenSpec.ofChange identWordsSpec)

/-- ITS FALSE NEIGHBOUR: 'it returns false'. Refute it at one input. -/
def identWordsWrong : ChangeSpec := { name := "identWords", fn := fun _ => fun
  | [d] => { results := [.lit (.bool false)], args := [d] }
  | _ => none }
def IdentWordsWrongFalsely : Prop := identWordsRow.holds Try.pinned (OpenSpec.ofChange identWordsWrong)

/- THE SECOND FORM. 'bulk': how many values and letters a reading holds, each counted each time it is reached (what is shared counts as often as it is met; a slice's spare places count too). A statement '..UptoSaid' is the law's where the arguments, and the package variables that the reading takes, are together of bulk at most 1048576: NARROWER than '..Said'. Prove '..Said' where nothing that the law and all that it calls make is longer than what came in: it says more and counts as full. Else prove '..UptoSaid'. A law counts once. -/
mutual
def uptoBulk {H : Type} : DataW H → Nat
  | .lit (.string bytes) => bytes.length + 1
  | .lit _ => 1
  | .nil => 1
  | .ptr d => uptoBulk d + 1
  | .slice elems spare => uptoBulkAll elems + uptoBulkAll spare + 1
  | .agg parts => uptoBulkAll parts + 1
  | .iface _ d => uptoBulk d + 1
  | .map entries => uptoBulkEntries entries + 1
  | .held _ => 1
def uptoBulkAll {H : Type} : List (DataW H) → Nat
  | [] => 0
  | d :: r => uptoBulk d + uptoBulkAll r
def uptoBulkEntries {H : Type} : List (Lit × DataW H) → Nat
  | [] => 0
  | x :: r => uptoBulkEntry x + uptoBulkEntries r
def uptoBulkEntry {H : Type} : Lit × DataW H → Nat
  | (.string bytes, d) => bytes.length + uptoBulk d + 1
  | (_, d) => uptoBulk d + 1
 end
def uptoSmall : (H : Type) → List (DataW H) → Bool := fun _ ds => decide (uptoBulkAll ds ≤ 1048576)
def OpenSpec.upto (s : _root_.Go.ChangeSpec) : _root_.Go.OpenSpec := { _root_.Go.OpenSpec.ofChange s with cond := some uptoSmall }

/-- 'clevislaw02.IdentIsins', WHERE WHAT IT READS IS OF BULK AT MOST 1048576: true; the input reads as it did. -/
def identIsinsUptoRow : OpenClaim := { program := "ytcidbmkmnlneiaa", sum := "e4d3a91319f8c209d1876c0269f33b7dde70eedc6436b0d84985fea9d7e1b31a", func := "clevis/clevislaw02.IdentIsins", spec := "identIsins", unfollowed := true, recurses := true, apart := false, narrowed := true }
def IdentIsinsUptoSaid : Prop := identIsinsUptoRow.holds Try.pinned (OpenSpec.upto identIsinsSpec)

/-- 'clevislaw02.IdentTurned', WHERE WHAT IT READS IS OF BULK AT MOST 1048576: true; the input reads as it did. -/
def identTurnedUptoRow : OpenClaim := { program := "ytcidbmkmnlneiaa", sum := "e4d3a91319f8c209d1876c0269f33b7dde70eedc6436b0d84985fea9d7e1b31a", func := "clevis/clevislaw02.IdentTurned", spec := "identTurned", unfollowed := true, recurses := true, apart := false, narrowed := true }
def IdentTurnedUptoSaid : Prop := identTurnedUptoRow.holds Try.pinned (OpenSpec.upto identTurnedSpec)

/-- 'clevislaw02.IdentNames', WHERE WHAT IT READS IS OF BULK AT MOST 1048576: true; the input reads as it did. -/
def identNamesUptoRow : OpenClaim := { program := "ytcidbmkmnlneiaa", sum := "e4d3a91319f8c209d1876c0269f33b7dde70eedc6436b0d84985fea9d7e1b31a", func := "clevis/clevislaw02.IdentNames", spec := "identNames", unfollowed := true, recurses := true, apart := false, narrowed := true }
def IdentNamesUptoSaid : Prop := identNamesUptoRow.holds Try.pinned (OpenSpec.upto identNamesSpec)

/-- 'clevislaw02.IdentMembers', WHERE WHAT IT READS IS OF BULK AT MOST 1048576: true; the input reads as it did. -/
def identMembersUptoRow : OpenClaim := { program := "ytcidbmkmnlneiaa", sum := "e4d3a91319f8c209d1876c0269f33b7dde70eedc6436b0d84985fea9d7e1b31a", func := "clevis/clevislaw02.IdentMembers", spec := "identMembers", unfollowed := true, recurses := true, apart := false, narrowed := true }
def IdentMembersUptoSaid : Prop := identMembersUptoRow.holds Try.pinned (OpenSpec.upto identMembersSpec)

/-- 'clevislaw02.IdentWords', WHERE WHAT IT READS IS OF BULK AT MOST 1048576: true; the input reads as it did. -/
def identWordsUptoRow : OpenClaim := { program := "ytcidbmkmnlneiaa", sum := "e4d3a91319f8c209d1876c0269f33b7dde70eedc6436b0d84985fea9d7e1b31a", func := "clevis/clevislaw02.IdentWords", spec := "identWords", unfollowed := true, recurses := true, apart := false, narrowed := true }
def IdentWordsUptoSaid : Prop := identWordsUptoRow.holds Try.pinned (OpenSpec.upto identWordsSpec)

end Rows
end Go.Proofs.Ytcidbmkmnlneiaa
