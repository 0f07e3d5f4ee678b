/-
  No cell of these rows narrows 'for every input' (looked for: loops, veiled, ifaces, maps, wideKeys, modest, calm, conditions, laid).
  DERIVED. THE GIVEN ROWS OF THIS SEAT. 11 by the template 'for every input the law returns true; each argument reads behind the call as it read before'; 0 by the template 'total and deterministic' (their statements: YtklngdmpledgeaaTotals.lean).
  GIVEN WITH THE SEED: the statements are not yours to turn. If you find one false, say at which input.
  Laid BY PROGRAM, IN A SANDBOX (cutbox-rows.mjs): the forced cells as the released guide's own fill.sh prints them over the translation 11d50a516ee029f4… (all of the seat's roots in one cut). By AI agents, Wed Nov 11 2026. No macro, syntax, notation, axiom, sorry.
-/
import Derived.Test.YtklngdmpledgeaaChecked
import GoSem.Claim
import GoSem.ClaimJoined
import GoSem.ClaimMapViews
import Derived.JoinedTies
import Derived.KernelRfl
namespace Go.Proofs.Ytklngdmpledgeaa
/- THE CELL 'sum', in the pinned program and in every row, IS THE sha256 OF THE DUMP (.gsa) THAT YtklngdmpledgeaaProg.lean LOADS. Nothing in Lean hashes anything: it is a label: what it is worth is what the hold of that sum in a sandbox is worth. -/
noncomputable def Try.pinned : Pinned := { name := "ytklngdmpledgeaa", sum := "11d50a516ee029f4ade9fe8a80d6611f336c19f4651c110f3642aea058066b2d", checked := Try.checked }
namespace Rows
def none {H : Type} : Left H := { results := [], args := [] }

/-- 'clevislaw10.StorePlays': WHATEVER THE INPUT: true; the input reads as it did. -/
def storePlaysSpec : ChangeSpec := { name := "storePlays", fn := fun _ => fun
  | [d1, d2] => { results := [.lit (.bool true)], args := [d1, d2] }
  | _ => none }
def storePlaysRow : OpenClaim := { program := "ytklngdmpledgeaa", sum := "11d50a516ee029f4ade9fe8a80d6611f336c19f4651c110f3642aea058066b2d", func := "clevis/clevislaw10.StorePlays", spec := "storePlays", unfollowed := true, recurses := true, apart := false }
def StorePlaysSaid : Prop := storePlaysRow.holds Try.pinned (OpenSpec.ofChange storePlaysSpec)

/-- ITS FALSE NEIGHBOUR: 'it returns false'. Refute it at one input. -/
def storePlaysWrong : ChangeSpec := { name := "storePlays", fn := fun _ => fun
  | [d1, d2] => { results := [.lit (.bool false)], args := [d1, d2] }
  | _ => none }
def StorePlaysWrongFalsely : Prop := storePlaysRow.holds Try.pinned (OpenSpec.ofChange storePlaysWrong)

/-- 'clevislaw10.StoreDies': WHATEVER THE INPUT: true; the input reads as it did. -/
def storeDiesSpec : ChangeSpec := { name := "storeDies", fn := fun _ => fun
  | [d1, d2, d3] => { results := [.lit (.bool true)], args := [d1, d2, d3] }
  | _ => none }
def storeDiesRow : OpenClaim := { program := "ytklngdmpledgeaa", sum := "11d50a516ee029f4ade9fe8a80d6611f336c19f4651c110f3642aea058066b2d", func := "clevis/clevislaw10.StoreDies", spec := "storeDies", apart := false }
def StoreDiesSaid : Prop := storeDiesRow.holds Try.pinned (OpenSpec.ofChange storeDiesSpec)

/-- ITS FALSE NEIGHBOUR: 'it returns false'. Refute it at one input. -/
def storeDiesWrong : ChangeSpec := { name := "storeDies", fn := fun _ => fun
  | [d1, d2, d3] => { results := [.lit (.bool false)], args := [d1, d2, d3] }
  | _ => none }
def StoreDiesWrongFalsely : Prop := storeDiesRow.holds Try.pinned (OpenSpec.ofChange storeDiesWrong)

/-- 'clevislaw10.StoreRooms': WHATEVER THE INPUT: true; the input reads as it did. -/
def storeRoomsSpec : ChangeSpec := { name := "storeRooms", fn := fun _ => fun
  | [d] => { results := [.lit (.bool true)], args := [d] }
  | _ => none }
def storeRoomsRow : OpenClaim := { program := "ytklngdmpledgeaa", sum := "11d50a516ee029f4ade9fe8a80d6611f336c19f4651c110f3642aea058066b2d", func := "clevis/clevislaw10.StoreRooms", spec := "storeRooms", apart := false }
def StoreRoomsSaid : Prop := storeRoomsRow.holds Try.pinned (OpenSpec.ofChange storeRoomsSpec)

/-- ITS FALSE NEIGHBOUR: 'it returns false'. Refute it at one input. -/
def storeRoomsWrong : ChangeSpec := { name := "storeRooms", fn := fun _ => fun
  | [d] => { results := [.lit (.bool false)], args := [d] }
  | _ => none }
def StoreRoomsWrongFalsely : Prop := storeRoomsRow.holds Try.pinned (OpenSpec.ofChange storeRoomsWrong)

/-- 'clevislaw10.StoreNil': WHATEVER THE INPUT: true; the input reads as it did. -/
def storeNilSpec : ChangeSpec := { name := "storeNil", fn := fun _ => fun
  | [d1, d2, d3] => { results := [.lit (.bool true)], args := [d1, d2, d3] }
  | _ => none }
def storeNilRow : OpenClaim := { program := "ytklngdmpledgeaa", sum := "11d50a516ee029f4ade9fe8a80d6611f336c19f4651c110f3642aea058066b2d", func := "clevis/clevislaw10.StoreNil", spec := "storeNil", unfollowed := true, recurses := true, apart := false }
def StoreNilSaid : Prop := storeNilRow.holds Try.pinned (OpenSpec.ofChange storeNilSpec)

/-- ITS FALSE NEIGHBOUR: 'it returns false'. Refute it at one input. -/
def storeNilWrong : ChangeSpec := { name := "storeNil", fn := fun _ => fun
  | [d1, d2, d3] => { results := [.lit (.bool false)], args := [d1, d2, d3] }
  | _ => none }
def StoreNilWrongFalsely : Prop := storeNilRow.holds Try.pinned (OpenSpec.ofChange storeNilWrong)

/-- 'clevislaw10.StoreCopies': WHATEVER THE INPUT: true; the input reads as it did. -/
def storeCopiesSpec : ChangeSpec := { name := "storeCopies", fn := fun _ => fun
  | [d1, d2] => { results := [.lit (.bool true)], args := [d1, d2] }
  | _ => none }
def storeCopiesRow : OpenClaim := { program := "ytklngdmpledgeaa", sum := "11d50a516ee029f4ade9fe8a80d6611f336c19f4651c110f3642aea058066b2d", func := "clevis/clevislaw10.StoreCopies", spec := "storeCopies", unfollowed := true, recurses := true, apart := false }
def StoreCopiesSaid : Prop := storeCopiesRow.holds Try.pinned (OpenSpec.ofChange storeCopiesSpec)

/-- ITS FALSE NEIGHBOUR: 'it returns false'. Refute it at one input. -/
def storeCopiesWrong : ChangeSpec := { name := "storeCopies", fn := fun _ => fun
  | [d1, d2] => { results := [.lit (.bool false)], args := [d1, d2] }
  | _ => none }
def StoreCopiesWrongFalsely : Prop := storeCopiesRow.holds Try.pinned (OpenSpec.ofChange storeCopiesWrong)

/-- 'clevislaw11.JournalEnds': WHATEVER THE INPUT: true; the input reads as it did. -/
def journalEndsSpec : ChangeSpec := { name := "journalEnds", fn := fun _ => fun
  | [d1, d2, d3, d4, d5] => { results := [.lit (.bool true)], args := [d1, d2, d3, d4, d5] }
  | _ => none }
def journalEndsRow : OpenClaim := { program := "ytklngdmpledgeaa", sum := "11d50a516ee029f4ade9fe8a80d6611f336c19f4651c110f3642aea058066b2d", func := "clevis/clevislaw11.JournalEnds", spec := "journalEnds", inPlace := ["slices.overlaps[clevis/table.Row[int, []byte]]"], unfollowed := true, recurses := true, apart := false }
def JournalEndsSaid : Prop := journalEndsRow.holds Try.pinned (OpenSpec.ofChange journalEndsSpec)

/-- ITS FALSE NEIGHBOUR: 'it returns false'. Refute it at one input. -/
def journalEndsWrong : ChangeSpec := { name := "journalEnds", fn := fun _ => fun
  | [d1, d2, d3, d4, d5] => { results := [.lit (.bool false)], args := [d1, d2, d3, d4, d5] }
  | _ => none }
def JournalEndsWrongFalsely : Prop := journalEndsRow.holds Try.pinned (OpenSpec.ofChange journalEndsWrong)

/-- 'clevislaw11.JournalNil': WHATEVER THE INPUT: true; the input reads as it did. -/
def journalNilSpec : ChangeSpec := { name := "journalNil", fn := fun _ => fun
  | [d1, d2] => { results := [.lit (.bool true)], args := [d1, d2] }
  | _ => none }
def journalNilRow : OpenClaim := { program := "ytklngdmpledgeaa", sum := "11d50a516ee029f4ade9fe8a80d6611f336c19f4651c110f3642aea058066b2d", func := "clevis/clevislaw11.JournalNil", spec := "journalNil", inPlace := ["slices.overlaps[clevis/table.Row[int, []byte]]"], unfollowed := true, recurses := true, apart := false }
def JournalNilSaid : Prop := journalNilRow.holds Try.pinned (OpenSpec.ofChange journalNilSpec)

/-- ITS FALSE NEIGHBOUR: 'it returns false'. Refute it at one input. -/
def journalNilWrong : ChangeSpec := { name := "journalNil", fn := fun _ => fun
  | [d1, d2] => { results := [.lit (.bool false)], args := [d1, d2] }
  | _ => none }
def JournalNilWrongFalsely : Prop := journalNilRow.holds Try.pinned (OpenSpec.ofChange journalNilWrong)

/-- 'clevislaw12.SnapBytes': WHATEVER THE INPUT: true; the input reads as it did. -/
def snapBytesSpec : ChangeSpec := { name := "snapBytes", fn := fun _ => fun
  | [d1, d2] => { results := [.lit (.bool true)], args := [d1, d2] }
  | _ => none }
def snapBytesRow : OpenClaim := { program := "ytklngdmpledgeaa", sum := "11d50a516ee029f4ade9fe8a80d6611f336c19f4651c110f3642aea058066b2d", func := "clevis/clevislaw12.SnapBytes", spec := "snapBytes", unfollowed := true, recurses := true, apart := false }
def SnapBytesSaid : Prop := snapBytesRow.holds Try.pinned (OpenSpec.ofChange snapBytesSpec)

/-- ITS FALSE NEIGHBOUR: 'it returns false'. Refute it at one input. -/
def snapBytesWrong : ChangeSpec := { name := "snapBytes", fn := fun _ => fun
  | [d1, d2] => { results := [.lit (.bool false)], args := [d1, d2] }
  | _ => none }
def SnapBytesWrongFalsely : Prop := snapBytesRow.holds Try.pinned (OpenSpec.ofChange snapBytesWrong)

/-- 'clevislaw12.SnapSaves': WHATEVER THE INPUT: true; the input reads as it did. -/
def snapSavesSpec : ChangeSpec := { name := "snapSaves", fn := fun _ => fun
  | [d1, d2, d3] => { results := [.lit (.bool true)], args := [d1, d2, d3] }
  | _ => none }
def snapSavesRow : OpenClaim := { program := "ytklngdmpledgeaa", sum := "11d50a516ee029f4ade9fe8a80d6611f336c19f4651c110f3642aea058066b2d", func := "clevis/clevislaw12.SnapSaves", spec := "snapSaves", unfollowed := true, recurses := true, apart := false }
def SnapSavesSaid : Prop := snapSavesRow.holds Try.pinned (OpenSpec.ofChange snapSavesSpec)

/-- ITS FALSE NEIGHBOUR: 'it returns false'. Refute it at one input. -/
def snapSavesWrong : ChangeSpec := { name := "snapSaves", fn := fun _ => fun
  | [d1, d2, d3] => { results := [.lit (.bool false)], args := [d1, d2, d3] }
  | _ => none }
def SnapSavesWrongFalsely : Prop := snapSavesRow.holds Try.pinned (OpenSpec.ofChange snapSavesWrong)

/-- 'clevislaw12.SnapEnds': WHATEVER THE INPUT: true; the input reads as it did. -/
def snapEndsSpec : ChangeSpec := { name := "snapEnds", fn := fun _ => fun
  | [d1, d2, d3] => { results := [.lit (.bool true)], args := [d1, d2, d3] }
  | _ => none }
def snapEndsRow : OpenClaim := { program := "ytklngdmpledgeaa", sum := "11d50a516ee029f4ade9fe8a80d6611f336c19f4651c110f3642aea058066b2d", func := "clevis/clevislaw12.SnapEnds", spec := "snapEnds", unfollowed := true, recurses := true, apart := false }
def SnapEndsSaid : Prop := snapEndsRow.holds Try.pinned (OpenSpec.ofChange snapEndsSpec)

/-- ITS FALSE NEIGHBOUR: 'it returns false'. Refute it at one input. -/
def snapEndsWrong : ChangeSpec := { name := "snapEnds", fn := fun _ => fun
  | [d1, d2, d3] => { results := [.lit (.bool false)], args := [d1, d2, d3] }
  | _ => none }
def SnapEndsWrongFalsely : Prop := snapEndsRow.holds Try.pinned (OpenSpec.ofChange snapEndsWrong)

/-- 'clevislaw12.SnapLong': WHATEVER THE INPUT: true; the input reads as it did. -/
def snapLongSpec : ChangeSpec := { name := "snapLong", fn := fun _ => fun
  | [d1, d2] => { results := [.lit (.bool true)], args := [d1, d2] }
  | _ => none }
def snapLongRow : OpenClaim := { program := "ytklngdmpledgeaa", sum := "11d50a516ee029f4ade9fe8a80d6611f336c19f4651c110f3642aea058066b2d", func := "clevis/clevislaw12.SnapLong", spec := "snapLong", unfollowed := true, recurses := true, apart := false }
def SnapLongSaid : Prop := snapLongRow.holds Try.pinned (OpenSpec.ofChange snapLongSpec)

/-- ITS FALSE NEIGHBOUR: 'it returns false'. Refute it at one input. -/
def snapLongWrong : ChangeSpec := { name := "snapLong", fn := fun _ => fun
  | [d1, d2] => { results := [.lit (.bool false)], args := [d1, d2] }
  | _ => none }
def SnapLongWrongFalsely : Prop := snapLongRow.holds Try.pinned (OpenSpec.ofChange snapLongWrong)

/- THE SECOND FORM. 'bulk': how many values and letters a reading holds, each counted each time it is reached (what is shared counts as often as it is met; a slice's spare places count too). A statement '..UptoSaid' is the law's where the arguments, and the package variables that the reading takes, are together of bulk at most 1048576: NARROWER than '..Said'. Prove '..Said' where nothing that the law and all that it calls make is longer than what came in: it says more and counts as full. Else prove '..UptoSaid'. A law counts once. -/
mutual
def uptoBulk {H : Type} : DataW H → Nat
  | .lit (.string bytes) => bytes.length + 1
  | .lit _ => 1
  | .nil => 1
  | .ptr d => uptoBulk d + 1
  | .slice elems spare => uptoBulkAll elems + uptoBulkAll spare + 1
  | .agg parts => uptoBulkAll parts + 1
  | .iface _ d => uptoBulk d + 1
  | .map entries => uptoBulkEntries entries + 1
  | .held _ => 1
def uptoBulkAll {H : Type} : List (DataW H) → Nat
  | [] => 0
  | d :: r => uptoBulk d + uptoBulkAll r
def uptoBulkEntries {H : Type} : List (Lit × DataW H) → Nat
  | [] => 0
  | x :: r => uptoBulkEntry x + uptoBulkEntries r
def uptoBulkEntry {H : Type} : Lit × DataW H → Nat
  | (.string bytes, d) => bytes.length + uptoBulk d + 1
  | (_, d) => uptoBulk d + 1
 end
def uptoSmall : (H : Type) → List (DataW H) → Bool := fun _ ds => decide (uptoBulkAll ds ≤ 1048576)
def OpenSpec.upto (s : _root_.Go.ChangeSpec) : _root_.Go.OpenSpec := { _root_.Go.OpenSpec.ofChange s with cond := some uptoSmall }

/-- 'clevislaw10.StorePlays', WHERE WHAT IT READS IS OF BULK AT MOST 1048576: true; the input reads as it did. -/
def storePlaysUptoRow : OpenClaim := { program := "ytklngdmpledgeaa", sum := "11d50a516ee029f4ade9fe8a80d6611f336c19f4651c110f3642aea058066b2d", func := "clevis/clevislaw10.StorePlays", spec := "storePlays", unfollowed := true, recurses := true, apart := false, narrowed := true }
def StorePlaysUptoSaid : Prop := storePlaysUptoRow.holds Try.pinned (OpenSpec.upto storePlaysSpec)

/-- 'clevislaw10.StoreDies', WHERE WHAT IT READS IS OF BULK AT MOST 1048576: true; the input reads as it did. -/
def storeDiesUptoRow : OpenClaim := { program := "ytklngdmpledgeaa", sum := "11d50a516ee029f4ade9fe8a80d6611f336c19f4651c110f3642aea058066b2d", func := "clevis/clevislaw10.StoreDies", spec := "storeDies", apart := false, narrowed := true }
def StoreDiesUptoSaid : Prop := storeDiesUptoRow.holds Try.pinned (OpenSpec.upto storeDiesSpec)

/-- 'clevislaw10.StoreRooms', WHERE WHAT IT READS IS OF BULK AT MOST 1048576: true; the input reads as it did. -/
def storeRoomsUptoRow : OpenClaim := { program := "ytklngdmpledgeaa", sum := "11d50a516ee029f4ade9fe8a80d6611f336c19f4651c110f3642aea058066b2d", func := "clevis/clevislaw10.StoreRooms", spec := "storeRooms", apart := false, narrowed := true }
def StoreRoomsUptoSaid : Prop := storeRoomsUptoRow.holds Try.pinned (OpenSpec.upto storeRoomsSpec)

/-- 'clevislaw10.StoreNil', WHERE WHAT IT READS IS OF BULK AT MOST 1048576: true; the input reads as it did. -/
def storeNilUptoRow : OpenClaim := { program := "ytklngdmpledgeaa", sum := "11d50a516ee029f4ade9fe8a80d6611f336c19f4651c110f3642aea058066b2d", func := "clevis/clevislaw10.StoreNil", spec := "storeNil", unfollowed := true, recurses := true, apart := false, narrowed := true }
def StoreNilUptoSaid : Prop := storeNilUptoRow.holds Try.pinned (OpenSpec.upto storeNilSpec)

/-- 'clevislaw10.StoreCopies', WHERE WHAT IT READS IS OF BULK AT MOST 1048576: true; the input reads as it did. -/
def storeCopiesUptoRow : OpenClaim := { program := "ytklngdmpledgeaa", sum := "11d50a516ee029f4ade9fe8a80d6611f336c19f4651c110f3642aea058066b2d", func := "clevis/clevislaw10.StoreCopies", spec := "storeCopies", unfollowed := true, recurses := true, apart := false, narrowed := true }
def StoreCopiesUptoSaid : Prop := storeCopiesUptoRow.holds Try.pinned (OpenSpec.upto storeCopiesSpec)

/-- 'clevislaw11.JournalEnds', WHERE WHAT IT READS IS OF BULK AT MOST 1048576: true; the input reads as it did. -/
def journalEndsUptoRow : OpenClaim := { program := "ytklngdmpledgeaa", sum := "11d50a516ee029f4ade9fe8a80d6611f336c19f4651c110f3642aea058066b2d", func := "clevis/clevislaw11.JournalEnds", spec := "journalEnds", inPlace := ["slices.overlaps[clevis/table.Row[int, []byte]]"], unfollowed := true, recurses := true, apart := false, narrowed := true }
def JournalEndsUptoSaid : Prop := journalEndsUptoRow.holds Try.pinned (OpenSpec.upto journalEndsSpec)

/-- 'clevislaw11.JournalNil', WHERE WHAT IT READS IS OF BULK AT MOST 1048576: true; the input reads as it did. -/
def journalNilUptoRow : OpenClaim := { program := "ytklngdmpledgeaa", sum := "11d50a516ee029f4ade9fe8a80d6611f336c19f4651c110f3642aea058066b2d", func := "clevis/clevislaw11.JournalNil", spec := "journalNil", inPlace := ["slices.overlaps[clevis/table.Row[int, []byte]]"], unfollowed := true, recurses := true, apart := false, narrowed := true }
def JournalNilUptoSaid : Prop := journalNilUptoRow.holds Try.pinned (OpenSpec.upto journalNilSpec)

/-- 'clevislaw12.SnapBytes', WHERE WHAT IT READS IS OF BULK AT MOST 1048576: true; the input reads as it did. -/
def snapBytesUptoRow : OpenClaim := { program := "ytklngdmpledgeaa", sum := "11d50a516ee029f4ade9fe8a80d6611f336c19f4651c110f3642aea058066b2d", func := "clevis/clevislaw12.SnapBytes", spec := "snapBytes", unfollowed := true, recurses := true, apart := false, narrowed := true }
def SnapBytesUptoSaid : Prop := snapBytesUptoRow.holds Try.pinned (OpenSpec.upto snapBytesSpec)

/-- 'clevislaw12.SnapSaves', WHERE WHAT IT READS IS OF BULK AT MOST 1048576: true; the input reads as it did. -/
def snapSavesUptoRow : OpenClaim := { program := "ytklngdmpledgeaa", sum := "11d50a516ee029f4ade9fe8a80d6611f336c19f4651c110f3642aea058066b2d", func := "clevis/clevislaw12.SnapSaves", spec := "snapSaves", unfollowed := true, recurses := true, apart := false, narrowed := true }
def SnapSavesUptoSaid : Prop := snapSavesUptoRow.holds Try.pinned (OpenSpec.upto snapSavesSpec)

/-- 'clevislaw12.SnapEnds', WHERE WHAT IT READS IS OF BULK AT MOST 1048576: true; the input reads as it did. -/
def snapEndsUptoRow : OpenClaim := { program := "ytklngdmpledgeaa", sum := "11d50a516ee029f4ade9fe8a80d6611f336c19f4651c110f3642aea058066b2d", func := "clevis/clevislaw12.SnapEnds", spec := "snapEnds", unfollowed := true, recurses := true, apart := false, narrowed := true }
def SnapEndsUptoSaid : Prop := snapEndsUptoRow.holds Try.pinned (OpenSpec.upto snapEndsSpec)

/-- 'clevislaw12.SnapLong', WHERE WHAT IT READS IS OF BULK AT MOST 1048576: true; the input reads as it did. -/
def snapLongUptoRow : OpenClaim := { program := "ytklngdmpledgeaa", sum := "11d50a516ee029f4ade9fe8a80d6611f336c19f4651c110f3642aea058066b2d", func := "clevis/clevislaw12.SnapLong", spec := "snapLong", unfollowed := true, recurses := true, apart := false, narrowed := true }
def SnapLongUptoSaid : Prop := snapLongUptoRow.holds Try.pinned (OpenSpec.upto snapLongSpec)

end Rows
end Go.Proofs.Ytklngdmpledgeaa
