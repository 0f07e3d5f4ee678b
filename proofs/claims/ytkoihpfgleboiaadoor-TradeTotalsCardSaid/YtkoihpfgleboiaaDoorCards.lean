/-
  DERIVED. GIVEN WITH THE SEED: THE CARDS: each row of YtkoihpfgleboiaaDoorRows.lean that lists a variable, with what it lists TIED to the program's text (the seventh form; the later family's looks); each row that meets fmt, with fmt's text TOLD by the authors' own Lean function (tested against real Go, not proved from fmt's source: count such statements apart). THE CARD IS WHAT COUNTS. Prove the row's statement (the work); the ties are given (YtkoihpfgleboiaaDoorTie.lean); close each card by the builder's one call (the guide's Derived/Test/ToyasCard.lean, 'card_holds'). Laid BY PROGRAM, IN A SANDBOX (cutbox-door.mjs). By AI agents, Wed Nov 11 2026. No macro, syntax, notation, axiom, sorry.
-/
import Derived.Test.YtkoihpfgleboiaaDoorRows
import GoSem.ClaimSeven
namespace Go.Proofs.YtkoihpfgleboiaaDoor
namespace Rows

/-- THE TIED CARD OF 'clevislaw07.TradeTotals'. -/
def tradeTotalsCard : Claim7 := { stood := { row := tradeTotalsRow, standIns := [], harness := (true, "34ae5fd4a6d3ea4baeb8f92e94d81b33c7dafb15506f3527530ad1b9f04a65ca"), looks := false }, kinds := [], alts := [], laidByText := true, laidKinds := [.data, .pinned], laidTests := true, laidLooks := .later }
def TradeTotalsCardSaid : Prop := Claim7.holds Tryd.pinned (.plain (OpenSpec.ofChange tradeTotalsSpec)) tradeTotalsCard

/-- THE TIED CARD OF 'clevislaw07.TradeOrders'. -/
def tradeOrdersCard : Claim7 := { stood := { row := tradeOrdersRow, standIns := [], harness := (true, "34ae5fd4a6d3ea4baeb8f92e94d81b33c7dafb15506f3527530ad1b9f04a65ca"), looks := false }, kinds := [], alts := [], laidByText := true, laidKinds := [.data, .pinned], laidTests := true, laidLooks := .later }
def TradeOrdersCardSaid : Prop := Claim7.holds Tryd.pinned (.plain (OpenSpec.ofChange tradeOrdersSpec)) tradeOrdersCard

/-- THE SECOND FORM's CARD OF 'clevislaw07.TradeTotals'. -/
def tradeTotalsUptoCard : Claim7 := { stood := { row := tradeTotalsUptoRow, standIns := [], harness := (true, "34ae5fd4a6d3ea4baeb8f92e94d81b33c7dafb15506f3527530ad1b9f04a65ca"), looks := false }, kinds := [], alts := [], laidByText := true, laidKinds := [.data, .pinned], laidTests := true, laidLooks := .later }
def TradeTotalsUptoCardSaid : Prop := Claim7.holds Tryd.pinned (.plain (OpenSpec.upto tradeTotalsSpec)) tradeTotalsUptoCard

/-- THE SECOND FORM's CARD OF 'clevislaw07.TradeOrders'. -/
def tradeOrdersUptoCard : Claim7 := { stood := { row := tradeOrdersUptoRow, standIns := [], harness := (true, "34ae5fd4a6d3ea4baeb8f92e94d81b33c7dafb15506f3527530ad1b9f04a65ca"), looks := false }, kinds := [], alts := [], laidByText := true, laidKinds := [.data, .pinned], laidTests := true, laidLooks := .later }
def TradeOrdersUptoCardSaid : Prop := Claim7.holds Tryd.pinned (.plain (OpenSpec.upto tradeOrdersSpec)) tradeOrdersUptoCard
end Rows
end Go.Proofs.YtkoihpfgleboiaaDoor
