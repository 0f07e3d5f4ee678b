/-
  The contract of cmp.Or over at most 1000 numbers. Conditions: the numbers lie in the slice's cells.
-/
import Derived.Test.YtkoihpfgleboiaaYBase
namespace Go.Proofs.Ytkoihpfgleboiaa.Td
open Go.RowKit

end Go.Proofs.Ytkoihpfgleboiaa.Td
