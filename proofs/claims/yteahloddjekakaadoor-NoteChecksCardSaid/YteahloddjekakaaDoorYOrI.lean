/-
  The contract of cmp.Or over at most 1000 numbers. Conditions: the numbers lie in the slice's cells.
-/
import Derived.Test.YteahloddjekakaaDoorYBase
namespace Go.Proofs.YteahloddjekakaaDoor.Td
open Go.RowKit

end Go.Proofs.YteahloddjekakaaDoor.Td
