/-
  A region that draws its order, whose own operations only read and whose callees leave what lay before as it lay (they may lay blocks of their own, and may write those): one walk, guards passed over. No program.
-/
import Derived.BigQuiet
import Derived.Below
namespace Go.Proofs.Ytnekjbdogdghnaa
open Go Go.RowKit

/-- A world in which what lay in W lies as it lay. -/
structure InW (W : World) where
  val : World
  bel : Below W.heap.size W val
instance (W : World) : Inhabited (InW W) := ⟨⟨W, Below.refl _ _⟩⟩
theorem InW.cell {W : World} (p : InW W) {a : Addr} {v : Value} (h : W.cell? a = some v) : p.val.cell? a = some v := (p.bel.cell (World.block_lt_of_cell? _ _ h)).trans h
theorem wp_region_below {P : Program} {id : Nat} {Q : Exit → Act → World → Prop} {a : Act} {w W : World} {l : List Oper} (hm : P.follows .mixedOrders = true) (hB : Region.lexB .any l.toArray = true) (hb : Below W.heap.size W w)
    (h : wpQuiet P l.toArray (fun w' => ∃ p : InW W, w' = p.val) (fun a' => ∀ w', (∃ p : InW W, w' = p.val) → Q .normal a' w') l a) : (Code.region id l.toArray true).wp P Q a w :=
  wp_region_quiet (C := fun w' => ∃ p : InW W, w' = p.val) hm hB ⟨⟨w.drew, hb.drew⟩, rfl⟩ (by simpa using h)
theorem calls_in {P : Program} {W : World} {f : FuncId} {args : Array Value} {p : InW W} {v : Value} (h : Calls P f args p.val fun e w' => e = .returned v ∧ Below p.val.heap.size p.val w') :
    Calls P f args p.val fun e w'' => e = .returned v ∧ ∃ q : InW W, w'' = q.val :=
  h.mono fun _ _ ⟨he, hb⟩ => ⟨he, ⟨_, p.bel.trans (hb.mono p.bel.size)⟩, rfl⟩
end Go.Proofs.Ytnekjbdogdghnaa
