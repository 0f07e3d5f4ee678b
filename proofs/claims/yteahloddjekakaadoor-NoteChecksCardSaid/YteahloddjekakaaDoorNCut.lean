/-
  A sequence of operations cut in two: what holds between them is named once, and the second part is walked once. No program.
-/
import Derived.Test.YteahloddjekakaaDoorNHeld
namespace Go.Proofs.YteahloddjekakaaDoor
open Go Go.RowKit

section
variable {P : Program} {ops : Array Oper} {Q : Exit → Act → World → Prop} {K : Act → World → Prop}
theorem wpList_cut {l2 : List Oper} (hK : ∀ a w, K a w → wpList P ops Q l2 a w) : ∀ (l1 : List Oper) (a : Act) (w : World), wpList P ops (thenK Q K) l1 a w → wpList P ops Q (l1 ++ l2) a w
  | [], a, w, h => hK a w h
  | o :: l, a, w, h => by
    have ih := wpList_cut hK l
    show wpList P ops Q (o :: (l ++ l2)) a w
    rw [wpList] at h ⊢
    split
    · rename_i hwt
      simp only [hwt, if_true] at h
      rcases h with h | ⟨ha, a1, w1, hl⟩
      · refine .inl ?_
        unfold Oper.wp at *
        generalize (execOp a.eval o).run P w = r at *
        cases r with
        | ok n w' =>
          cases n <;> simp only [Oper.upon] at h ⊢
          case value u => exact ih _ _ h
          case skip => exact ih _ _ h
          case defer d => exact ih _ _ h
          case enter f args =>
            refine Calls.mono h fun e w'' he => ?_
            cases e with
            | returned u => exact ih _ _ he
            | panicked c => exact he
            | outgrown => obtain ⟨a1, w1, hl⟩ := he; exact ⟨a1, w1, hl⟩
          case row row args => exact Rows.mono h fun u w'' he => ih _ _ he
        | halt x w' =>
          cases x <;> simp only [Oper.upon] at h ⊢
          case panic u => exact h
      · exact .inr ⟨ha, a1, w1, hl⟩
    · rename_i hwt
      simp only [hwt] at h
      exact ih _ _ h
theorem wpList_cutn {l : List Oper} {a : Act} {w : World} (n : Nat) (K : Act → World → Prop) (h1 : wpList P ops (thenK Q K) (l.take n) a w) (h2 : ∀ a w, K a w → wpList P ops Q (l.drop n) a w) : wpList P ops Q l a w := by
  have := wpList_cut h2 (l.take n) a w h1
  rwa [List.take_append_drop] at this
theorem thenK_mk {a : Act} {w : World} (h : K a w) : thenK Q K .normal a w := h
end
end Go.Proofs.YteahloddjekakaaDoor
