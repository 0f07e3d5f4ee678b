/-
  The contracts of first, Next and Open: what stands at the beginning of bytes. Conditions: at most two million bytes.
-/
import Derived.Test.YtnekjbdogdghnaaFNum
namespace Go.Proofs.Ytnekjbdogdghnaa.Fr
open Go.RowKit

/-- What is read of l: a piece of it, how many bytes the frame has, and what is wrong. -/
def Fst (l : List Int) (e : Ending) (w' : World) : Prop := ∃ A c, e = .returned (.tuple #[.slice A (nxB l).length c, .int .i64 (nxN l : Int), .int .i64 (nxE l)]) ∧ BAt w' (.slice A (nxB l).length c) (nxB l)
theorem BAt.nil (w : World) : BAt w (.slice none 0 0) [] := ⟨none, 0, rfl, Nat.le_refl _, fun h => absurd h (by decide)⟩
theorem fst_bad {l : List Int} {x : Int} (hx : nxE l = x) (h0 : ¬ x = 0) (w : World) : Fst l (.returned (.tuple #[.slice none 0 0, .int .i64 0, .int .i64 x])) w := by
  have h1 : nxB l = [] := if_neg (by rw [hx]; exact h0)
  have h2 : nxN l = 0 := if_neg (by rw [hx]; exact h0)
  refine ⟨none, 0, ?_, ?_⟩
  · rw [h1, h2, hx]; rfl
  · rw [h1]; exact BAt.nil w
/-- The bytes' block is one of K. -/
def BK (K : Nat → Prop) (v : Value) (l : List Int) : Prop := 0 < l.length → ∀ a n c, v = .slice (some a) n c → K a.block
def FstK (K : Nat → Prop) (l : List Int) (e : Ending) (w' : World) : Prop := ∃ A c, e = .returned (.tuple #[.slice A (nxB l).length c, .int .i64 (nxN l : Int), .int .i64 (nxE l)]) ∧ BAt w' (.slice A (nxB l).length c) (nxB l) ∧ BK K (.slice A (nxB l).length c) (nxB l)
theorem FstK.fst {K : Nat → Prop} {l : List Int} {e : Ending} {w' : World} (h : FstK K l e w') : Fst l e w' := by
  obtain ⟨A, c, h1, h2, _⟩ := h
  exact ⟨A, c, h1, h2⟩
theorem fst_badK {l : List Int} {x : Int} (hx : nxE l = x) (h0 : ¬ x = 0) (K : Nat → Prop) (w : World) : FstK K l (.returned (.tuple #[.slice none 0 0, .int .i64 0, .int .i64 x])) w := by
  have h1 : nxB l = [] := if_neg (by rw [hx]; exact h0)
  have h2 : nxN l = 0 := if_neg (by rw [hx]; exact h0)
  refine ⟨none, 0, ?_, ?_, fun h => ?_⟩
  · rw [h1, h2, hx]; rfl
  · rw [h1]; exact BAt.nil w
  · rw [h1] at h; exact absurd h (by decide)
end Go.Proofs.Ytnekjbdogdghnaa.Fr
