/-
  The exchange of two ranges, said on lists. Conditions: the ranges lie apart, both of n elements.
-/
import Derived.Test.YtflhpijcfiamgaaTSwrIi
namespace Go.Proofs.Ytflhpijcfiamgaa.Tb.Ii
open Go.RowKit Go.Sort

theorem swR_list : ∀ (n : Nat) (d : Array R) (A X M Y B : List R), X.length = n → Y.length = n → d.toList = A ++ (X ++ (M ++ (Y ++ B))) → (swR A.length (A.length + n + M.length) n d).toList = A ++ (Y ++ (M ++ (X ++ B)))
  | 0, d, A, X, M, Y, B, hX, hY, h => by
    obtain rfl := List.length_eq_zero_iff.1 hX
    obtain rfl := List.length_eq_zero_iff.1 hY
    simpa [swR] using h
  | n + 1, d, A, X, M, Y, B, hX, hY, h => by
    obtain ⟨X', x, rfl⟩ : ∃ X' x, X = X' ++ [x] := ⟨X.dropLast, X.getLast (by intro e; simp [e] at hX), (List.dropLast_concat_getLast _).symm⟩
    obtain ⟨Y', y, rfl⟩ : ∃ Y' y, Y = Y' ++ [y] := ⟨Y.dropLast, Y.getLast (by intro e; simp [e] at hY), (List.dropLast_concat_getLast _).symm⟩
    have hX' : X'.length = n := by simpa using hX
    have hY' : Y'.length = n := by simpa using hY
    have ih := swR_list n d A X' (x :: M) Y' (y :: B) hX' hY' (by rw [h]; simp)
    rw [show A.length + n + (x :: M).length = A.length + (n + 1) + M.length by simp only [List.length_cons]; omega] at ih
    rw [swR]
    have hs := (swp_toList (swR A.length (A.length + (n + 1) + M.length) n d) (A ++ Y') (M ++ X') B x y (by rw [ih]; simp)).1
    rw [show (A ++ Y').length = A.length + n by simp [hY'], show A.length + n + 1 + (M ++ X').length = A.length + (n + 1) + M.length + n by simp [hX']; omega] at hs
    rw [hs]
    simp
end Go.Proofs.Ytflhpijcfiamgaa.Tb.Ii
