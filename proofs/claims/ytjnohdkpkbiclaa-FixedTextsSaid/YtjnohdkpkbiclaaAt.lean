/-
  The contract of the reference's 'at': a digit, or nought behind the highest. Conditions: the slice reads as the digits.
-/
import Derived.Test.YtjnohdkpkbiclaaDigs
import Derived.Test.YtjnohdkpkbiclaaRows
import Derived.WalkLawsBesides
namespace Go.Proofs.Ytjnohdkpkbiclaa
open Go.RowKit

set_option maxHeartbeats 400000 in
theorem at_any (w : World) (v : Value) (ds : List Int) (i : Nat) (h : Digs w v ds) :
    Calls Try.prog 38 #[v, .int .i64 (i : Int)] w fun e w' => e = .returned (.int .i64 (ds.getD i 0)) ∧ w = w' := by
  obtain ⟨A, n, c, rfl⟩ : ∃ A n c, v = .slice A n c := by obtain ⟨A, c, hv, _⟩ := h; exact ⟨A, _, c, hv⟩
  obtain ⟨hn, hc, hm⟩ := h.len
  by_cases hlt : i < n
  · obtain ⟨g, rfl, _, hcell⟩ := h.some (by omega)
    have hci := hcell i hlt
    clear h hn hcell
    unfold maxLen at hm
    go_enter Try.func38, Try.ntmps38
    go_wp2
    go_ret
    exact ⟨rfl, rfl⟩
  · have e : ds.getD i 0 = 0 := by rw [List.getD_eq_getElem?_getD, List.getElem?_eq_none (by omega)]; rfl
    rw [e]
    clear h hn e
    go_enter Try.func38, Try.ntmps38
    go_wp2
    go_ret
    exact ⟨rfl, rfl⟩
end Go.Proofs.Ytjnohdkpkbiclaa
