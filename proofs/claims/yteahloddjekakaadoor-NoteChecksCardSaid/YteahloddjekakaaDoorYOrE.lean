/-
  The contract of cmp.Or over at most 1000 numbers. Conditions: the numbers lie in the slice's cells.
-/
import Derived.Test.YteahloddjekakaaDoorYBase
namespace Go.Proofs.YteahloddjekakaaDoor.Td
open Go.RowKit

set_option maxRecDepth 100000 in
set_option maxHeartbeats 1000000 in
theorem orE (w : World) (b n : Nat) (l : List Int) (r : Int) (h : RowAt w b l) (hn : l.length = n) (hr : Hid (r = orL l)) (hm : n ≤ 1000) :
    Calls Tryd.prog 27 #[.slice (some ⟨b, 0, none⟩) n n] w fun e w' => e = .returned (.int .i64 r) ∧ w' = w := by
  have H := Lib.hid h
  have HN := Lib.hid hn
  clear h hn
  go_enter Tryd.func27, Tryd.ntmps27
  go_wp2
  go_loopg [8] n (fun (g : Nat) i wx => ∃ k : Nat, wx = w ∧ g = n - k ∧ k ≤ n ∧ i = .int .i64 (k : Int) ∧ Hid (r = orL (l.drop k)))
  case atStart => exact ⟨0, rfl, rfl, Nat.zero_le _, rfl, hr.out⟩
  case round =>
    obtain ⟨k, rfl, rfl, hk, rfl, hv⟩ := hrel
    by_cases hlt : k < n
    · obtain ⟨x, hx⟩ : ∃ x, x = l.getD k 0 := ⟨_, rfl⟩
      have hc : wr.cell? ⟨b, k, none⟩ = some (.int .i64 x) := by rw [hx]; exact H.out k (by rw [HN.out]; exact hlt)
      have hd := orL_drop l k (by rw [HN.out]; exact hlt)
      rw [← hx] at hd
      have HD := Lib.hid hd
      clear hx hd
      by_cases hz : x = 0
      · have hv2 : Hid (r = orL (l.drop (k + 1))) := by show _ = _; rw [hv.out, HD.out, if_pos hz]
        go_wp2
        go_roundg (n - (k + 1))
        case measure => omega
        case rel => exact ⟨k + 1, rfl, rfl, by omega, by go_num, hv2.out⟩
      · obtain rfl : r = x := by rw [hv.out, HD.out, if_neg hz]
        go_wp2
        go_ret
        exact ⟨rfl, rfl⟩
    · obtain rfl : k = n := by omega
      obtain rfl : r = 0 := by rw [hv.out, List.drop_of_length_le (by rw [HN.out]; exact Nat.le_refl _)]; rfl
      go_wp2
      go_ret
      exact ⟨rfl, rfl⟩
end Go.Proofs.YteahloddjekakaaDoor.Td
