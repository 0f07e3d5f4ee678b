/-
  The contract of the laws' 'known': the chapter's examples hold. Conditions: none.
-/
import Derived.Test.YtcidbmkmnlneiaaIRefIsin
namespace Go.Proofs.Ytcidbmkmnlneiaa.Id
open Go.RowKit

theorem ex_us : headB (sb ⟨#[85, 83, 48, 51, 55, 56, 51, 51, 49, 48, 48]⟩) = true ∧ 48 + chkD (sb ⟨#[85, 83, 48, 51, 55, 56, 51, 51, 49, 48, 48]⟩) = 53 := ⟨by kernel_rfl, by kernel_rfl⟩
theorem ex_gb : headB (sb ⟨#[71, 66, 48, 48, 48, 50, 54, 51, 52, 57, 52]⟩) = true ∧ madeS ⟨#[71, 66, 48, 48, 48, 50, 54, 51, 52, 57, 52]⟩ = ⟨#[71, 66, 48, 48, 48, 50, 54, 51, 52, 57, 52, 54]⟩ := ⟨by kernel_rfl, by kernel_rfl⟩
theorem ex_no : isinN (sb ⟨#[85, 83, 48, 51, 55, 56, 51, 51, 49, 48, 48, 54]⟩) = 11 := by kernel_rfl
theorem ex_yes : isinN (sb ⟨#[85, 83, 48, 51, 55, 56, 51, 51, 49, 48, 48, 53]⟩) = 0 := by kernel_rfl

theorem ex1 (w : World) : Calls Try.prog 8 #[.string ⟨#[85, 83, 48, 51, 55, 56, 51, 51, 49, 48, 48]⟩] w fun e w' => e = .returned (.tuple #[.int .u8 53, .int .i64 0]) ∧ Below w.heap.size w w' := by
  have h := digit_yes w ⟨#[85, 83, 48, 51, 55, 56, 51, 51, 49, 48, 48]⟩ (by decide) ex_us.1
  rwa [ex_us.2] at h
theorem ex2 (w : World) : Calls Try.prog 9 #[.string ⟨#[71, 66, 48, 48, 48, 50, 54, 51, 52, 57, 52]⟩] w fun e w' => e = .returned (.tuple #[.string ⟨#[71, 66, 48, 48, 48, 50, 54, 51, 52, 57, 52, 54]⟩, .int .i64 0]) ∧ Below w.heap.size w w' := by
  have h := make_yes w ⟨#[71, 66, 48, 48, 48, 50, 54, 51, 52, 57, 52]⟩ (by decide) ex_gb.1
  rwa [ex_gb.2] at h
theorem ex3 (w : World) : Calls Try.prog 12 #[.string ⟨#[85, 83, 48, 51, 55, 56, 51, 51, 49, 48, 48, 54]⟩] w fun e w' => e = .returned (.int .i64 11) ∧ Below w.heap.size w w' := by
  have h := isin_any w ⟨#[85, 83, 48, 51, 55, 56, 51, 51, 49, 48, 48, 54]⟩ (by decide)
  rwa [ex_no] at h
theorem ex4 (w : World) : Calls Try.prog 12 #[.string ⟨#[85, 83, 48, 51, 55, 56, 51, 51, 49, 48, 48, 53]⟩] w fun e w' => e = .returned (.int .i64 0) ∧ Below w.heap.size w w' := by
  have h := isin_any w ⟨#[85, 83, 48, 51, 55, 56, 51, 51, 49, 48, 48, 53]⟩ (by decide)
  rwa [ex_yes] at h

set_option maxRecDepth 100000 in
set_option maxHeartbeats 1000000 in
theorem known_any (w : World) : Calls Try.prog 11 #[] w fun e w' => e = .returned (.bool true) ∧ Below w.heap.size w w' := by
  go_enter Try.func11, Try.ntmps11
  go_wp2_with (first
    | (go_at_call 8; refine (ex1 _).mono ?_; rintro e w1 ⟨rfl, hb1⟩)
    | (go_at_call 9; refine (ex2 _).mono ?_; rintro e w2 ⟨rfl, hb2⟩)
    | (go_at_call 12; (with_reducible refine (ex3 _).mono ?_); rintro e w3 ⟨rfl, hb3⟩)
    | (go_at_call 12; (with_reducible refine (ex4 _).mono ?_); rintro e w4 ⟨rfl, hb4⟩))
  go_ret
  have k2 := hb1.trans (hb2.mono hb1.size)
  have k3 := k2.trans (hb3.mono k2.size)
  exact ⟨rfl, k3.trans (hb4.mono k3.size)⟩
end Go.Proofs.Ytcidbmkmnlneiaa.Id
