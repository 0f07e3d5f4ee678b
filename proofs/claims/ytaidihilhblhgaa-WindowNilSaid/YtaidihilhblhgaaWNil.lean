/-
  The contracts of a nil Out and a nil In. Conditions: none.
-/
import Derived.Test.YtaidihilhblhgaaWOutI
import Derived.Test.YtaidihilhblhgaaWKept
namespace Go.Proofs.Ytaidihilhblhgaa.Wi.I
open Go.RowKit Tb

set_option maxRecDepth 100000 in
theorem onone_nil (w : World) : Calls Try.prog 29 #[.pointer none] w fun e w' => e = .returned (.pointer (some ⟨w.heap.size, 0, none⟩)) ∧ w' = w.alloc (.cells #[.slice none 0 0, .int .i64 0] 26) := by
  go_enter Try.func29, Try.ntmps29
  go_wp2
  go_ret
  exact ⟨rfl, rfl⟩
set_option maxRecDepth 100000 in
theorem nnone_nil (w : World) : Calls Try.prog 41 #[.pointer none] w fun e w' => e = .returned (.pointer (some ⟨w.heap.size, 0, none⟩)) ∧ w' = w.alloc (.cells #[.slice none 0 0, .int .i64 0] 50) := by
  go_enter Try.func41, Try.ntmps41
  go_wp2
  go_ret
  exact ⟨rfl, rfl⟩
set_option maxRecDepth 100000 in
theorem olen_nil (w : World) : Calls Try.prog 14 #[.pointer none] w fun e w' => e = .returned (.int .i64 0) ∧ Below w.heap.size w w' := by
  have HN := Lib.hid (onone_nil w)
  have h2 := Two.new w 26 (.slice none 0 0) (.int .i64 0)
  have c0 := h2.c0
  clear h2
  go_enter Try.func14, Try.ntmps14
  go_wp2_with (go_at_call 29; refine HN.out.mono ?_; rintro e w1 ⟨rfl, rfl⟩)
  go_ret
  exact ⟨rfl, (Below.refl _ _).alloc (Nat.le_refl _) _⟩
set_option maxRecDepth 100000 in
theorem oacked_nil (w : World) : Calls Try.prog 15 #[.pointer none] w fun e w' => e = .returned (.int .i64 0) ∧ Below w.heap.size w w' := by
  have HN := Lib.hid (onone_nil w)
  have h2 := Two.new w 26 (.slice none 0 0) (.int .i64 0)
  have c1 := h2.c1
  clear h2
  go_enter Try.func15, Try.ntmps15
  go_wp2_with (go_at_call 29; refine HN.out.mono ?_; rintro e w1 ⟨rfl, rfl⟩)
  go_ret
  exact ⟨rfl, (Below.refl _ _).alloc (Nat.le_refl _) _⟩
set_option maxRecDepth 100000 in
theorem owaiting_nil (w : World) : Calls Try.prog 16 #[.pointer none] w fun e w' => e = .returned (.int .i64 0) ∧ Below w.heap.size w w' := by
  have HL := Lib.hid olen_nil
  have HA := Lib.hid oacked_nil
  go_enter Try.func16, Try.ntmps16
  go_wp2_with (first
    | (go_at_call 15; refine (HA.out _).mono ?_; rintro e w2 ⟨rfl, hb2⟩)
    | (go_at_call 14; refine (HL.out _).mono ?_; rintro e w1 ⟨rfl, hb1⟩))
  go_ret
  exact ⟨rfl, hb1.trans (hb2.mono hb1.size)⟩
set_option maxRecDepth 100000 in
theorem orewind_nil (w : World) : Calls Try.prog 10 #[.pointer none] w fun e w' => e = .returned (.tuple #[]) ∧ w = w' := by
  go_enter Try.func10, Try.ntmps10
  go_wp2
  go_end0
  exact ⟨rfl, rfl⟩
set_option maxRecDepth 100000 in
theorem opush_nil (w : World) (A : Option Addr) (n c : Nat) : Calls Try.prog 7 #[.pointer none, .slice A n c] w fun e w' => e = .returned (.int .i64 0) ∧ w = w' := by
  go_enter Try.func7, Try.ntmps7
  go_wp2
  go_ret
  exact ⟨rfl, rfl⟩
set_option maxRecDepth 100000 in
theorem nstart_nil (w : World) (x : Int) : Calls Try.prog 18 #[.pointer none, .int .i64 x] w fun e w' => e = .returned (.int .i64 10) ∧ w = w' := by
  go_enter Try.func18, Try.ntmps18
  go_wp2
  go_ret
  exact ⟨rfl, rfl⟩
set_option maxRecDepth 100000 in
theorem noffer_nil (w : World) (x y : Int) : Calls Try.prog 19 #[.pointer none, .int .i64 x, .int .i64 y] w fun e w' => e = .returned (.int .i64 10) ∧ w = w' := by
  go_enter Try.func19, Try.ntmps19
  go_wp2
  go_ret
  exact ⟨rfl, rfl⟩
set_option maxRecDepth 100000 in
theorem nnext_nil (w : World) : Calls Try.prog 25 #[.pointer none] w fun e w' => e = .returned (.int .i64 0) ∧ Below w.heap.size w w' := by
  have HN := Lib.hid (nnone_nil w)
  have h2 := Two.new w 50 (.slice none 0 0) (.int .i64 0)
  have c1 := h2.c1
  clear h2
  go_enter Try.func25, Try.ntmps25
  go_wp2_with (go_at_call 41; refine HN.out.mono ?_; rintro e w1 ⟨rfl, rfl⟩)
  go_ret
  exact ⟨rfl, (Below.refl _ _).alloc (Nat.le_refl _) _⟩
set_option maxRecDepth 100000 in
theorem oack_nil (w : World) (x : Int) : Calls Try.prog 9 #[.pointer none, .int .i64 x] w fun e w' => e = .returned (.int .i64 0) ∧ Below w.heap.size w w' := by
  have HL := Lib.hid olen_nil
  have HA := Lib.hid oacked_nil
  by_cases h0 : 0 < x
  · have h1 : ¬ x ≤ 0 := by omega
    go_enter Try.func9, Try.ntmps9
    go_wp2_with (first
      | (go_at_call 15; refine (HA.out w2).mono ?_; rintro e w3 ⟨rfl, hb3⟩)
      | (go_at_call 14; refine (HL.out w1).mono ?_; rintro e w2 ⟨rfl, hb2⟩)
      | (go_at_call 15; refine (HA.out w).mono ?_; rintro e w1 ⟨rfl, hb1⟩))
    go_ret
    have h2 := hb1.trans (hb2.mono hb1.size)
    exact ⟨rfl, h2.trans (hb3.mono h2.size)⟩
  · go_enter Try.func9, Try.ntmps9
    go_wp2_with (first
      | (go_at_call 15; refine (HA.out w1).mono ?_; rintro e w2 ⟨rfl, hb2⟩)
      | (go_at_call 15; refine (HA.out w).mono ?_; rintro e w1 ⟨rfl, hb1⟩))
    go_ret
    exact ⟨rfl, hb1.trans (hb2.mono hb1.size)⟩
set_option maxRecDepth 100000 in
theorem owindow_nil (w : World) : Calls Try.prog 11 #[.pointer none] w fun e w' => ∃ A c, e = .returned (.tuple #[.int .i64 0, .slice A 0 c]) ∧ Below w.heap.size w w' := by
  have HW := Lib.hid owaiting_nil
  have HA := Lib.hid oacked_nil
  have HN := Lib.hid onone_nil
  have HT := Lib.hid (fun w => (Two.new w 26 (.slice none 0 0) (.int .i64 0)).c0)
  have HC := Lib.hid (fun (W : World) => clone_any W (.slice none 0 0) [] ⟨none, 0, rfl, Nat.le_refl _, fun h => (by cases h)⟩ (by simp))
  have t1 : (if (16 : Int) < 0 then (16 : Int) else 0) = 0 := by decide
  go_enter Try.func11, Try.ntmps11
  go_wp2_with (first
    | (go_at_call 28; refine (HC.out _).mono ?_; rintro e w4 ⟨A, c, rfl, _, hb4⟩)
    | (go_at_call 29; refine (HN.out w2).mono ?_; rintro e w3 ⟨rfl, hw3⟩; have d0 := HT.out w2; rw [← hw3] at d0; have hb3 : Below w2.heap.size w2 w3 := (by rw [hw3]; exact (Below.refl _ _).alloc (Nat.le_refl _) _); have HW3 := Lib.hid hw3; clear hw3)
    | (go_at_call 16; refine (HW.out w1).mono ?_; rintro e w2 ⟨rfl, hb2⟩)
    | (go_at_call 15; refine (HA.out w).mono ?_; rintro e w1 ⟨rfl, hb1⟩))
  go_ret2
  have h2 := hb1.trans (hb2.mono hb1.size)
  have h3 := h2.trans (hb3.mono h2.size)
  exact ⟨_, _, rfl, h3.trans (hb4.mono h3.size)⟩
set_option maxRecDepth 100000 in
theorem nready_nil (w : World) : Calls Try.prog 23 #[.pointer none] w fun e w' => e = .returned (.tuple #[.int .i64 0, .bool false]) ∧ Below w.heap.size w w' := by
  have HN := Lib.hid nnone_nil
  have HX := Lib.hid nnext_nil
  have HI := Lib.hid (fun w => InR.new w 0 (by decide))
  go_enter Try.func23, Try.ntmps23
  go_upto_region 1 with fail
  go_region_held3 (fun _ => True) (exact trivial)
    (first
      | (go_at_call 41; refine (HN.out w.drew).mono ?_; rintro e w1 ⟨rfl, hw1⟩; have hi := HI.out w.drew; rw [← hw1] at hi; have hb1 : Below w.heap.size w w1 := (by rw [hw1]; exact ((Below.refl _ _).drew).alloc (Nat.le_refl _) _); have HW1 := Lib.hid hw1; clear hw1)
      | (go_at_call 25; refine (HX.out w1).mono ?_; rintro e w2 ⟨rfl, hb2⟩; have hg : Calls Try.prog 38 #[.pointer (some ⟨w.drew.heap.size, 0, none⟩), .int .i64 0] w2 (fun e w' => e = .returned (.tuple #[.int .i64 0, .bool false]) ∧ Below w2.heap.size w2 w') := get_in (hi.below hb2) 0; have hb3 := hb1.trans (hb2.mono hb1.size))
      | (go_at_call 38; refine hg.mono ?_; rintro e w3 ⟨rfl, hb4⟩; have HB := Lib.hid (hb3.trans (hb4.mono hb3.size))))
  all_goals
    go_wp2
    go_ret2
    exact ⟨rfl, HB.out⟩
set_option maxRecDepth 100000 in
theorem npop_nil (w : World) : Calls Try.prog 21 #[.pointer none] w fun e w' => e = .returned (.tuple #[.int .i64 0, .bool false]) ∧ Below w.heap.size w w' := by
  have HR := Lib.hid (nready_nil w)
  go_enter Try.func21, Try.ntmps21
  go_wp2_with (go_at_call 23; refine HR.out.mono ?_; rintro e w1 ⟨rfl, hb⟩)
  go_ret2
  exact ⟨rfl, hb⟩
theorem nkept_nil (w : World) : Calls Try.prog 26 #[.pointer none] w fun e w' => ∃ A c, e = .returned (.slice A 0 c) ∧ Below w.heap.size w w' :=
  kept_new w fun W _ => (nnone_nil W).mono fun e w' ⟨h1, h2⟩ => ⟨_, h1, by rw [h2]; exact (Below.refl _ _).alloc (Nat.le_refl _) _, by
    rw [h2]; exact (InR.new W 0 (by decide)).tab.read⟩
end Go.Proofs.Ytaidihilhblhgaa.Wi.I
