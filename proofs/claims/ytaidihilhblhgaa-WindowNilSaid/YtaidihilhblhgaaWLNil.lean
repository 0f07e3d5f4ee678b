/-
  WindowNil's law. Conditions: none.
-/
import Derived.Test.YtaidihilhblhgaaWKno
import Derived.Test.YtaidihilhblhgaaWNil
namespace Go.Proofs.Ytaidihilhblhgaa.Wi
open Go.RowKit Tb I

set_option maxRecDepth 100000 in
set_option maxHeartbeats 4000000 in
theorem law_nil (w : World) (x : Int) : Calls Try.prog 6 #[.int .i64 x] w fun e w' => e = .returned (.bool true) ∧ Below w.heap.size w w' := by
  have CK : Hid (∀ W, Below w.heap.size w W → Calls Try.prog 17 #[] W fun e w' => e = .returned (.bool true) ∧ Below w.heap.size w w') := fun W hW => (known_any W).mono fun e w' ⟨h1, h2⟩ => ⟨h1, hW.trans (h2.mono hW.size)⟩
  have CP : Hid (∀ W A n c, Below w.heap.size w W → Calls Try.prog 7 #[.pointer none, .slice A n c] W fun e w' => e = .returned (.int .i64 0) ∧ Below w.heap.size w w') := fun W A n c hW => (opush_nil W A n c).mono fun e w' ⟨h1, h2⟩ => ⟨h1, by rw [← h2]; exact hW⟩
  have CR : Hid (∀ W, Below w.heap.size w W → Calls Try.prog 10 #[.pointer none] W fun e w' => e = .returned (.tuple #[]) ∧ Below w.heap.size w w') := fun W hW => (orewind_nil W).mono fun e w' ⟨h1, h2⟩ => ⟨h1, by rw [← h2]; exact hW⟩
  have CW : Hid (∀ W, Below w.heap.size w W → Calls Try.prog 11 #[.pointer none] W fun e w' => ∃ A c, e = .returned (.tuple #[.int .i64 0, .slice A 0 c]) ∧ Below w.heap.size w w') := fun W hW => (owindow_nil W).mono fun e w' ⟨A, c, h1, h2⟩ => ⟨A, c, h1, hW.trans (h2.mono hW.size)⟩
  have CA : Hid (∀ W, Below w.heap.size w W → Calls Try.prog 9 #[.pointer none, .int .i64 x] W fun e w' => e = .returned (.int .i64 0) ∧ Below w.heap.size w w') := fun W hW => (oack_nil W x).mono fun e w' ⟨h1, h2⟩ => ⟨h1, hW.trans (h2.mono hW.size)⟩
  have CL : Hid (∀ W, Below w.heap.size w W → Calls Try.prog 14 #[.pointer none] W fun e w' => e = .returned (.int .i64 0) ∧ Below w.heap.size w w') := fun W hW => (olen_nil W).mono fun e w' ⟨h1, h2⟩ => ⟨h1, hW.trans (h2.mono hW.size)⟩
  have CC : Hid (∀ W, Below w.heap.size w W → Calls Try.prog 15 #[.pointer none] W fun e w' => e = .returned (.int .i64 0) ∧ Below w.heap.size w w') := fun W hW => (oacked_nil W).mono fun e w' ⟨h1, h2⟩ => ⟨h1, hW.trans (h2.mono hW.size)⟩
  have CG : Hid (∀ W, Below w.heap.size w W → Calls Try.prog 16 #[.pointer none] W fun e w' => e = .returned (.int .i64 0) ∧ Below w.heap.size w w') := fun W hW => (owaiting_nil W).mono fun e w' ⟨h1, h2⟩ => ⟨h1, hW.trans (h2.mono hW.size)⟩
  have CS : Hid (∀ W, Below w.heap.size w W → Calls Try.prog 18 #[.pointer none, .int .i64 x] W fun e w' => e = .returned (.int .i64 10) ∧ Below w.heap.size w w') := fun W hW => (nstart_nil W x).mono fun e w' ⟨h1, h2⟩ => ⟨h1, by rw [← h2]; exact hW⟩
  have CO : Hid (∀ W, Below w.heap.size w W → Calls Try.prog 19 #[.pointer none, .int .i64 x, .int .i64 x] W fun e w' => e = .returned (.int .i64 10) ∧ Below w.heap.size w w') := fun W hW => (noffer_nil W x x).mono fun e w' ⟨h1, h2⟩ => ⟨h1, by rw [← h2]; exact hW⟩
  have CX : Hid (∀ W, Below w.heap.size w W → Calls Try.prog 25 #[.pointer none] W fun e w' => e = .returned (.int .i64 0) ∧ Below w.heap.size w w') := fun W hW => (nnext_nil W).mono fun e w' ⟨h1, h2⟩ => ⟨h1, hW.trans (h2.mono hW.size)⟩
  have CE : Hid (∀ W, Below w.heap.size w W → Calls Try.prog 23 #[.pointer none] W fun e w' => e = .returned (.tuple #[.int .i64 0, .bool false]) ∧ Below w.heap.size w w') := fun W hW => (nready_nil W).mono fun e w' ⟨h1, h2⟩ => ⟨h1, hW.trans (h2.mono hW.size)⟩
  have CQ : Hid (∀ W, Below w.heap.size w W → Calls Try.prog 21 #[.pointer none] W fun e w' => e = .returned (.tuple #[.int .i64 0, .bool false]) ∧ Below w.heap.size w w') := fun W hW => (npop_nil W).mono fun e w' ⟨h1, h2⟩ => ⟨h1, hW.trans (h2.mono hW.size)⟩
  have CZ : Hid (∀ W, Below w.heap.size w W → Calls Try.prog 26 #[.pointer none] W fun e w' => ∃ A c, e = .returned (.slice A 0 c) ∧ Below w.heap.size w w') := fun W hW => (nkept_nil W).mono fun e w' ⟨A, c, h1, h2⟩ => ⟨A, c, h1, hW.trans (h2.mono hW.size)⟩
  go_enter Try.func6, Try.ntmps6
  go_wp2_with (first
    | (go_at_call 26; (with_reducible refine (CZ.out _ B14).mono ?_); rintro e w15 ⟨A15, c15, rfl, B15⟩)
    | (go_at_call 25; (with_reducible refine (CX.out _ B13).mono ?_); rintro e w14 ⟨rfl, B14⟩)
    | (go_at_call 19; (with_reducible refine (CO.out _ B12).mono ?_); rintro e w13 ⟨rfl, B13⟩)
    | (go_at_call 18; (with_reducible refine (CS.out _ B11).mono ?_); rintro e w12 ⟨rfl, B12⟩)
    | (go_at_call 16; (with_reducible refine (CG.out _ B10).mono ?_); rintro e w11 ⟨rfl, B11⟩)
    | (go_at_call 15; (with_reducible refine (CC.out _ B9).mono ?_); rintro e w10 ⟨rfl, B10⟩)
    | (go_at_call 14; (with_reducible refine (CL.out _ B8).mono ?_); rintro e w9 ⟨rfl, B9⟩)
    | (go_at_call 9; (with_reducible refine (CA.out _ B7).mono ?_); rintro e w8 ⟨rfl, B8⟩)
    | (go_at_call 7; refine (CP.out _ _ _ _ (B6.alloc B6.size _)).mono ?_; rintro e w7 ⟨rfl, B7⟩)
    | (go_at_call 17; (with_reducible refine (CK.out _ B5).mono ?_); rintro e w6 ⟨rfl, B6⟩)
    | (go_at_call 21; (with_reducible refine (CQ.out _ B4).mono ?_); rintro e w5 ⟨rfl, B5⟩)
    | (go_at_call 23; (with_reducible refine (CE.out _ B3).mono ?_); rintro e w4 ⟨rfl, B4⟩)
    | (go_at_call 11; (with_reducible refine (CW.out _ B2).mono ?_); rintro e w3 ⟨A3, c3, rfl, B3⟩)
    | (go_at_call 10; (with_reducible refine (CR.out _ (Below.refl _ _)).mono ?_); rintro e w2 ⟨rfl, B2⟩))
  go_ret
  exact ⟨rfl, B15⟩
end Go.Proofs.Ytaidihilhblhgaa.Wi
