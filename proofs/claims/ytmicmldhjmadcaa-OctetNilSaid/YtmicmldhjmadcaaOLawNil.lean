/-
  OctetNil answers true for every number. Conditions: the number's own range.
-/
import Derived.Test.YtmicmldhjmadcaaOKnown
namespace Go.Proofs.Ytmicmldhjmadcaa.Oc
open Go.RowKit

theorem two_strs (w : World) (s t : ByteArray) : (w.alloc (.cells #[.string s, .string t] 9)).heap[w.heap.size]? = some (.cells #[.string s, .string t] 9 (0, 0)) := block_new _ _
set_option maxRecDepth 100000 in
set_option maxHeartbeats 4000000 in
theorem law_nil (n : Int) (h1 : -9223372036854775808 ≤ n) (h2 : n < 9223372036854775808) (w : World) : Calls Try.prog 6 #[.int .i64 n] w fun e w' => e = .returned (.bool true) ∧ Below w.heap.size w w' := by
  have HC := Lib.hid (count_nil w n h1 h2)
  have HRW : Hid (∀ W : World, Calls Try.prog 15 #[.pointer none] W fun e w' => e = .returned (.agg #[.int .i64 0, .int .u64 0]) ∧ Below W.heap.size W w') := rwide_nil
  have HWW : Hid (∀ W : World, Calls Try.prog 22 #[.pointer none, .agg #[.int .i64 0, .int .u64 0]] W fun e w' => e = .returned (.pointer none) ∧ Below W.heap.size W w') := fun W => wide_nil W 0 0 (by decide) (by decide)
  go_enter Try.func6, Try.ntmps6
  go_wp2_with (first
    | (go_at_call 18; refine (rdone_nil _).mono ?_; rintro e w15 ⟨rfl, rfl⟩)
    | (go_at_call 26; refine (ok_nil _).mono ?_; rintro e w14 ⟨rfl, rfl⟩)
    | (go_at_call 19; refine (rest_nil _).mono ?_; rintro e w13 ⟨rfl, rfl⟩)
    | (go_at_call 17; refine (rbyte_nil w11).mono ?_; rintro e w12 ⟨rfl, b12⟩; have B12 := Lib.hid (B11.out.trans (b12.mono B11.out.size)); clear b12)
    | (go_at_call 16; refine (rtext_nil w10 _).mono ?_; rintro e w11 ⟨rfl, b11⟩; have B11 := Lib.hid (B10.out.trans (b11.mono B10.out.size)); clear b11)
    | (go_at_call 15; refine (HRW.out w9).mono ?_; rintro e w10 ⟨rfl, b10⟩; have B10 := Lib.hid (B9.out.trans (b10.mono B9.out.size)); clear b10)
    | (go_at_call 14; refine (rnumber_nil w8).mono ?_; rintro e w9 ⟨rfl, b9⟩; have B9 := Lib.hid (B8.out.trans (b9.mono B8.out.size)); clear b9)
    | (go_at_call 13; refine (rcount_nil w7 _).mono ?_; rintro e w8 ⟨rfl, b8⟩; have B8 := Lib.hid (B7.out.trans (b8.mono B7.out.size)); clear b8)
    | (go_at_call 10; refine (known_any w5).mono ?_; rintro e w7 ⟨rfl, b7⟩; have B7 := Lib.hid (B5.out.trans (b7.mono B5.out.size)); clear b7)
    | (go_at_call 24; refine (rfail_nil _ _).mono ?_; rintro e w6 ⟨rfl, rfl⟩)
    | (go_at_call 9; refine (wdone_nil _).mono ?_; rintro e w6 ⟨rfl, rfl⟩)
    | (go_at_call 25; refine (byte_nil w4 _).mono ?_; rintro e w5 ⟨rfl, b5⟩; have B5 := Lib.hid (B4.out.trans (b5.mono B4.out.size)); clear b5)
    | (go_at_call 23; refine (text_nil _ w3.heap.size _ _ (two_strs w3 _ _) (by decide) (by decide)).mono ?_; rintro e w4 ⟨rfl, b4⟩; have B4 := Lib.hid (B3.out.trans (((Below.refl _ _).alloc (Nat.le_refl _) _).trans (b4.mono (by simp)) |>.mono B3.out.size)); clear b4)
    | (go_at_call 22; refine (HWW.out w2).mono ?_; rintro e w3 ⟨rfl, b3⟩; have B3 := Lib.hid (B2.out.trans (b3.mono B2.out.size)); clear b3)
    | (go_at_call 21; refine (number_nil w1 1 (by decide) (by decide)).mono ?_; rintro e w2 ⟨rfl, b2⟩; have B2 := Lib.hid (B1.out.trans (b2.mono B1.out.size)); clear b2)
    | (go_at_call 20; refine HC.out.mono ?_; rintro e w1 ⟨rfl, b1⟩; have B1 := Lib.hid b1; clear b1))
  go_ret
  exact ⟨rfl, B12.out⟩
end Go.Proofs.Ytmicmldhjmadcaa.Oc
