/-
  The law PipeNil. Conditions: none.
-/
import Derived.Test.YtganokcmcdkdgaaUNil
import Derived.Test.YtganokcmcdkdgaaUTo
namespace Go.Proofs.Ytganokcmcdkdgaa.Pi
open Go.RowKit Wi Tb Wi.S

set_option maxRecDepth 100000 in
set_option maxHeartbeats 4000000 in
theorem law_nil (w : World) (k f t n : Int) (A : Option Addr) (q c : Nat) (hqc : q ≤ c) (x : Int) : Calls Try.prog 4 #[.agg #[.int .i64 k, .int .i64 f, .int .i64 t, .int .i64 n, .slice A q c], .int .i64 x] w fun e w' => e = .returned (.bool true) ∧ Below w.heap.size w w' := by
  obtain ⟨m, hm⟩ : ∃ m, min q 100 = m := ⟨_, rfl⟩
  have HT := Lib.hid (fun W => to_any W k f t n A q c m hm (by omega))
  have HB0 : Hid (Below w.heap.size w (w.alloc (.cells #[.int .i64 k, .int .i64 f, .int .i64 t, .int .i64 n, .slice A q c] 36))) := Lib.hid ((Below.refl _ _).alloc (Nat.le_refl _) _)
  clear hm hqc
  go_enter Try.func4, Try.ntmps4
  go_wp2_with (first
    | (go_at_call 9; (with_reducible refine (HT.out _).mono ?_); rintro e w1 ⟨rfl, hb⟩; have HB1 := Lib.hid (HB0.out.trans (hb.mono HB0.out.size)); clear hb)
    | (go_at_call 10; (with_reducible refine (hear_nil _ _ _ _ _ _ _ _).mono ?_); rintro e w2 ⟨rfl, hb⟩; have HB2 := Lib.hid ((HB1.out.trans (hb.mono HB1.out.size)).alloc (by have := (HB1.out.trans (hb.mono HB1.out.size)).size; exact this) (.cells #[.int .i64 0, .int .i64 0, .int .i64 0, .int .i64 0, .slice none 0 0] 42)); clear hb)
    | (go_at_call 19; (with_reducible refine (ready_nil _).mono ?_); rintro e w3 ⟨rfl, hb⟩; have HB3 := Lib.hid (HB2.out.trans (hb.mono HB2.out.size)); clear hb)
    | (go_at_call 14; (with_reducible refine (take_nil _).mono ?_); rintro e w4 ⟨rfl, hb⟩; have HB4 := Lib.hid ((HB3.out.trans (hb.mono HB3.out.size)).alloc (by have := (HB3.out.trans (hb.mono HB3.out.size)).size; exact this) (.cells #[.int .i64 0, .int .i64 0, .int .i64 0, .int .i64 0, .slice none 0 0] 42)); clear hb)
    | (go_at_call 6; (with_reducible refine (known_any _).mono ?_); rintro e w5 ⟨rfl, hb⟩; have HB5 := Lib.hid ((HB4.out.trans (hb.mono HB4.out.size))); have HB5b := Lib.hid ((HB5.out.alloc HB5.out.size (.cells #[.int .u8 1] 5)).alloc (by have := HB5.out.size; simp; omega) (.cells #[.slice (some ⟨w5.heap.size, 0, none⟩) 1 1] 30)); clear hb)
    | (go_at_call 8; (with_reducible refine (say_nil _ _ _ _).mono ?_); rintro e w6 ⟨rfl, hb⟩; have HB6 := Lib.hid (HB5b.out.trans (hb.mono HB5b.out.size)); clear hb)
    | (go_at_call 16; (with_reducible refine (tick_nil _).mono ?_); rintro e w7 ⟨rfl, hb⟩; have HB7 := Lib.hid (HB6.out.trans (hb.mono HB6.out.size)); clear hb)
    | (go_at_call 23; (with_reducible refine (taken_nil _).mono ?_); rintro e w8 ⟨rfl, hb⟩; have HB8 := Lib.hid (HB7.out.trans (hb.mono HB7.out.size)); clear hb)
    | (go_at_call 21; (with_reducible refine (said_nil _).mono ?_); rintro e w9 ⟨rfl, hb⟩; have HB9 := Lib.hid (HB8.out.trans (hb.mono HB8.out.size)); clear hb)
    | (go_at_call 22; (with_reducible refine (waits_nil _).mono ?_); rintro e w10 ⟨rfl, hb⟩; have HB10 := Lib.hid (HB9.out.trans (hb.mono HB9.out.size)); clear hb)
    | (go_at_call 18; (with_reducible refine (restore_nil _ _).mono ?_); rintro e w11 ⟨rfl, hb⟩; have HB11 := Lib.hid (HB10.out.trans (hb.mono HB10.out.size)); clear hb))
  go_ret
  exact ⟨rfl, HB11.out⟩
end Go.Proofs.Ytganokcmcdkdgaa.Pi
