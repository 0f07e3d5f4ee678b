/-
  The law BoxNil answers true: its walk. Conditions: none.
-/
import Derived.Test.YtlhdhgagglpphaaBKnown
namespace Go.Proofs.Ytlhdhgagglpphaa.Bx
open Go.RowKit Go.Conc

set_option maxRecDepth 100000 in
set_option maxHeartbeats 4000000 in
theorem law_nil (x : Int) (w : World) : Calls Try.prog 5 #[.int .i64 x] w fun e w' => e = .returned (.bool true) ∧ Below w.heap.size w w' := by
  have CN : Hid (Calls Try.prog 11 #[.int .i64 3] w fun e w' => ∃ b c, e = .returned (.tuple #[.pointer (some ⟨b, 0, none⟩), .int .i64 0]) ∧ I.BoxR w.heap.size w' b c 3 [] ∧ Below w.heap.size w w') := I.new_any w 3 (by omega) (by omega)
  go_enter Try.func5, Try.ntmps5
  go_wp2_with (first
    | (go_at_call 20; (with_reducible refine (I.pour_to_nil _ _ b c 3 [] BP.out).mono ?_); rintro e w9 ⟨rfl, rfl⟩)
    | (go_at_call 20; (with_reducible refine (I.pour_from_nil _ w7 b c 3 [] BF.out (by simp) (by omega)).mono ?_); rintro e w8 ⟨rfl, rfl⟩; have BP := BF)
    | (go_at_call 19; (with_reducible refine (I.fill_nil (w6.alloc (.cells #[.int .i64 x, .int .i64 x] 3)) w6.heap.size 2 2 x (by omega) (block_cell2 (block_new w6 (.cells #[.int .i64 x, .int .i64 x] 3))).1.1).mono ?_); rintro e w7 ⟨rfl, k7⟩
       have BF : Hid (I.BoxR w.heap.size w7 b c 3 []) := (BE.out.alloc _).kept k7
       have K7 : Hid (Below w6.heap.size w6 w7) := ((Below.refl _ _).alloc (Nat.le_refl _) _).trans (k7.mono (by simp)); clear k7)
    | (go_at_call 18; (with_reducible refine (I.all_nil w5).mono ?_); rintro e w6 ⟨ga, ca, rfl, k6⟩; have BE := Lib.hid (BD.out.kept k6); have K6 := Lib.hid k6; clear k6)
    | (go_at_call 17; (with_reducible refine (I.room_nil _).mono ?_); rintro e wr ⟨rfl, rfl⟩)
    | (go_at_call 14; (with_reducible refine (I.len_nil _).mono ?_); rintro e wl ⟨rfl, rfl⟩)
    | (go_at_call 12; refine (I.put_nil w5' x).mono ?_; rintro e w5 ⟨rfl, k5⟩; have BD := Lib.hid (BC'.out.kept k5); have K5 := Lib.hid k5; clear k5)
    | (go_at_call 7; (with_reducible refine (known_any w4).mono ?_); rintro e w5' ⟨rfl, k5'⟩; have BC' := Lib.hid (BC.out.kept k5'); have K5' := Lib.hid k5'; clear k5')
    | (go_at_call 16; (with_reducible refine (I.either_nils w3).mono ?_); rintro e w4 ⟨rfl, k4⟩; have BC := Lib.hid (BB.out.kept k4); have K4 := Lib.hid k4; clear k4)
    | (go_at_call 16; (with_reducible refine (I.either_second _ w2 b c 3 x [] BA.out).mono ?_); rintro e w3 ⟨rfl, hb3, k3⟩; have BB := Lib.hid hb3; have K3 := Lib.hid k3; clear hb3 k3)
    | (go_at_call 13; (with_reducible refine (I.take_nil _).mono ?_); rintro e wt ⟨rfl, rfl⟩)
    | (go_at_call 15; (with_reducible refine (I.shut_nil _).mono ?_); rintro e ws ⟨rfl, rfl⟩)
    | (go_at_call 12; refine (I.put_room _ w1 b c 3 [] x B0.out (by simp)).mono ?_; rintro e w2 ⟨rfl, hb1, k2⟩; have BA : Hid (I.BoxR w.heap.size w2 b c 3 [x]) := hb1; have K2 := Lib.hid k2; clear hb1 k2)
    | (go_at_call 11; (with_reducible refine CN.out.mono ?_); rintro e w1 ⟨b, c, rfl, hb0, k1⟩; have B0 := Lib.hid hb0; have K1 := Lib.hid k1; clear hb0 k1))
  go_ret
  have hg : w1.grownBy w7 (some c) := grownBy_trans K2.out (grownBy_trans K3.out (grownBy_trans (grownBy_of_below _ K4.out) (grownBy_trans (grownBy_of_below _ K5'.out) (grownBy_trans (grownBy_of_below _ K5.out) (grownBy_trans (grownBy_of_below _ K6.out) (grownBy_of_below _ K7.out))))))
  exact ⟨rfl, K1.out.trans (below_of_grown hg B0.out.lt.2.1 K1.out.size)⟩
end Go.Proofs.Ytlhdhgagglpphaa.Bx
