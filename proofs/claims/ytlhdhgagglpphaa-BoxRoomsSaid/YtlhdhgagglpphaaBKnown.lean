/-
  The law's fixed question answers true. Conditions: none.
-/
import Derived.Test.YtlhdhgagglpphaaBAllI
namespace Go.Proofs.Ytlhdhgagglpphaa.Bx
open Go.RowKit Go.Conc I

theorem fill_known (n0 : Nat) (w : World) (b c : Nat) (h : I.BoxR n0 w b c 2 []) : Calls Try.prog 19 #[.pointer (some ⟨b, 0, none⟩), .slice (some ⟨w.heap.size, 0, none⟩) 3 3] (w.alloc (.cells #[.int .i64 5, .int .i64 6, .int .i64 7] 3)) fun e w' =>
    e = .returned (.int .i64 2) ∧ I.BoxR n0 w' b c 2 [5, 6] ∧ w.grownBy w' (some c) := by
  have hl := h.lt
  have hb := block_new w (.cells #[.int .i64 5, .int .i64 6, .int .i64 7] 3)
  refine (fill_any n0 (w.alloc (.cells #[.int .i64 5, .int .i64 6, .int .i64 7] 3)) b c 2 [] (h.alloc _) (by simp) (by omega) w.heap.size 3 [5, 6, 7] (by omega) (by simp) (by simp) (fun i x hi => ?_)).mono fun e w' ⟨h1, h2, h3⟩ => ⟨h1, h2, grownBy_trans (grownBy_alloc _ _ _) h3⟩
  rcases i with _ | _ | _ | i
  · simp at hi; subst hi; simp only [World.cell?, hb, ev]; rfl
  · simp at hi; subst hi; simp only [World.cell?, hb, ev]; rfl
  · simp at hi; subst hi; simp only [World.cell?, hb, ev]; rfl
  · simp at hi
theorem two_own (w : World) (x y : Int) : (w.alloc (.cells #[.int .i64 x, .int .i64 y] 3)).ownsRow w.heap.size 3 1 (.slice (some ⟨w.heap.size, 0, none⟩) 2 2) 2 ([x, y].map ev) :=
  ⟨by simp, .inr ⟨w.heap.size, 2, #[.int .i64 x, .int .i64 y], rfl, Nat.le_refl _, heap_alloc_new w _, Nat.le_refl _, by unfold maxLen; omega, rfl, by simp [ev]⟩⟩

set_option maxRecDepth 100000 in
set_option maxHeartbeats 4000000 in
theorem known_any (w : World) : Calls Try.prog 7 #[] w fun e w' => e = .returned (.bool true) ∧ Below w.heap.size w w' := by
  have CN : Hid (Calls Try.prog 11 #[.int .i64 2] w fun e w' => ∃ b c, e = .returned (.tuple #[.pointer (some ⟨b, 0, none⟩), .int .i64 0]) ∧ I.BoxR w.heap.size w' b c 2 [] ∧ Below w.heap.size w w') := new_any w 2 (by omega) (by omega)
  go_enter Try.func7, Try.ntmps7
  go_wp2_with (first
    | (go_at_call 21; refine (same_eq (w8.alloc (.cells #[.int .i64 6, .int .i64 7] 3)) w7.heap.size w8.heap.size v8 _ [6, 7] (O8.out.alloc _) (two_own w8 6 7) (by simp) (by simp)).mono ?_; rintro e w9 ⟨rfl, k9⟩
       have K9 : Hid (w8.grownBy w9 (some c)) := grownBy_trans (grownBy_alloc _ _ _) (grownBy_of_below _ k9); clear k9)
    | (go_at_call 18; refine (all_any _ w7 b c 2 [6, 7] B7.out (by simp) (by omega)).mono ?_; rintro e w8 ⟨v8, rfl, ho8, hb8, k8⟩; have B8 := Lib.hid hb8; have K8 := Lib.hid k8; have O8 := Lib.hid ho8; clear hb8 k8 ho8)
    | (go_at_call 21; refine (same_eq (w6.alloc (.cells #[.int .i64 6, .int .i64 7] 3)) w5.heap.size w6.heap.size v6 _ [6, 7] (O6.out.alloc _) (two_own w6 6 7) (by simp) (by simp)).mono ?_; rintro e w7 ⟨rfl, k7⟩
       have B7 : Hid (I.BoxR w.heap.size w7 b c 2 [6, 7]) := (B5.out.alloc _).kept k7; have K7 : Hid (w6.grownBy w7 (some c)) := grownBy_trans (grownBy_alloc _ _ _) (grownBy_of_below _ k7); clear k7)
    | (go_at_call 18; refine (all_any _ w5 b c 2 [6, 7] B4.out (by simp) (by omega)).mono ?_; rintro e w6 ⟨v6, rfl, ho6, hb5, k6⟩; have B5 := Lib.hid hb5; have K6 := Lib.hid k6; have O6 := Lib.hid ho6; clear hb5 k6 ho6
       have Z6 : w5.heap.size ≤ w6.heap.size := K6.out.size)
    | (go_at_call 12; refine (put_room _ w4 b c 2 [6] 7 B3.out (by simp)).mono ?_; rintro e w5 ⟨rfl, hb4, k5⟩; have B4 : Hid (I.BoxR w.heap.size w5 b c 2 [6, 7]) := hb4; have K5 := Lib.hid k5; clear hb4 k5)
    | (go_at_call 13; refine (take_some _ w3 b c 2 5 [6] B2.out).mono ?_; rintro e w4 ⟨rfl, hb3, k4⟩; have B3 := Lib.hid hb3; have K4 := Lib.hid k4; clear hb3 k4)
    | (go_at_call 12; refine (put_full _ w2 b c 2 [5, 6] 7 B1.out (by simp)).mono ?_; rintro e w3 ⟨rfl, hb2, k3⟩; have B2 := Lib.hid hb2; have K3 := Lib.hid k3; clear hb2 k3)
    | (go_at_call 19; refine (fill_known _ w1 b c B0.out).mono ?_; rintro e w2 ⟨rfl, hb1, k2⟩; have B1 := Lib.hid hb1; have K2 := Lib.hid k2; clear hb1 k2)
    | (go_at_call 11; refine CN.out.mono ?_; rintro e w1 ⟨b, c, rfl, hb0, k1⟩; have B0 := Lib.hid hb0; have K1 := Lib.hid k1; clear hb0 k1))
  go_ret
  have hg : w1.grownBy w9 (some c) := grownBy_trans K2.out (grownBy_trans (grownBy_of_below _ K3.out) (grownBy_trans K4.out (grownBy_trans K5.out (grownBy_trans K6.out (grownBy_trans K7.out (grownBy_trans K8.out K9.out))))))
  exact ⟨rfl, K1.out.trans (below_of_grown hg B0.out.lt.2.1 K1.out.size)⟩
end Go.Proofs.Ytlhdhgagglpphaa.Bx
