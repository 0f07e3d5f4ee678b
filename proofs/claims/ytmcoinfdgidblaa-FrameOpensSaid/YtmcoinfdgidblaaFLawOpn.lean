/-
  FrameOpens answers true for all bytes. Conditions: none.
-/
import Derived.Test.YtmcoinfdgidblaaFAt
import Derived.Test.YtmcoinfdgidblaaFRef
namespace Go.Proofs.Ytmcoinfdgidblaa.Fr
open Go.RowKit

theorem rnext_at (w : World) (v : Value) (L B : List Int) (k N : Nat) (E : Int) (h : BAt w v L) (hb : bok L) (hn : L.length ≤ 2000000) (hr : NxR L B k N E) :
    Calls Try.prog 16 #[v] w fun e w' => ∃ A c, e = .returned (.tuple #[.slice A k c, .int .i64 (N : Int), .int .i64 E]) ∧ BAt w' (.slice A k c) B ∧ Below w.heap.size w w' :=
  (rnext_any w v L h hb hn).mono fun e w' ⟨h1, h2⟩ => by
    obtain ⟨A, c, h3, h4⟩ := hr.fst h1
    exact ⟨A, c, h3, h4, h2⟩
theorem NxR.bad {L B : List Int} {k N : Nat} {E : Int} (h : NxR L B k N E) (h0 : ¬ E = 0) : opE L = E ∧ opB L = [] := by
  have h1 : opE L = E := by unfold opE; rw [if_neg (fun h2 => h0 (by rw [← h.e]; exact h2.1)), h.e]
  exact ⟨h1, if_neg (by rw [h1]; exact h0)⟩
theorem NxR.more {L B : List Int} {k N : Nat} {E : Int} (h : NxR L B k N E) (h0 : E = 0) (h1 : N < L.length) : opE L = 3 ∧ opB L = [] := by
  have h2 : nxE L = 0 := by rw [h.e]; exact h0
  have h3 : nxN L = nn L + 8 := if_pos h2
  have h4 : opE L = 3 := by unfold opE; rw [if_pos ⟨h2, by rw [← h3, h.n]; exact h1⟩]
  exact ⟨h4, if_neg (by rw [h4]; decide)⟩
theorem NxR.good {L B : List Int} {k N : Nat} {E : Int} (h : NxR L B k N E) (h0 : E = 0) (h1 : ¬ N < L.length) : opE L = 0 ∧ opB L = B := by
  have h2 : nxE L = 0 := by rw [h.e]; exact h0
  have h3 : nxN L = nn L + 8 := if_pos h2
  have h4 : opE L = 0 := by unfold opE; rw [if_neg (fun h5 => h1 (by rw [← h.n, h3]; exact h5.2)), h2]
  refine ⟨h4, ?_⟩
  unfold opB
  rw [if_pos h4, ← h.b]
  exact (if_pos h2).symm
theorem NxR.small {L B : List Int} {k N : Nat} {E : Int} (h : NxR L B k N E) : k ≤ L.length := by
  rw [← h.k, ← h.b]
  unfold nxB
  split
  · rw [List.length_take, List.length_drop]; omega
  · simp

set_option maxRecDepth 100000 in
set_option maxHeartbeats 8000000 in
theorem law_opens_at (w : World) (A : Option Addr) (n c m : Nat) (L B OB : List Int) (k N ok : Nat) (E OE : Int) (hmin : (if (600 : Int) < (n : Int) then 600 else (n : Int)) = (m : Int)) (hm : m ≤ 600) (hmc : m ≤ c) (h : BAt w (.slice A m c) L) (hb : bok L) (hR : NxR L B k N E) (hOB : opB L = OB) (hok : OB.length = ok) (hOE : opE L = OE)
    (hw : (¬ E = 0 ∧ OE = E ∧ ok = 0) ∨ (E = 0 ∧ N < m ∧ OE = 3 ∧ ok = 0) ∨ (E = 0 ∧ ¬ N < m ∧ OE = 0 ∧ ok = k ∧ OB = B)) :
    Calls Try.prog 4 #[.slice A n c] w fun e w' => e = .returned (.bool true) ∧ Below w.heap.size w w' := by
  have hs := slice_to A n c m hmc
  have hl := h.len.1
  have hks := hR.small
  have HD : Hid (bok L ∧ L.length ≤ 2000000 ∧ m ≤ 2000000 ∧ B.length = k ∧ k ≤ 2000000) := ⟨hb, by omega, by omega, hR.k, by omega⟩
  have HT := Lib.hid h
  have HN := Lib.hid (next_at w _ L B k N E h hb (by omega) hR)
  have HR := Lib.hid hR
  have HO : Hid (opB L = OB ∧ OB.length = ok ∧ opE L = OE) := ⟨hOB, hok, hOE⟩
  clear h hb hR hOB hok hOE hl hks
  rcases hw with ⟨h1, h2, h3⟩ | ⟨h1, h2, h3, h4⟩ | ⟨h1, h2, h3, h4, h5⟩
  · subst h2 h3
    go_enter Try.func4, Try.ntmps4
    go_wp2_with (first
      | (go_at_call 13; (with_reducible refine (same_at w5 _ _ _ HZ5.out HY5.out k HD.out.2.2.2.1 HD.out.2.2.2.2).mono ?_); rintro e w6 ⟨rfl, b6⟩
         have B6 := Lib.hid (B5.out.trans (b6.mono B5.out.size))
         clear b6)
      | (go_at_call 13; (with_reducible refine (same_at w4 _ _ _ HX4.out HY4.out k HD.out.2.2.2.1 HD.out.2.2.2.2).mono ?_); rintro e w5 ⟨rfl, b5⟩
         have HZ5 := Lib.hid (HZ4.out.kept b5)
         have HY5 := Lib.hid (HY4.out.kept b5)
         have B5 := Lib.hid (B4.out.trans (b5.mono B4.out.size))
         clear b5)
      | (go_at_call 10; (with_reducible refine (known_any w3).mono ?_); rintro e w4 ⟨rfl, b4⟩
         have HX4 := Lib.hid (HX3.out.kept b4)
         have HY4 := Lib.hid (HY3.out.kept b4)
         have HZ4 := Lib.hid (HZ3.out.kept b4)
         have B4 := Lib.hid (B3.out.trans (b4.mono B3.out.size))
         clear b4)
      | (go_at_call 9; (with_reducible refine (open_at w2 _ _ _ _ _ L _ (HT.out.kept B2.out) HD.out.1 HD.out.2.2.1 HO.out.1 HO.out.2.1 HO.out.2.2).mono ?_); rintro e w3 ⟨A3, c3, rfl, ha3, b3⟩
         have HX3 := Lib.hid (HX2.out.kept b3)
         have HY3 := Lib.hid (HY2.out.kept b3)
         have HZ3 := Lib.hid ha3
         have B3 := Lib.hid (B2.out.trans (b3.mono B2.out.size))
         clear ha3 b3)
      | (go_at_call 16; (with_reducible refine (rnext_at w1 _ L B k N _ (HT.out.kept B1.out) HD.out.1 HD.out.2.1 HR.out).mono ?_); rintro e w2 ⟨A2, c2, rfl, ha2, b2⟩
         have HX2 := Lib.hid (HX1.out.kept b2)
         have HY2 := Lib.hid ha2
         have B2 := Lib.hid (B1.out.trans (b2.mono B1.out.size))
         clear ha2 b2)
      | (go_at_call 15; (with_reducible refine HN.out.mono ?_); rintro e w1 ⟨A1, c1, rfl, ha1, b1⟩
         have HX1 := Lib.hid ha1
         have B1 := Lib.hid b1
         clear ha1 b1))
    go_ret
    exact ⟨rfl, B5.out⟩
  · subst h1 h3 h4
    have t1 : (N : Int) < (m : Int) := by omega
    go_enter Try.func4, Try.ntmps4
    go_wp2_with (first
      | (go_at_call 13; (with_reducible refine (same_at w5 _ _ _ HZ5.out HY5.out k HD.out.2.2.2.1 HD.out.2.2.2.2).mono ?_); rintro e w6 ⟨rfl, b6⟩
         have B6 := Lib.hid (B5.out.trans (b6.mono B5.out.size))
         clear b6)
      | (go_at_call 13; (with_reducible refine (same_at w4 _ _ _ HX4.out HY4.out k HD.out.2.2.2.1 HD.out.2.2.2.2).mono ?_); rintro e w5 ⟨rfl, b5⟩
         have HZ5 := Lib.hid (HZ4.out.kept b5)
         have HY5 := Lib.hid (HY4.out.kept b5)
         have B5 := Lib.hid (B4.out.trans (b5.mono B4.out.size))
         clear b5)
      | (go_at_call 10; (with_reducible refine (known_any w3).mono ?_); rintro e w4 ⟨rfl, b4⟩
         have HX4 := Lib.hid (HX3.out.kept b4)
         have HY4 := Lib.hid (HY3.out.kept b4)
         have HZ4 := Lib.hid (HZ3.out.kept b4)
         have B4 := Lib.hid (B3.out.trans (b4.mono B3.out.size))
         clear b4)
      | (go_at_call 9; (with_reducible refine (open_at w2 _ _ _ _ _ L _ (HT.out.kept B2.out) HD.out.1 HD.out.2.2.1 HO.out.1 HO.out.2.1 HO.out.2.2).mono ?_); rintro e w3 ⟨A3, c3, rfl, ha3, b3⟩
         have HX3 := Lib.hid (HX2.out.kept b3)
         have HY3 := Lib.hid (HY2.out.kept b3)
         have HZ3 := Lib.hid ha3
         have B3 := Lib.hid (B2.out.trans (b3.mono B2.out.size))
         clear ha3 b3)
      | (go_at_call 16; (with_reducible refine (rnext_at w1 _ L B k N _ (HT.out.kept B1.out) HD.out.1 HD.out.2.1 HR.out).mono ?_); rintro e w2 ⟨A2, c2, rfl, ha2, b2⟩
         have HX2 := Lib.hid (HX1.out.kept b2)
         have HY2 := Lib.hid ha2
         have B2 := Lib.hid (B1.out.trans (b2.mono B1.out.size))
         clear ha2 b2)
      | (go_at_call 15; (with_reducible refine HN.out.mono ?_); rintro e w1 ⟨A1, c1, rfl, ha1, b1⟩
         have HX1 := Lib.hid ha1
         have B1 := Lib.hid b1
         clear ha1 b1))
    go_ret
    exact ⟨rfl, B5.out⟩
  · have h4' := h4.symm
    have h5' := h5.symm
    subst h1 h3 h4' h5'
    have t1 : ¬ (N : Int) < (m : Int) := by omega
    go_enter Try.func4, Try.ntmps4
    go_wp2_with (first
      | (go_at_call 13; (with_reducible refine (same_at w5 _ _ _ HZ5.out HY5.out k HD.out.2.2.2.1 HD.out.2.2.2.2).mono ?_); rintro e w6 ⟨rfl, b6⟩
         have B6 := Lib.hid (B5.out.trans (b6.mono B5.out.size))
         clear b6)
      | (go_at_call 13; (with_reducible refine (same_at w4 _ _ _ HX4.out HY4.out k HD.out.2.2.2.1 HD.out.2.2.2.2).mono ?_); rintro e w5 ⟨rfl, b5⟩
         have HZ5 := Lib.hid (HZ4.out.kept b5)
         have HY5 := Lib.hid (HY4.out.kept b5)
         have B5 := Lib.hid (B4.out.trans (b5.mono B4.out.size))
         clear b5)
      | (go_at_call 10; (with_reducible refine (known_any w3).mono ?_); rintro e w4 ⟨rfl, b4⟩
         have HX4 := Lib.hid (HX3.out.kept b4)
         have HY4 := Lib.hid (HY3.out.kept b4)
         have HZ4 := Lib.hid (HZ3.out.kept b4)
         have B4 := Lib.hid (B3.out.trans (b4.mono B3.out.size))
         clear b4)
      | (go_at_call 9; (with_reducible refine (open_at w2 _ _ _ _ _ L _ (HT.out.kept B2.out) HD.out.1 HD.out.2.2.1 HO.out.1 HO.out.2.1 HO.out.2.2).mono ?_); rintro e w3 ⟨A3, c3, rfl, ha3, b3⟩
         have HX3 := Lib.hid (HX2.out.kept b3)
         have HY3 := Lib.hid (HY2.out.kept b3)
         have HZ3 := Lib.hid ha3
         have B3 := Lib.hid (B2.out.trans (b3.mono B2.out.size))
         clear ha3 b3)
      | (go_at_call 16; (with_reducible refine (rnext_at w1 _ L B k N _ (HT.out.kept B1.out) HD.out.1 HD.out.2.1 HR.out).mono ?_); rintro e w2 ⟨A2, c2, rfl, ha2, b2⟩
         have HX2 := Lib.hid (HX1.out.kept b2)
         have HY2 := Lib.hid ha2
         have B2 := Lib.hid (B1.out.trans (b2.mono B1.out.size))
         clear ha2 b2)
      | (go_at_call 15; (with_reducible refine HN.out.mono ?_); rintro e w1 ⟨A1, c1, rfl, ha1, b1⟩
         have HX1 := Lib.hid ha1
         have B1 := Lib.hid b1
         clear ha1 b1))
    go_ret
    exact ⟨rfl, B6.out⟩
theorem law_opens (w : World) (A : Option Addr) (n c : Nat) (l : List Int) (h : BAt w (.slice A n c) l) (hb : bok l) :
    Calls Try.prog 4 #[.slice A n c] w fun e w' => e = .returned (.bool true) ∧ Below w.heap.size w w' := by
  obtain ⟨m, hm⟩ : ∃ m, m = min n 600 := ⟨_, rfl⟩
  have hcap := h.len.2
  have htk := (h.take m (by omega)).1
  have hlm := (h.take m (by omega)).2.1
  have hmin : (if (600 : Int) < (n : Int) then 600 else (n : Int)) = (m : Int) := by split <;> omega
  obtain ⟨B, k, N, E, hR⟩ := nx_some (l.take m)
  by_cases hE : E = 0
  · by_cases hN : N < (l.take m).length
    · obtain ⟨h1, h2⟩ := hR.more hE hN
      exact law_opens_at w A n c m _ B _ k N 0 E _ hmin (by omega) (by omega) htk (bok_take hb m) hR h2 rfl h1 (.inr (.inl ⟨hE, by omega, rfl, rfl⟩))
    · obtain ⟨h1, h2⟩ := hR.good hE hN
      exact law_opens_at w A n c m _ B _ k N k E _ hmin (by omega) (by omega) htk (bok_take hb m) hR h2 hR.k h1 (.inr (.inr ⟨hE, by omega, rfl, rfl, rfl⟩))
  · obtain ⟨h1, h2⟩ := hR.bad hE
    exact law_opens_at w A n c m _ B _ k N 0 E _ hmin (by omega) (by omega) htk (bok_take hb m) hR h2 rfl h1 (.inl ⟨hE, rfl, rfl⟩)
end Go.Proofs.Ytmcoinfdgidblaa.Fr
