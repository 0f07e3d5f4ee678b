/-
  FrameBent answers true for all bytes, every place and every byte. Conditions: the parameters' own ranges.
-/
import Derived.Test.YtmcoinfdgidblaaFAt
namespace Go.Proofs.Ytmcoinfdgidblaa.Fr
open Go.RowKit

set_option maxRecDepth 100000 in
set_option maxHeartbeats 8000000 in
theorem law_bent (w : World) (A : Option Addr) (n c : Nat) (l : List Int) (h : BAt w (.slice A n c) l) (hb : bok l) (x y : Int) (hy : 0 ≤ y ∧ y < 256) :
    Calls Try.prog 6 #[.slice A n c, .int .i64 x, .int .u8 y] w fun e w' => e = .returned (.bool true) ∧ Below w.heap.size w w' := by
  obtain ⟨m, hm⟩ : ∃ m, m = min n 500 := ⟨_, rfl⟩
  have hcap := h.len.2
  have hs := slice_to A n c m (by omega)
  have htk := (h.take m (by omega)).1
  have hlm := (h.take m (by omega)).2.1
  obtain ⟨L, hL⟩ : ∃ L, L = l.take m := ⟨_, rfl⟩
  rw [← hL] at htk hlm
  have hbL : bok L := by rw [hL]; exact bok_take hb m
  have hmin : (if (500 : Int) < (n : Int) then 500 else (n : Int)) = (m : Int) := by split <;> omega
  obtain ⟨q, hq⟩ : ∃ q, q = m + 8 := ⟨_, rfl⟩
  obtain ⟨F, hF⟩ : ∃ F, F = frF L := ⟨_, rfl⟩
  have hFl : F.length = q := by rw [hF, frF_len, hlm, hq]
  have hFb : bok F := by rw [hF]; exact frF_bok hbL
  obtain ⟨a, ha⟩ : ∃ a : Nat, (a : Int) = (IntKind.u64.wrap x).tmod (q : Int) := ⟨((IntKind.u64.wrap x).tmod (q : Int)).toNat, by
    have h0 : 0 ≤ IntKind.u64.wrap x := by rw [IntKind.wrap_u64]; omega
    rw [Int.tmod_eq_emod_of_nonneg h0]; have := Int.emod_nonneg (IntKind.u64.wrap x) (b := (q : Int)) (by omega); omega⟩
  have haq : a < q := by
    have h0 : 0 ≤ IntKind.u64.wrap x := by rw [IntKind.wrap_u64]; omega
    rw [Int.tmod_eq_emod_of_nonneg h0] at ha
    have := Int.emod_lt_of_pos (IntKind.u64.wrap x) (b := (q : Int)) (by omega)
    omega
  obtain ⟨G, hG⟩ : ∃ G, G = bend F (a : Int) y := ⟨_, rfl⟩
  have hGl : G.length = q := by rw [hG, bend_len, hFl]
  have hGb : bok G := by rw [hG]; exact bend_bok hFb _ hy
  have hGF : bend G (a : Int) y = F := by rw [hG]; exact bend_twice hFb _ hy
  have hFq : bend F (q : Int) y = F := bend_out (by omega)
  have hF1 : bend F (-1) y = F := bend_out (by omega)
  obtain ⟨E, hE⟩ : ∃ E, E = opE G := ⟨_, rfl⟩
  obtain ⟨k, hk⟩ : ∃ k, k = (opB G).length := ⟨_, rfl⟩
  have hFE : opE F = 0 := by rw [hF]; exact frF_opE (by omega)
  have hFB : opB F = L := by rw [hF]; exact frF_opB (by omega)
  have hEE : E = 0 ↔ y = 0 := by
    refine ⟨fun h0 => Classical.byContradiction fun hne => ?_, fun h0 => ?_⟩
    · refine bend_none hbL (by omega) (a := (a : Int)) (b := y) (by rw [← hF]; omega) hy hne ?_
      rw [← hF, ← hG, ← hE]; exact h0
    · rw [hE, hG, h0, bend_zero hFb, hFE]
  have e1 : (m : Int) + 8 = (q : Int) := by omega
  have e2 : IntKind.u64.wrap (q : Int) = (q : Int) := by rw [IntKind.wrap_u64]; omega
  have e3 := ha.symm
  have e4 : IntKind.i64.wrap (a : Int) = (a : Int) := by rw [IntKind.wrap_i64]; omega
  have b1 : q ≤ 508 := by omega
  have hq0 : ¬ (q : Int) = 0 := by omega
  have HM := Lib.hid (make_at w A m c q L htk hbL (by omega) hq)
  have HT := Lib.hid htk
  have HD : Hid (F = frF L ∧ bok F ∧ bok G ∧ F.length = q ∧ L.length = m ∧ q ≤ 2000000 ∧ m ≤ 2000000) := ⟨hF, hFb, hGb, hFl, hlm, by omega, by omega⟩
  have HG := Lib.hid hG.symm
  have HGF := Lib.hid hGF
  have HFq := Lib.hid hFq
  have HF1 := Lib.hid hF1
  have HO1 : Hid (k = (opB G).length ∧ E = opE G) := ⟨hk, hE⟩
  have HO2 : Hid (opB F = L ∧ opE F = 0) := ⟨hFB, hFE⟩
  have HY := Lib.hid hy
  have hm2 : m ≤ 500 := by omega
  clear h hb hcap htk hlm hL hbL hm hq hF hFl hFb ha hG hGl hGb hGF hFq hF1 hE hk hFE hFB hy
  by_cases hy0 : y = 0
  · have hE0 := hEE.2 hy0
    subst hE0 hy0
    clear hEE
    go_enter Try.func6, Try.ntmps6
    go_wp2_with (first
      | (go_at_call 13; (with_reducible refine (same_at w10 _ _ F HA10.out HF10.out q HD.out.2.2.2.1 HD.out.2.2.2.2.2.1).mono ?_); rintro e w11 ⟨rfl, b11⟩
         have B11 := Lib.hid (B10.out.trans (b11.mono B10.out.size))
         clear b11)
      | (go_at_call 20; (with_reducible refine (bend_at w9 _ _ _ _ _ F F HF9.out HD.out.2.1 HD.out.2.2.2.2.2.1 HY.out HF1.out).mono ?_); rintro e w10 ⟨A10, c10, rfl, ha10, b10⟩
         have HA10 := Lib.hid ha10
         have HF10 := Lib.hid (HF9.out.kept b10)
         have B10 := Lib.hid (B9.out.trans (b10.mono B9.out.size))
         clear ha10 b10)
      | (go_at_call 13; (with_reducible refine (same_at w8 _ _ F HA8.out HF8.out q HD.out.2.2.2.1 HD.out.2.2.2.2.2.1).mono ?_); rintro e w9 ⟨rfl, b9⟩
         have HF9 := Lib.hid (HF8.out.kept b9)
         have B9 := Lib.hid (B8.out.trans (b9.mono B8.out.size))
         clear b9)
      | (go_at_call 13; (with_reducible refine (same_at w7 _ _ L HL7.out (HT.out.kept B7.out) m HD.out.2.2.2.2.1 HD.out.2.2.2.2.2.2).mono ?_); rintro e w8 ⟨rfl, b8⟩
         have HF8 := Lib.hid (HF7.out.kept b8)
         have HA8 := Lib.hid (HA7.out.kept b8)
         have B8 := Lib.hid (B7.out.trans (b8.mono B7.out.size))
         clear b8)
      | (go_at_call 10; (with_reducible refine (known_any w6).mono ?_); rintro e w7 ⟨rfl, b7⟩
         have HF7 := Lib.hid (HF6.out.kept b7)
         have HA7 := Lib.hid (HA6.out.kept b7)
         have HL7 := Lib.hid ((HL5.out.kept b6).kept b7)
         have B7 := Lib.hid ((B5.out.trans (b6.mono B5.out.size)).trans (b7.mono (B5.out.trans (b6.mono B5.out.size)).size))
         clear b6 b7)
      | (go_at_call 20; (with_reducible refine (bend_at w5 _ _ _ _ _ F F HF5.out HD.out.2.1 HD.out.2.2.2.2.2.1 HY.out HFq.out).mono ?_); rintro e w6 ⟨A6, c6, rfl, ha6, b6⟩
         have HA6 := Lib.hid ha6
         have HF6 := Lib.hid (HF5.out.kept b6)
         clear ha6)
      | (go_at_call 9; (with_reducible refine (open_at w4 _ _ _ m 0 F L HA4.out HD.out.2.1 HD.out.2.2.2.2.2.1 HO2.out.1 HD.out.2.2.2.2.1 HO2.out.2).mono ?_); rintro e w5 ⟨A5, c5, rfl, ha5, b5⟩
         have HL5 := Lib.hid ha5
         have HF5 := Lib.hid (HF4.out.kept b5)
         have B5 := Lib.hid (B4.out.trans (b5.mono B4.out.size))
         clear ha5 b5)
      | (go_at_call 20; (with_reducible refine (bend_at w3 _ _ _ _ _ G F HG3.out HD.out.2.2.1 HD.out.2.2.2.2.2.1 HY.out HGF.out).mono ?_); rintro e w4 ⟨A4, c4, rfl, ha4, b4⟩
         have HA4 := Lib.hid ha4
         have HF4 := Lib.hid (HF3.out.kept b4)
         have B4 := Lib.hid (B3.out.trans (b4.mono B3.out.size))
         clear ha4 b4)
      | (go_at_call 9; (with_reducible refine (open_at w2 _ _ _ k _ G _ HG2.out HD.out.2.2.1 HD.out.2.2.2.2.2.1 rfl HO1.out.1.symm HO1.out.2.symm).mono ?_); rintro e w3 ⟨A3, c3, rfl, _, b3⟩
         have HG3 := Lib.hid (HG2.out.kept b3)
         have HF3 := Lib.hid ((HF1w.out.kept b2).kept b3)
         have B3 := Lib.hid ((B1.out.trans (b2.mono B1.out.size)).trans (b3.mono (B1.out.trans (b2.mono B1.out.size)).size))
         clear b2 b3)
      | (go_at_call 20; (with_reducible refine (bend_at w1 _ _ _ _ _ F G HF1w.out HD.out.2.1 HD.out.2.2.2.2.2.1 HY.out HG.out).mono ?_); rintro e w2 ⟨A2, c2, rfl, ha2, b2⟩
         have HG2 := Lib.hid ha2
         clear ha2)
      | (go_at_call 8; refine HM.out.mono ?_; rintro e w1 ⟨A1, c1, rfl, ha1, b1w⟩
         rw [← HD.out.1] at ha1
         have HF1w := Lib.hid ha1
         have B1 := Lib.hid b1w
         clear ha1 b1w))
    go_ret
    exact ⟨rfl, B11.out⟩
  · have hE0 : ¬ E = 0 := fun h => hy0 (hEE.1 h)
    have he : (E == 0) = (y == 0) := by rw [beq_eq_false_iff_ne.2 hE0, beq_eq_false_iff_ne.2 hy0]
    clear hEE
    go_enter Try.func6, Try.ntmps6
    go_wp2_with (first
      | (go_at_call 13; (with_reducible refine (same_at w10 _ _ F HA10.out HF10.out q HD.out.2.2.2.1 HD.out.2.2.2.2.2.1).mono ?_); rintro e w11 ⟨rfl, b11⟩
         have B11 := Lib.hid (B10.out.trans (b11.mono B10.out.size))
         clear b11)
      | (go_at_call 20; (with_reducible refine (bend_at w9 _ _ _ _ _ F F HF9.out HD.out.2.1 HD.out.2.2.2.2.2.1 HY.out HF1.out).mono ?_); rintro e w10 ⟨A10, c10, rfl, ha10, b10⟩
         have HA10 := Lib.hid ha10
         have HF10 := Lib.hid (HF9.out.kept b10)
         have B10 := Lib.hid (B9.out.trans (b10.mono B9.out.size))
         clear ha10 b10)
      | (go_at_call 13; (with_reducible refine (same_at w8 _ _ F HA8.out HF8.out q HD.out.2.2.2.1 HD.out.2.2.2.2.2.1).mono ?_); rintro e w9 ⟨rfl, b9⟩
         have HF9 := Lib.hid (HF8.out.kept b9)
         have B9 := Lib.hid (B8.out.trans (b9.mono B8.out.size))
         clear b9)
      | (go_at_call 13; (with_reducible refine (same_at w7 _ _ L HL7.out (HT.out.kept B7.out) m HD.out.2.2.2.2.1 HD.out.2.2.2.2.2.2).mono ?_); rintro e w8 ⟨rfl, b8⟩
         have HF8 := Lib.hid (HF7.out.kept b8)
         have HA8 := Lib.hid (HA7.out.kept b8)
         have B8 := Lib.hid (B7.out.trans (b8.mono B7.out.size))
         clear b8)
      | (go_at_call 10; (with_reducible refine (known_any w6).mono ?_); rintro e w7 ⟨rfl, b7⟩
         have HF7 := Lib.hid (HF6.out.kept b7)
         have HA7 := Lib.hid (HA6.out.kept b7)
         have HL7 := Lib.hid ((HL5.out.kept b6).kept b7)
         have B7 := Lib.hid ((B5.out.trans (b6.mono B5.out.size)).trans (b7.mono (B5.out.trans (b6.mono B5.out.size)).size))
         clear b6 b7)
      | (go_at_call 20; (with_reducible refine (bend_at w5 _ _ _ _ _ F F HF5.out HD.out.2.1 HD.out.2.2.2.2.2.1 HY.out HFq.out).mono ?_); rintro e w6 ⟨A6, c6, rfl, ha6, b6⟩
         have HA6 := Lib.hid ha6
         have HF6 := Lib.hid (HF5.out.kept b6)
         clear ha6)
      | (go_at_call 9; (with_reducible refine (open_at w4 _ _ _ m 0 F L HA4.out HD.out.2.1 HD.out.2.2.2.2.2.1 HO2.out.1 HD.out.2.2.2.2.1 HO2.out.2).mono ?_); rintro e w5 ⟨A5, c5, rfl, ha5, b5⟩
         have HL5 := Lib.hid ha5
         have HF5 := Lib.hid (HF4.out.kept b5)
         have B5 := Lib.hid (B4.out.trans (b5.mono B4.out.size))
         clear ha5 b5)
      | (go_at_call 20; (with_reducible refine (bend_at w3 _ _ _ _ _ G F HG3.out HD.out.2.2.1 HD.out.2.2.2.2.2.1 HY.out HGF.out).mono ?_); rintro e w4 ⟨A4, c4, rfl, ha4, b4⟩
         have HA4 := Lib.hid ha4
         have HF4 := Lib.hid (HF3.out.kept b4)
         have B4 := Lib.hid (B3.out.trans (b4.mono B3.out.size))
         clear ha4 b4)
      | (go_at_call 9; (with_reducible refine (open_at w2 _ _ _ k _ G _ HG2.out HD.out.2.2.1 HD.out.2.2.2.2.2.1 rfl HO1.out.1.symm HO1.out.2.symm).mono ?_); rintro e w3 ⟨A3, c3, rfl, _, b3⟩
         have HG3 := Lib.hid (HG2.out.kept b3)
         have HF3 := Lib.hid ((HF1w.out.kept b2).kept b3)
         have B3 := Lib.hid ((B1.out.trans (b2.mono B1.out.size)).trans (b3.mono (B1.out.trans (b2.mono B1.out.size)).size))
         clear b2 b3)
      | (go_at_call 20; (with_reducible refine (bend_at w1 _ _ _ _ _ F G HF1w.out HD.out.2.1 HD.out.2.2.2.2.2.1 HY.out HG.out).mono ?_); rintro e w2 ⟨A2, c2, rfl, ha2, b2⟩
         have HG2 := Lib.hid ha2
         clear ha2)
      | (go_at_call 8; refine HM.out.mono ?_; rintro e w1 ⟨A1, c1, rfl, ha1, b1w⟩
         rw [← HD.out.1] at ha1
         have HF1w := Lib.hid ha1
         have B1 := Lib.hid b1w
         clear ha1 b1w))
    go_ret
    exact ⟨rfl, B11.out⟩
end Go.Proofs.Ytmcoinfdgidblaa.Fr
