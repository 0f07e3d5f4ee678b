/-
  The contract of the reader's groups. Conditions: none.
-/
import Derived.Test.YtklngdmpledgeaaPL5
namespace Go.Proofs.Ytklngdmpledgeaa.Oc
open Go.RowKit

/-- What is read of l as groups, k of them at most, the first of them the at-th: the mistake, the number, what is left. -/
def rgF : Nat → Nat → Nat → List Int → Int × Nat × List Int
  | 0, _, _, l => (3, 0, l)
  | _ + 1, _, _, [] => (12, 0, [])
  | k + 1, at', acc, x :: r => if 128 ≤ x then rgF k (at' + 1) (acc + (x - 128).toNat * 128 ^ at') r
      else if (0 < at' ∧ x = 0) ∨ (at' = 9 ∧ ¬ x = 1) then (3, 0, r) else (0, acc + x.toNat * 128 ^ at', r)
def rg (l : List Int) : Int × Nat × List Int := rgF 10 0 0 l
theorem rgF_end (k at' acc : Nat) : rgF (k + 1) at' acc [] = (12, 0, []) := rfl
theorem rgF_more {k at' acc : Nat} {x : Int} {r : List Int} (h : 128 ≤ x) : rgF (k + 1) at' acc (x :: r) = rgF k (at' + 1) (acc + (x - 128).toNat * 128 ^ at') r := by rw [rgF, if_pos h]
theorem rgF_bad {k at' acc : Nat} {x : Int} {r : List Int} (h : x < 128) (h2 : (0 < at' ∧ x = 0) ∨ (at' = 9 ∧ ¬ x = 1)) : rgF (k + 1) at' acc (x :: r) = (3, 0, r) := by rw [rgF, if_neg (by omega), if_pos h2]
theorem rgF_good {k at' acc : Nat} {x : Int} {r : List Int} (h : x < 128) (h2 : ¬ ((0 < at' ∧ x = 0) ∨ (at' = 9 ∧ ¬ x = 1))) : rgF (k + 1) at' acc (x :: r) = (0, acc + x.toNat * 128 ^ at', r) := by rw [rgF, if_neg (by omega), if_neg h2]

theorem two_pow7 (i : Nat) : (2 : Int) ^ (7 * i) = ((128 ^ i : Nat) : Int) := by
  rw [Int.pow_mul]; simp
theorem grp_val (i acc : Nat) (x : Int) (_h0 : 0 ≤ x) (hs : acc + (x % 128).toNat * 128 ^ i < 18446744073709551616) :
    IntKind.u64.wrap ((acc : Int) + IntKind.u64.wrap (x % 128 * 2 ^ (7 * i))) = ((acc + (x % 128).toNat * 128 ^ i : Nat) : Int) := by
  obtain ⟨y, hy⟩ : ∃ y, y = (x % 128).toNat := ⟨_, rfl⟩
  have hx : x % 128 = (y : Int) := by omega
  rw [hx, Int.toNat_natCast] at hs
  rw [two_pow7, hx, Int.toNat_natCast]
  obtain ⟨z, hz⟩ : ∃ z, z = y * 128 ^ i := ⟨_, rfl⟩
  rw [← hz] at hs ⊢
  rw [← Int.natCast_mul, ← hz, IntKind.wrap_u64, IntKind.wrap_u64]
  omega
/-- While groups are read: i are read. -/
def RgI (b : Nat) (w : World) (l : List Int) (i : Nat) (N : Int) (wx : World) : Prop :=
  ∃ (acc : Nat) (li : List Int), RdTo b w 0 li wx ∧ rgF (10 - i) i acc li = rg l ∧ (i ≤ 9 → N = (acc : Int) ∧ acc < 128 ^ i)
set_option maxRecDepth 100000 in
set_option maxHeartbeats 4000000 in
theorem rgroups_any (w : World) (b : Nat) (l : List Int) (v : Value) (h : RdR w b 0 l v) :
    Calls Try.prog 164 #[.pointer (some ⟨b, 0, none⟩)] w fun e w' => e = .returned (.int .u64 ((rg l).2.1 : Int)) ∧ RdTo b w (rg l).1 (rg l).2.2 w' := by
  have HI : Hid (RgI b w l 0 0 w) := ⟨0, l, RdTo.same h (Below.refl _ _), rfl, fun _ => ⟨rfl, by simp⟩⟩
  clear h
  go_enter Try.func164, Try.ntmps164
  go_wp2
  go_loopg [3, 6] 10 (fun k s3 s6 wx => ∃ (i : Nat) (N : Int), k = 10 - i ∧ i ≤ 10 ∧ s3 = .int .u64 N ∧ s6 = .int .i64 (i : Int) ∧ Hid (RgI b w l i N wx))
  case atStart => exact ⟨0, 0, rfl, by omega, rfl, rfl, HI⟩
  case round =>
    clear HI
    obtain ⟨i, N, rfl, hi, rfl, rfl, hinv⟩ := hrel
    obtain ⟨acc, li, hrd, heq, hN⟩ := hinv.out
    obtain ⟨vi, hri, hgi⟩ := hrd
    by_cases hlt : i < 10
    · have t1 : (i : Int) < 10 := by omega
      have t0 : (0 : Int) ≤ (i : Int) := by omega
      obtain ⟨hN1, hN2⟩ := hN (by omega)
      cases li with
      | nil =>
        have HB := Lib.hid (rbyte_end wr b vi hri)
        have HGI := Lib.hid hgi
        have h0l : acc < 18446744073709551616 := by
          have : (128 : Nat) ^ i ≤ 128 ^ 9 := Nat.pow_le_pow_right (by decide) (by omega)
          have e9 : (128 : Nat) ^ 9 = 9223372036854775808 := by decide
          omega
        have HRG : Hid (rg l = (12, 0, [])) := by
          show _ = _
          rw [← heq, show 10 - i = (9 - i) + 1 by omega, rgF_end]
        subst hN1
        by_cases hi0 : i = 0
        · have hacc0 : Hid (acc = 0) := by show _ = _; subst hi0; omega
          have t2 : ¬ (0 : Int) < (i : Int) := by omega
          have t3 : ¬ (i : Int) = 9 := by omega
          clear hri hgi heq hinv hN hi0
          go_wp2_with (go_at_call 182; refine HB.out.mono ?_; rintro e w1 ⟨rfl, h1⟩; have H1 := Lib.hid (RdTo.trans HGI.out h1); clear h1)
          go_ret
          rw [HRG.out]
          exact ⟨by rw [hacc0.out]; rfl, H1.out⟩
        · have t2 : (0 : Int) < (i : Int) := by omega
          clear hri hgi heq hinv hN hi0
          go_wp2_with (first
            | (go_at_call 158; refine (fail_no w1 b 12 3 (by decide) (block_cell2 HV.out.1).1.1).mono ?_; rintro e w2 ⟨rfl, rfl⟩)
            | (go_at_call 182; refine HB.out.mono ?_; rintro e w1 ⟨rfl, h1⟩; have H1 := Lib.hid (RdTo.trans HGI.out h1); obtain ⟨v1, h2, _⟩ := h1; have HV := Lib.hid h2; clear h2))
          go_ret
          rw [HRG.out]
          exact ⟨rfl, H1.out⟩
      | cons x r =>
        have HB := Lib.hid (rbyte_some wr b x r vi hri)
        obtain ⟨hx0, hx1⟩ := hri.2.2.1 x (by simp)
        have HGI := Lib.hid hgi
        have HEQ := Lib.hid heq
        have HE10 : Hid (10 - i = (9 - i) + 1) := by show _ = _; omega
        have HA := Lib.hid hN2
        have HX0 := Lib.hid hx0
        subst hN1
        clear hri hgi heq hinv hN hN2
        by_cases hbig : 128 ≤ x
        · have HI2 : Hid (∀ w1, RdTo b w 0 r w1 → RgI b w l (i + 1) (IntKind.u64.wrap ((acc : Int) + IntKind.u64.wrap (x % 128 * 2 ^ (7 * i)))) w1) := by
            intro w1 h1
            refine ⟨acc + (x - 128).toNat * 128 ^ i, r, h1, ?_, fun hi9 => ?_⟩
            · rw [← HEQ.out, HE10.out, rgF_more hbig]; congr 1; omega
            · have e1 : (x % 128).toNat = (x - 128).toNat := by omega
              have h128 : (128 : Nat) ^ (i + 1) = 128 * 128 ^ i := by rw [Nat.pow_succ]; omega
              have hle : (128 : Nat) ^ (i + 1) ≤ 128 ^ 9 := Nat.pow_le_pow_right (by decide) (by omega)
              have e9 : (128 : Nat) ^ 9 = 9223372036854775808 := by decide
              have hm : (x - 128).toNat * 128 ^ i ≤ 127 * 128 ^ i := Nat.mul_le_mul_right _ (by omega)
              have hA := HA.out
              rw [grp_val i acc x hx0 (by rw [e1]; omega), e1]
              exact ⟨rfl, by omega⟩
          go_wp2_with (go_at_call 182; refine HB.out.mono ?_; rintro e w1 ⟨rfl, h1⟩; have H1 := Lib.hid (RdTo.trans HGI.out h1); clear h1)
          go_roundg (10 - (i + 1))
          case measure => omega
          case rel => exact ⟨i + 1, _, rfl, hlt, rfl, by go_num, HI2.out _ H1.out⟩
        · have hsm : x < 128 := by omega
          by_cases hstop : (0 < i ∧ x = 0) ∨ (i = 9 ∧ ¬ x = 1)
          · have HRG : Hid (rg l = (3, 0, r)) := by
              show _ = _
              rw [← HEQ.out, HE10.out, rgF_bad hsm hstop]
            by_cases hx00 : x = 0
            · have t2 : (0 : Int) < (i : Int) := by omega
              clear hstop
              go_wp2_with (first
                | (go_at_call 158; refine (fail_set w1 b 3 (block_cell2 HV.out.1).1.1 (block_cell2 HV.out.1).2.1).mono ?_; rintro e w2 ⟨rfl, rfl⟩)
                | (go_at_call 182; refine HB.out.mono ?_; rintro e w1 ⟨rfl, v1, h2, hg2⟩; have HV := Lib.hid h2; have HG2 := Lib.hid (grownBy_trans HGI.out hg2); clear h2 hg2))
              go_ret
              rw [HRG.out]
              exact ⟨rfl, _, (rd_set1 HV.out 3).1, grownBy_trans HG2.out (rd_set1 HV.out 3).2⟩
            · have t2 : (i : Int) = 9 := by omega
              have t3 : ¬ x = 1 := by omega
              have t4 : i = 9 := by omega
              subst t4
              have b1 : (x == 0) = false := by simpa using hx00
              have b2 : (x != 1) = true := by simpa using t3
              clear hstop
              go_wp2_with (first
                | (go_at_call 158; refine (fail_set w1 b 3 (block_cell2 HV.out.1).1.1 (block_cell2 HV.out.1).2.1).mono ?_; rintro e w2 ⟨rfl, rfl⟩)
                | (go_at_call 182; refine HB.out.mono ?_; rintro e w1 ⟨rfl, v1, h2, hg2⟩; have HV := Lib.hid h2; have HG2 := Lib.hid (grownBy_trans HGI.out hg2); clear h2 hg2))
              go_ret
              rw [HRG.out]
              exact ⟨rfl, _, (rd_set1 HV.out 3).1, grownBy_trans HG2.out (rd_set1 HV.out 3).2⟩
          · have HRG : Hid (rg l = (0, acc + x.toNat * 128 ^ i, r)) := by
              show _ = _
              rw [← HEQ.out, HE10.out, rgF_good hsm hstop]
            have HV2 : Hid (IntKind.u64.wrap ((acc : Int) + IntKind.u64.wrap (x % 128 * 2 ^ (7 * i))) = ((acc + x.toNat * 128 ^ i : Nat) : Int)) := by
              show _ = _
              have e1 : (x % 128).toNat = x.toNat := by omega
              have hA := HA.out
              have hz : acc + (x % 128).toNat * 128 ^ i < 18446744073709551616 := by
                rw [e1]
                by_cases h9 : i = 9
                · subst h9
                  have e9 : (128 : Nat) ^ 9 = 9223372036854775808 := by decide
                  have hxx : x = 1 := by omega
                  subst hxx
                  rw [e9] at hA ⊢
                  show acc + 1 * _ < _
                  omega
                · have h128 : (128 : Nat) ^ (i + 1) = 128 * 128 ^ i := by rw [Nat.pow_succ]; omega
                  have hle : (128 : Nat) ^ (i + 1) ≤ 128 ^ 9 := Nat.pow_le_pow_right (by decide) (by omega)
                  have e9 : (128 : Nat) ^ 9 = 9223372036854775808 := by decide
                  have hm : x.toNat * 128 ^ i ≤ 127 * 128 ^ i := Nat.mul_le_mul_right _ (by omega)
                  omega
              rw [grp_val i acc x hx0 hz, e1]
            have FIN : Hid (∀ w1 (y : Int), RdTo b w 0 r w1 → y = IntKind.u64.wrap ((acc : Int) + IntKind.u64.wrap (x % 128 * 2 ^ (7 * i))) → Ending.returned (.int .u64 y) = Ending.returned (.int .u64 ((rg l).2.1 : Int)) ∧ RdTo b w (rg l).1 (rg l).2.2 w1) := by
              intro w1 y h1 hy
              rw [HRG.out, hy, HV2.out]
              exact ⟨rfl, h1⟩
            have t5 : ¬ (x = 0 ∧ 0 < i) := by omega
            have t6 : i = 9 → x = 1 := by omega
            have HT6 := Lib.hid t6
            by_cases hi0 : i = 0
            · have t2 : ¬ (0 : Int) < (i : Int) := by omega
              have t3 : ¬ (i : Int) = 9 := by omega
              clear hstop t5 t6 hi0
              go_wp2_with (go_at_call 182; refine HB.out.mono ?_; rintro e w1 ⟨rfl, h1⟩; have H1 := Lib.hid (RdTo.trans HGI.out h1); clear h1)
              go_ret
              exact FIN.out _ _ H1.out rfl
            · have t2 : (0 : Int) < (i : Int) := by omega
              have t7 : ¬ x = 0 := by omega
              by_cases h9 : i = 9
              · have t3 : (i : Int) = 9 := by omega
                have t8 : x = 1 := by omega
                have HI9 := Lib.hid h9
                subst t8
                clear hstop t5 t6 hi0 h9
                go_wp2_with (go_at_call 182; refine HB.out.mono ?_; rintro e w1 ⟨rfl, h1⟩; have H1 := Lib.hid (RdTo.trans HGI.out h1); clear h1)
                go_ret
                exact FIN.out w1 (IntKind.u64.wrap ((acc : Int) + 9223372036854775808)) H1.out (by rw [HI9.out]; simp [IntKind.wrap_u64])
              · have t3 : ¬ (i : Int) = 9 := by omega
                clear hstop t5 t6 hi0 h9
                go_wp2_with (go_at_call 182; refine HB.out.mono ?_; rintro e w1 ⟨rfl, h1⟩; have H1 := Lib.hid (RdTo.trans HGI.out h1); clear h1)
                go_ret
                exact FIN.out _ _ H1.out rfl
    · have hil : i = 10 := by omega
      subst hil
      have HRG : Hid (rg l = (3, 0, li)) := heq.symm
      have HGI := Lib.hid hgi
      have HV := Lib.hid hri
      obtain ⟨⟨c1, c2⟩, f1, f2⟩ := block_cell2 hri.1
      clear hri hgi heq hinv hN
      go_wp2_with (go_at_call 158; refine (fail_set wr b 3 c1 f1).mono ?_; rintro e w2 ⟨rfl, rfl⟩)
      go_ret
      rw [HRG.out]
      exact ⟨rfl, _, (rd_set1 HV.out 3).1, grownBy_trans HGI.out (rd_set1 HV.out 3).2⟩
end Go.Proofs.Ytklngdmpledgeaa.Oc
