/-
  The contract of the reader's groups. Conditions: none.
-/
import Derived.Test.YtganokcmcdkdgaaGreatPZ11
namespace Go.Proofs.YtganokcmcdkdgaaGreat.Oc
open Go.RowKit

/-- What is read of l as groups, k of them at most, the first of them the at-th: the mistake, the number, what is left. -/
def rgF : Nat → Nat → Nat → List Int → Int × Nat × List Int
  | 0, _, _, l => (3, 0, l)
  | _ + 1, _, _, [] => (12, 0, [])
  | k + 1, at', acc, x :: r => if 128 ≤ x then rgF k (at' + 1) (acc + (x - 128).toNat * 128 ^ at') r
      else if (0 < at' ∧ x = 0) ∨ (at' = 9 ∧ ¬ x = 1) then (3, 0, r) else (0, acc + x.toNat * 128 ^ at', r)
def rg (l : List Int) : Int × Nat × List Int := rgF 10 0 0 l
theorem rgF_end (k at' acc : Nat) : rgF (k + 1) at' acc [] = (12, 0, []) := rfl
theorem rgF_more {k at' acc : Nat} {x : Int} {r : List Int} (h : 128 ≤ x) : rgF (k + 1) at' acc (x :: r) = rgF k (at' + 1) (acc + (x - 128).toNat * 128 ^ at') r := by rw [rgF, if_pos h]
theorem rgF_bad {k at' acc : Nat} {x : Int} {r : List Int} (h : x < 128) (h2 : (0 < at' ∧ x = 0) ∨ (at' = 9 ∧ ¬ x = 1)) : rgF (k + 1) at' acc (x :: r) = (3, 0, r) := by rw [rgF, if_neg (by omega), if_pos h2]
theorem rgF_good {k at' acc : Nat} {x : Int} {r : List Int} (h : x < 128) (h2 : ¬ ((0 < at' ∧ x = 0) ∨ (at' = 9 ∧ ¬ x = 1))) : rgF (k + 1) at' acc (x :: r) = (0, acc + x.toNat * 128 ^ at', r) := by rw [rgF, if_neg (by omega), if_neg h2]

theorem two_pow7 (i : Nat) : (2 : Int) ^ (7 * i) = ((128 ^ i : Nat) : Int) := by
  rw [Int.pow_mul]; simp
theorem grp_val (i acc : Nat) (x : Int) (_h0 : 0 ≤ x) (hs : acc + (x % 128).toNat * 128 ^ i < 18446744073709551616) :
    IntKind.u64.wrap ((acc : Int) + IntKind.u64.wrap (x % 128 * 2 ^ (7 * i))) = ((acc + (x % 128).toNat * 128 ^ i : Nat) : Int) := by
  obtain ⟨y, hy⟩ : ∃ y, y = (x % 128).toNat := ⟨_, rfl⟩
  have hx : x % 128 = (y : Int) := by omega
  rw [hx, Int.toNat_natCast] at hs
  rw [two_pow7, hx, Int.toNat_natCast]
  obtain ⟨z, hz⟩ : ∃ z, z = y * 128 ^ i := ⟨_, rfl⟩
  rw [← hz] at hs ⊢
  rw [← Int.natCast_mul, ← hz, IntKind.wrap_u64, IntKind.wrap_u64]
  omega
/-- While groups are read: i are read. -/
def RgI (b : Nat) (w : World) (l : List Int) (i : Nat) (N : Int) (wx : World) : Prop :=
  ∃ (acc : Nat) (li : List Int), RdTo b w 0 li wx ∧ rgF (10 - i) i acc li = rg l ∧ (i ≤ 9 → N = (acc : Int) ∧ acc < 128 ^ i)
set_option maxRecDepth 100000 in
set_option maxHeartbeats 4000000 in
theorem rgroups_any (w : World) (b : Nat) (l : List Int) (v : Value) (h : RdR w b 0 l v) :
    Calls Tryz.prog 84 #[.pointer (some ⟨b, 0, none⟩)] w fun e w' => e = .returned (.int .u64 ((rg l).2.1 : Int)) ∧ RdTo b w (rg l).1 (rg l).2.2 w' := by
  have HI : Hid (RgI b w l 0 0 w) := ⟨0, l, RdTo.same h (Below.refl _ _), rfl, fun _ => ⟨rfl, by simp⟩⟩
  clear h
  go_enter Tryz.func84, Tryz.ntmps84
  go_wp2
  go_loopg [3, 6] 10 (fun k s3 s6 wx => ∃ (i : Nat) (N : Int), k = 10 - i ∧ i ≤ 10 ∧ s3 = .int .u64 N ∧ s6 = .int .i64 (i : Int) ∧ Hid (RgI b w l i N wx))
  case atStart => exact ⟨0, 0, rfl, by omega, rfl, rfl, HI⟩
  case round =>
    clear HI
    obtain ⟨i, N, rfl, hi, rfl, rfl, hinv⟩ := hrel
    obtain ⟨acc, li, hrd, heq, hN⟩ := hinv.out
    obtain ⟨vi, hri, hgi⟩ := hrd
    by_cases hlt : i < 10
    · have t1 : (i : Int) < 10 := by omega
      have t0 : (0 : Int) ≤ (i : Int) := by omega
      obtain ⟨hN1, hN2⟩ := hN (by omega)
      cases li with
      | nil =>
        have HB := Lib.hid (rbyte_end wr b vi hri)
        have HGI := Lib.hid hgi
        have h0l : acc < 18446744073709551616 := by
          have : (128 : Nat) ^ i ≤ 128 ^ 9 := Nat.pow_le_pow_right (by decide) (by omega)
          have e9 : (128 : Nat) ^ 9 = 9223372036854775808 := by decide
          omega
        have HRG : Hid (rg l = (12, 0, [])) := by
          show _ = _
          rw [← heq, show 10 - i = (9 - i) + 1 by omega, rgF_end]
        subst hN1
        by_cases hi0 : i = 0
        · have hacc0 : Hid (acc = 0) := by show _ = _; subst hi0; omega
          have t2 : ¬ (0 : Int) < (i : Int) := by omega
          have t3 : ¬ (i : Int) = 9 := by omega
          clear hri hgi heq hinv hN hi0
          go_wp2_with (go_at_call 51; refine HB.out.mono ?_; rintro e w1 ⟨rfl, h1⟩; have H1 := Lib.hid (RdTo.trans HGI.out h1); clear h1)
          go_ret
          rw [HRG.out]
          exact ⟨by rw [hacc0.out]; rfl, H1.out⟩
        · have t2 : (0 : Int) < (i : Int) := by omega
          clear hri hgi heq hinv hN hi0
          go_wp2_with (first
            | (go_at_call 75; refine (fail_no w1 b 12 3 (by decide) (block_cell2 HV.out.1).1.1).mono ?_; rintro e w2 ⟨rfl, rfl⟩)
            | (go_at_call 51; refine HB.out.mono ?_; rintro e w1 ⟨rfl, h1⟩; have H1 := Lib.hid (RdTo.trans HGI.out h1); obtain ⟨v1, h2, _⟩ := h1; have HV := Lib.hid h2; clear h2))
          go_ret
          rw [HRG.out]
          exact ⟨rfl, H1.out⟩
      | cons x r =>
        have HB := Lib.hid (rbyte_some wr b x r vi hri)
        obtain ⟨hx0, hx1⟩ := hri.2.2.1 x (by simp)
        have HGI := Lib.hid hgi
        have HEQ := Lib.hid heq
        have HE10 : Hid (10 - i = (9 - i) + 1) := by show _ = _; omega
        have HA := Lib.hid hN2
        have HX0 := Lib.hid hx0
        subst hN1
        clear hri hgi heq hinv hN hN2
        by_cases hbig : 128 ≤ x
        · have HI2 : Hid (∀ w1, RdTo b w 0 r w1 → RgI b w l (i + 1) (IntKind.u64.wrap ((acc : Int) + IntKind.u64.wrap (x % 128 * 2 ^ (7 * i)))) w1) := by
            intro w1 h1
            refine ⟨acc + (x - 128).toNat * 128 ^ i, r, h1, ?_, fun hi9 => ?_⟩
            · rw [← HEQ.out, HE10.out, rgF_more hbig]; congr 1; omega
            · have e1 : (x % 128).toNat = (x - 128).toNat := by omega
              have h128 : (128 : Nat) ^ (i + 1) = 128 * 128 ^ i := by rw [Nat.pow_succ]; omega
              have hle : (128 : Nat) ^ (i + 1) ≤ 128 ^ 9 := Nat.pow_le_pow_right (by decide) (by omega)
              have e9 : (128 : Nat) ^ 9 = 9223372036854775808 := by decide
              have hm : (x - 128).toNat * 128 ^ i ≤ 127 * 128 ^ i := Nat.mul_le_mul_right _ (by omega)
              have hA := HA.out
              rw [grp_val i acc x hx0 (by rw [e1]; omega), e1]
              exact ⟨rfl, by omega⟩
          go_wp2_with (go_at_call 51; refine HB.out.mono ?_; rintro e w1 ⟨rfl, h1⟩; have H1 := Lib.hid (RdTo.trans HGI.out h1); clear h1)
          go_roundg (10 - (i + 1))
          case measure => omega
          case rel => exact ⟨i + 1, _, rfl, hlt, rfl, by go_num, HI2.out _ H1.out⟩
        · have hsm : x < 128 := by omega
          by_cases hstop : (0 < i ∧ x = 0) ∨ (i = 9 ∧ ¬ x = 1)
          · have HRG : Hid (rg l = (3, 0, r)) := by
              show _ = _
              rw [← HEQ.out, HE10.out, rgF_bad hsm hstop]
            by_cases hx00 : x = 0
            · have t2 : (0 : Int) < (i : Int) := by omega
              clear hstop
              go_wp2_with (first
                | (go_at_call 75; refine (fail_set w1 b 3 (block_cell2 HV.out.1).1.1 (block_cell2 HV.out.1).2.1).mono ?_; rintro e w2 ⟨rfl, rfl⟩)
                | (go_at_call 51; refine HB.out.mono ?_; rintro e w1 ⟨rfl, v1, h2, hg2⟩; have HV := Lib.hid h2; have HG2 := Lib.hid (grownBy_trans HGI.out hg2); clear h2 hg2))
              go_ret
              rw [HRG.out]
              exact ⟨rfl, _, (rd_set1 HV.out 3).1, grownBy_trans HG2.out (rd_set1 HV.out 3).2⟩
            · have t2 : (i : Int) = 9 := by omega
              have t3 : ¬ x = 1 := by omega
              have t4 : i = 9 := by omega
              subst t4
              have b1 : (x == 0) = false := by simpa using hx00
              have b2 : (x != 1) = true := by simpa using t3
              clear hstop
              go_wp2_with (first
                | (go_at_call 75; refine (fail_set w1 b 3 (block_cell2 HV.out.1).1.1 (block_cell2 HV.out.1).2.1).mono ?_; rintro e w2 ⟨rfl, rfl⟩)
                | (go_at_call 51; refine HB.out.mono ?_; rintro e w1 ⟨rfl, v1, h2, hg2⟩; have HV := Lib.hid h2; have HG2 := Lib.hid (grownBy_trans HGI.out hg2); clear h2 hg2))
              go_ret
              rw [HRG.out]
              exact ⟨rfl, _, (rd_set1 HV.out 3).1, grownBy_trans HG2.out (rd_set1 HV.out 3).2⟩
          · have HRG : Hid (rg l = (0, acc + x.toNat * 128 ^ i, r)) := by
              show _ = _
              rw [← HEQ.out, HE10.out, rgF_good hsm hstop]
            have HV2 : Hid (IntKind.u64.wrap ((acc : Int) + IntKind.u64.wrap (x % 128 * 2 ^ (7 * i))) = ((acc + x.toNat * 128 ^ i : Nat) : Int)) := by
              show _ = _
              have e1 : (x % 128).toNat = x.toNat := by omega
              have hA := HA.out
              have hz : acc + (x % 128).toNat * 128 ^ i < 18446744073709551616 := by
                rw [e1]
                by_cases h9 : i = 9
                · subst h9
                  have e9 : (128 : Nat) ^ 9 = 9223372036854775808 := by decide
                  have hxx : x = 1 := by omega
                  subst hxx
                  rw [e9] at hA ⊢
                  show acc + 1 * _ < _
                  omega
                · have h128 : (128 : Nat) ^ (i + 1) = 128 * 128 ^ i := by rw [Nat.pow_succ]; omega
                  have hle : (128 : Nat) ^ (i + 1) ≤ 128 ^ 9 := Nat.pow_le_pow_right (by decide) (by omega)
                  have e9 : (128 : Nat) ^ 9 = 9223372036854775808 := by decide
                  have hm : x.toNat * 128 ^ i ≤ 127 * 128 ^ i := Nat.mul_le_mul_right _ (by omega)
                  omega
              rw [grp_val i acc x hx0 hz, e1]
            have FIN : Hid (∀ w1 (y : Int), RdTo b w 0 r w1 → y = IntKind.u64.wrap ((acc : Int) + IntKind.u64.wrap (x % 128 * 2 ^ (7 * i))) → Ending.returned (.int .u64 y) = Ending.returned (.int .u64 ((rg l).2.1 : Int)) ∧ RdTo b w (rg l).1 (rg l).2.2 w1) := by
              intro w1 y h1 hy
              rw [HRG.out, hy, HV2.out]
              exact ⟨rfl, h1⟩
            have t5 : ¬ (x = 0 ∧ 0 < i) := by omega
            have t6 : i = 9 → x = 1 := by omega
            have HT6 := Lib.hid t6
            by_cases hi0 : i = 0
            · have t2 : ¬ (0 : Int) < (i : Int) := by omega
              have t3 : ¬ (i : Int) = 9 := by omega
              clear hstop t5 t6 hi0
              go_wp2_with (go_at_call 51; refine HB.out.mono ?_; rintro e w1 ⟨rfl, h1⟩; have H1 := Lib.hid (RdTo.trans HGI.out h1); clear h1)
              go_ret
              exact FIN.out _ _ H1.out rfl
            · have t2 : (0 : Int) < (i : Int) := by omega
              have t7 : ¬ x = 0 := by omega
              by_cases h9 : i = 9
              · have t3 : (i : Int) = 9 := by omega
                have t8 : x = 1 := by omega
                have HI9 := Lib.hid h9
                subst t8
                clear hstop t5 t6 hi0 h9
                go_wp2_with (go_at_call 51; refine HB.out.mono ?_; rintro e w1 ⟨rfl, h1⟩; have H1 := Lib.hid (RdTo.trans HGI.out h1); clear h1)
                go_ret
                exact FIN.out w1 (IntKind.u64.wrap ((acc : Int) + 9223372036854775808)) H1.out (by rw [HI9.out]; simp [IntKind.wrap_u64])
              · have t3 : ¬ (i : Int) = 9 := by omega
                clear hstop t5 t6 hi0 h9
                go_wp2_with (go_at_call 51; refine HB.out.mono ?_; rintro e w1 ⟨rfl, h1⟩; have H1 := Lib.hid (RdTo.trans HGI.out h1); clear h1)
                go_ret
                exact FIN.out _ _ H1.out rfl
    · have hil : i = 10 := by omega
      subst hil
      have HRG : Hid (rg l = (3, 0, li)) := heq.symm
      have HGI := Lib.hid hgi
      have HV := Lib.hid hri
      obtain ⟨⟨c1, c2⟩, f1, f2⟩ := block_cell2 hri.1
      clear hri hgi heq hinv hN
      go_wp2_with (go_at_call 75; refine (fail_set wr b 3 c1 f1).mono ?_; rintro e w2 ⟨rfl, rfl⟩)
      go_ret
      rw [HRG.out]
      exact ⟨rfl, _, (rd_set1 HV.out 3).1, grownBy_trans HGI.out (rd_set1 HV.out 3).2⟩
end Go.Proofs.YtganokcmcdkdgaaGreat.Oc

namespace Go.Proofs.YtganokcmcdkdgaaGreat.Oc

theorem grpF_byte (k m : Nat) (hm : m < 2 * 128 ^ k) : bok (grpF k m) := by
  induction k generalizing m with
  | zero =>
    intro x hx
    rw [grpF, List.mem_singleton] at hx
    have : m < 2 := by simpa using hm
    omega
  | succ k ih =>
    intro x hx
    by_cases h : m < 128
    · rw [grpF_one h, List.mem_singleton] at hx
      omega
    · rw [grpF_more h] at hx
      rcases List.mem_cons.1 hx with h1 | h1
      · omega
      · exact ih (m / 128) (by rw [Nat.pow_succ] at hm; omega) x h1
theorem pow9 : (2 : Nat) * 128 ^ 9 = 18446744073709551616 := by decide
theorem grp_bok {m : Nat} (h : m < 18446744073709551616) : bok (grp m) := grpF_byte 9 m (by rw [pow9]; exact h)
theorem bok_app {l m : List Int} (h : bok l) (k : bok m) : bok (l ++ m) := fun x hx => by
  rcases List.mem_append.1 hx with h1 | h1
  · exact h x h1
  · exact k x h1
theorem word_bok (k x : Nat) : bok (wordF k x) := by
  induction k with
  | zero => intro y hy; rw [wordF] at hy; exact absurd hy (List.not_mem_nil)
  | succ k ih =>
    intro y hy
    rw [wordF] at hy
    rcases List.mem_cons.1 hy with h1 | h1
    · omega
    · exact ih y h1
theorem rgF_fwd (k at' acc m : Nat) (r : List Int) (hk : k + at' = 9) (hm : m < 2 * 128 ^ k) (h0 : 0 < at' → ¬ m = 0) : rgF (k + 1) at' acc (grpF k m ++ r) = (0, acc + m * 128 ^ at', r) := by
  induction k generalizing at' acc m with
  | zero =>
    have hm2 : m < 2 := by simpa using hm
    show rgF 1 at' acc ((m : Int) :: r) = _
    rw [rgF_good (by omega) (by omega)]
    simp
  | succ k ih =>
    by_cases h : m < 128
    · rw [grpF_one h]
      show rgF (k + 1 + 1) at' acc ((m : Int) :: r) = _
      rw [rgF_good (by omega) (by omega)]
      simp
    · rw [grpF_more h]
      show rgF (k + 1 + 1) at' acc ((((m % 128 : Nat) : Int) + 128) :: (grpF k (m / 128) ++ r)) = _
      rw [rgF_more (by omega), ih (at' + 1) _ (m / 128) (by omega) (by rw [Nat.pow_succ] at hm; omega) (fun _ => by omega)]
      have e1 : (((m % 128 : Nat) : Int) + 128 - 128).toNat = m % 128 := by omega
      rw [e1, Nat.pow_succ]
      have e2 : m / 128 * (128 ^ at' * 128) = 128 * (m / 128) * 128 ^ at' := by
        rw [Nat.mul_comm (128 ^ at') 128, ← Nat.mul_assoc, Nat.mul_comm (m / 128) 128]
      rw [e2, Nat.add_assoc, ← Nat.add_mul]
      have e3 : m % 128 + 128 * (m / 128) = m := by omega
      rw [e3]
theorem rgF_inv (k at' acc n : Nat) (l r : List Int) (hk : k + at' = 9) (hb : bok l) (h : rgF (k + 1) at' acc l = (0, n, r)) : ∃ m, n = acc + m * 128 ^ at' ∧ l = grpF k m ++ r ∧ (0 < at' → ¬ m = 0) ∧ m < 2 * 128 ^ k := by
  induction k generalizing at' acc l with
  | zero =>
    cases l with
    | nil => rw [rgF_end] at h; cases h
    | cons x s =>
      have hx := hb x (by simp)
      by_cases h1 : 128 ≤ x
      · rw [rgF_more h1] at h; cases h
      · by_cases h2 : (0 < at' ∧ x = 0) ∨ (at' = 9 ∧ ¬ x = 1)
        · rw [rgF_bad (by omega) h2] at h; cases h
        · rw [rgF_good (by omega) h2] at h
          simp only [Prod.mk.injEq, true_and] at h
          obtain ⟨h3, rfl⟩ := h
          refine ⟨x.toNat, h3.symm, ?_, by omega, by simp; omega⟩
          rw [grpF, Int.toNat_of_nonneg hx.1]; rfl
  | succ k ih =>
    cases l with
    | nil => rw [rgF_end] at h; cases h
    | cons x s =>
      have hx := hb x (by simp)
      by_cases h1 : 128 ≤ x
      · rw [rgF_more h1] at h
        obtain ⟨m, h3, h4, h5, h6⟩ := ih (at' + 1) _ s (by omega) (fun y hy => hb y (by simp [hy])) h
        have hm0 := h5 (by omega)
        refine ⟨(x - 128).toNat + 128 * m, ?_, ?_, fun _ => by omega, by rw [Nat.pow_succ]; omega⟩
        · rw [h3, Nat.pow_succ, Nat.add_assoc, Nat.add_mul]
          congr 2
          rw [Nat.mul_comm (128 ^ at') 128, ← Nat.mul_assoc, Nat.mul_comm m 128]
        · rw [grpF_more (by omega), h4]
          have e1 : ((x - 128).toNat + 128 * m) / 128 = m := by omega
          have e2 : ((((x - 128).toNat + 128 * m) % 128 : Nat) : Int) + 128 = x := by omega
          rw [e1, e2]; rfl
      · by_cases h2 : (0 < at' ∧ x = 0) ∨ (at' = 9 ∧ ¬ x = 1)
        · rw [rgF_bad (by omega) h2] at h; cases h
        · rw [rgF_good (by omega) h2] at h
          simp only [Prod.mk.injEq, true_and] at h
          obtain ⟨h3, rfl⟩ := h
          have h128 : 128 ≤ 128 ^ (k + 1) := by rw [Nat.pow_succ]; have := Nat.pow_pos (n := k) (show 0 < 128 by decide); omega
          refine ⟨x.toNat, h3.symm, ?_, by omega, by omega⟩
          rw [grpF_one (by omega), Int.toNat_of_nonneg hx.1]; rfl
theorem rg_grp (m : Nat) (r : List Int) (h : m < 18446744073709551616) : rg (grp m ++ r) = (0, m, r) := by
  have := rgF_fwd 9 0 0 m r rfl (by rw [pow9]; exact h) (fun h => by omega)
  rw [Nat.zero_add, Nat.pow_zero, Nat.mul_one] at this
  exact this
theorem rg_inv {l r : List Int} {n : Nat} (hb : bok l) (h : rg l = (0, n, r)) : n < 18446744073709551616 ∧ l = grp n ++ r := by
  obtain ⟨m, h1, h2, _, h4⟩ := rgF_inv 9 0 0 n l r rfl hb h
  have h5 : n = m := by rw [h1]; simp
  subst h5
  exact ⟨by rw [pow9] at h4; exact h4, h2⟩
theorem rgF_err (k at' acc : Nat) (l : List Int) (h : ¬ (rgF k at' acc l).1 = 0) : (rgF k at' acc l).2.1 = 0 := by
  induction k generalizing at' acc l with
  | zero => rfl
  | succ k ih =>
    cases l with
    | nil => rfl
    | cons x r =>
      by_cases h1 : 128 ≤ x
      · rw [rgF_more h1] at h ⊢; exact ih _ _ _ h
      · by_cases h2 : (0 < at' ∧ x = 0) ∨ (at' = 9 ∧ ¬ x = 1)
        · rw [rgF_bad (by omega) h2]
        · rw [rgF_good (by omega) h2] at h; exact absurd rfl h
/-- A number out of a count. -/
def unf (n : Nat) : Int := if n % 2 = 1 then -1 - ((n / 2 : Nat) : Int) else ((n / 2 : Nat) : Int)
theorem unf_fold (x : Int) : unf (fold x) = x := by
  unfold unf fold; split <;> split <;> omega
theorem fold_unf (n : Nat) : fold (unf n) = n := by
  unfold unf fold; split <;> split <;> omega
theorem unf_rng {n : Nat} (h : n < 18446744073709551616) : -9223372036854775808 ≤ unf n ∧ unf n < 9223372036854775808 := by
  unfold unf; split <;> omega
/-- A text out of bytes. -/
def u8s (l : List Int) : List UInt8 := l.map fun x => UInt8.ofNat x.toNat
def strOf (l : List Int) : ByteArray := ⟨(u8s l).toArray⟩
theorem sb_strOf {l : List Int} (h : bok l) : sb (strOf l) = l := by
  unfold sb strOf u8s
  simp only [List.map_map]
  conv => rhs; rw [← List.map_id l]
  apply List.map_congr_left
  intro x hx
  have := h x hx
  simp
  omega
theorem strOf_sb (s : ByteArray) : strOf (sb s) = s := by
  unfold sb strOf u8s
  have e : ((fun x : Int => UInt8.ofNat x.toNat) ∘ fun b : UInt8 => (b.toNat : Int)) = id := by funext b; simp
  rw [List.map_map, e]
  simp
theorem strOf_len (l : List Int) : (strOf l).size = l.length := by simp [strOf, u8s, ByteArray.size]
theorem sb_bok (s : ByteArray) : bok (sb s) := by
  intro x hx
  unfold sb at hx
  obtain ⟨b, _, rfl⟩ := List.mem_map.1 hx
  have := b.toNat_lt
  omega
end Go.Proofs.YtganokcmcdkdgaaGreat.Oc

namespace Go.Proofs.YtganokcmcdkdgaaGreat.Oc
open Go.RowKit

theorem two_cell {w : World} {B : Nat} {x : Value} {t : TypeId} (h : w.heap[B]? = some (.cells #[x] t (0, 0))) : w.cell? ⟨B, 0, none⟩ = some x := (block_cell h).1
theorem rg_lt {l : List Int} (hb : bok l) : (rg l).2.1 < 18446744073709551616 := by
  by_cases h : (rg l).1 = 0
  · have := (rg_inv (l := l) (n := (rg l).2.1) (r := (rg l).2.2) hb (by rw [← h])).1
    exact this
  · have : (rg l).2.1 = 0 := rgF_err 10 0 0 l h
    omega
end Go.Proofs.YtganokcmcdkdgaaGreat.Oc
