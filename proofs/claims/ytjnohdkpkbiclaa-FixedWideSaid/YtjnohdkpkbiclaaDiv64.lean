/-
  The contract of math/bits.Div64. Conditions: the high word is below the divisor.
-/
import Derived.Test.YtjnohdkpkbiclaaShelf
import Derived.Test.YtjnohdkpkbiclaaDigs
import Derived.Test.YtjnohdkpkbiclaaKnuth
import Derived.WalkLawsBesides
import Derived.Deep.LoopGhost
import Derived.Deep.CutBlock
import Derived.Deep.QuietTactic
import Derived.BigQuiet
import Derived.Lib.Hide
import Derived.Lib.ItoaNum
import Derived.Outline
import Derived.IntWalk
namespace Go.Proofs.Ytjnohdkpkbiclaa
open Go.RowKit

theorem u64_wrap (n : Int) : IntKind.u64.wrap n = n % 18446744073709551616 := IntKind.wrap_u64 n
theorem ret_two {k l : IntKind} {a b c d : Int} (h1 : a = c) (h2 : b = d) : Ending.returned (.tuple #[.int k a, .int l b]) = .returned (.tuple #[.int k c, .int l d]) := by rw [h1, h2]


set_option maxRecDepth 100000 in
set_option maxHeartbeats 2000000 in
theorem div64_core (w : World) (hi lo y : Int) (S : Nat) (yp yn1 yn0 tA ul un1 un0 : Int) (h0 : 0 < hi) (h1 : hi < y) (h2 : y ≤ 18446744073709551615) (_h3 : 0 ≤ lo) (_h4 : lo ≤ 18446744073709551615) (hS : S ≤ 63)
    (hbl : Hid ((64 : Int) - (Lib.bitLen y.toNat : Int) = S)) (e1 : IntKind.u64.wrap (y * 2 ^ S) = yp) (e2 : yp / 4294967296 = yn1) (e3 : bits BinOp.and IntKind.u64 yp 4294967295 = yn0)
    (e4 : bits BinOp.or IntKind.u64 (IntKind.u64.wrap (hi * 2 ^ S)) (lo / 2 ^ (64 - S)) = tA) (e5 : IntKind.u64.wrap (lo * 2 ^ S) = ul) (e6 : ul / 4294967296 = un1) (e7 : bits BinOp.and IntKind.u64 ul 4294967295 = un0)
    (hyp : Hid (yp = yn1 * 4294967296 + yn0)) (k1 : Hid (KOk yn1 yn0 tA un1)) (hd0 : 0 ≤ un0) (hd1 : un0 < 4294967296) (hyp0 : 0 ≤ yp) (hyp1 : yp ≤ 18446744073709551615) (_hul0 : 0 ≤ ul) (_hul1 : ul ≤ 18446744073709551615) :
    Calls Try.prog 63 #[.int .u64 hi, .int .u64 lo, .int .u64 y] w fun e w' =>
      e = .returned (.tuple #[.int .u64 ((tA * 4294967296 + un1) / yp * 4294967296 + ((tA * 4294967296 + un1) % yp * 4294967296 + un0) / yp), .int .u64 (((tA * 4294967296 + un1) % yp * 4294967296 + un0) % yp / 2 ^ S)]) ∧ w = w' := by
  obtain ⟨a0, a1, b0, b1, c0, c1, d0, d1⟩ := k1.out
  have i1 : (yn1 == 0) = false := by simp; omega
  obtain ⟨qa, hqa⟩ : ∃ q, tA / yn1 = q := ⟨_, rfl⟩
  have st := k1.out.start
  rw [hqa] at st
  have st2 := st
  obtain ⟨s0, s1, s2, s3, s4, s5⟩ := st2
  obtain ⟨ma, hma⟩ : ∃ m, m = qa * yn1 := ⟨_, rfl⟩
  have hma0 : 0 ≤ ma := by rw [hma]; exact Int.mul_nonneg s0 (by omega)
  have hwa : IntKind.u64.wrap (qa * yn1) = ma := by rw [← hma, u64_wrap]; omega
  rw [← hma] at st s2 s3 s4
  have ST := Lib.hid st
  clear hma st s2 s5
  go_enter Try.func63, Try.ntmps63
  go_upto_block 0 with (go_at_call 65; refine (Try.bits_LeadingZeros64 y w (by omega) (by omega)).mono ?_; rw [hbl.out]; rintro e w' ⟨rfl, hw⟩; have hw := hw.symm; subst hw)
  rw [hqa]
  clear hqa hwa
  go_cut [15] from 19 (fun sq wx => w = wx ∧ ∃ q : Int, sq = .int .u64 q ∧ Hid (q = (tA * 4294967296 + un1) / (yn1 * 4294967296 + yn0)))
  case first =>
    go_wp2
    go_loopg [15, 16] 4294967298 (fun gh sq sr wx => w = wx ∧ ∃ q r : Int, q.toNat ≤ gh ∧ sq = .int .u64 q ∧ sr = .int .u64 r ∧ 0 ≤ q ∧ q ≤ 4294967297 ∧ 0 ≤ r ∧ r < 4294967296 ∧ Hid (KInv yn1 yn0 tA un1 q r))
    case atStart => exact ⟨rfl, qa, tA - ma, by omega, rfl, rfl, s0, s1, by omega, by omega, ST.out⟩
    case round =>
      obtain ⟨rfl, q, r, hgh, rfl, rfl, q0, q1, r0, r1, hk⟩ := hrel
      obtain ⟨m, hm⟩ : ∃ m, m = q * yn0 := ⟨_, rfl⟩
      have hm0 : 0 ≤ m := by rw [hm]; exact Int.mul_nonneg q0 b0
      have hm1 : q < 4294967296 → m ≤ 18446744065119617025 := by
        intro h
        have := Int.mul_le_mul (show q ≤ 4294967295 by omega) (show yn0 ≤ 4294967295 by omega) b0 (by omega)
        omega
      by_cases hbig : 4294967296 ≤ q
      · by_cases hbr : r + yn1 < 4294967296
        · have hnx := Lib.hid (hk.out.next k1.out (.inl hbig) hbr)
          clear hm hm0 hm1
          go_wp2
          go_roundg (q - 1).toNat
          case measure => omega
          case rel => exact ⟨rfl, q - 1, r + yn1, Nat.le_refl _, rfl, rfl, by omega, by omega, by omega, by omega, hnx⟩
        · have hnx := Lib.hid (hk.out.last k1.out (.inl hbig) (by omega))
          clear hm hm0 hm1
          go_wp2
          go_meet
          case rel => exact ⟨rfl, q - 1, rfl, hnx⟩
      · have hm2 := hm1 (by omega)
        have hw : IntKind.u64.wrap (q * yn0) = m := by rw [← hm, u64_wrap]; omega
        have HM := Lib.hid hm
        clear hm hm1
        by_cases hgt : 4294967296 * r + un1 < m
        · have hq1 := (hk.out.less k1.out (.inr (by rw [← HM.out]; exact hgt))).1
          by_cases hbr : r + yn1 < 4294967296
          · have hnx := Lib.hid (hk.out.next k1.out (.inr (by rw [← HM.out]; exact hgt)) hbr)
            go_wp2
            go_roundg (q - 1).toNat
            case measure => omega
            case rel => exact ⟨rfl, q - 1, r + yn1, Nat.le_refl _, rfl, rfl, by omega, by omega, by omega, by omega, hnx⟩
          · have hnx := Lib.hid (hk.out.last k1.out (.inr (by rw [← HM.out]; exact hgt)) (by omega))
            go_wp2
            go_meet
            case rel => exact ⟨rfl, q - 1, rfl, hnx⟩
        · have hnx := Lib.hid (hk.out.done k1.out (by rw [← HM.out]; omega))
          go_wp2
          go_meet
          case rel => exact ⟨rfl, q, rfl, hnx⟩
  case rest =>
    obtain ⟨rfl, q, rfl, hq⟩ := hcut
    obtain ⟨N, hN⟩ : ∃ N, N = tA * 4294967296 + un1 := ⟨_, rfl⟩
    obtain ⟨Y, hY⟩ : ∃ Y, Y = yn1 * 4294967296 + yn0 := ⟨_, rfl⟩
    have hyp2 := hyp.out
    rw [← hY] at hyp2
    have hq2 : q = N / yp := by rw [hN, hyp2, hY]; exact hq.out
    have hN0 : 0 ≤ N := by omega
    have hNY : N < 4294967296 * yp := by omega
    have dm := Int.mul_ediv_add_emod N yp
    have dr0 := Int.emod_nonneg N (show yp ≠ 0 by omega)
    have dr1 := Int.emod_lt_of_pos N (show 0 < yp by omega)
    rw [← hq2, Int.mul_comm] at dm
    have hqb0 : 0 ≤ q := by rw [hq2]; exact Int.ediv_nonneg hN0 hyp0
    have hqb1 : q < 4294967296 := by rw [hq2]; exact (Int.ediv_lt_iff_lt_mul (by omega)).2 (by omega)
    obtain ⟨tB, htB⟩ : ∃ u, u = N % yp := ⟨_, rfl⟩
    rw [← htB] at dm dr0 dr1
    obtain ⟨va, hva⟩ : ∃ v, v = tA * 4294967296 % 18446744073709551616 := ⟨_, rfl⟩
    obtain ⟨vb, hvb⟩ : ∃ v, v = q * yp % 18446744073709551616 := ⟨_, rfl⟩
    have w1 : IntKind.u64.wrap (tA * 4294967296) = va := by rw [hva, u64_wrap]
    have w2 : IntKind.u64.wrap (q * yp) = vb := by rw [hvb, u64_wrap]
    have va0 : 0 ≤ va := by omega
    have va1 : va ≤ 18446744069414584320 := by omega
    have vb0 : 0 ≤ vb := by omega
    have vb1 : vb ≤ 18446744073709551615 := by omega
    have w3 : IntKind.u64.wrap (va + un1 - vb) = tB := by rw [u64_wrap]; omega
    have k2 : KOk yn1 yn0 tB un0 := ⟨a0, a1, b0, b1, dr0, by omega, hd0, hd1⟩
    obtain ⟨qb, hqb⟩ : ∃ q, tB / yn1 = q := ⟨_, rfl⟩
    have st := k2.start
    rw [hqb] at st
    have st2 := st
    obtain ⟨t0, t1, t2, t3, t4, t5⟩ := st2
    obtain ⟨mb, hmb⟩ : ∃ m, m = qb * yn1 := ⟨_, rfl⟩
    have hmb0 : 0 ≤ mb := by rw [hmb]; exact Int.mul_nonneg t0 (by omega)
    have hwb : IntKind.u64.wrap (qb * yn1) = mb := by rw [← hmb, u64_wrap]; omega
    rw [← hmb] at st t2 t3 t4
    have ST2 := Lib.hid st
    have K2 := Lib.hid k2
    have HU := Lib.hid htB
    have HN := Lib.hid hN
    have HQ := Lib.hid hq2
    have HYP := Lib.hid hyp2
    have HY := Lib.hid hY
    clear hmb st t2 t5 dm hva hvb htB hN hq2 hyp2 hY hNY k2 hN0 hma0 s0 s1 s3 s4 e1 e2 e3 e4 e5 e6 e7
    go_upto_block 2 with (fail)
    rw [hqb]
    clear hqb hwb w1 w2 w3
    go_cut [18] from 19 (fun sq wx => w = wx ∧ ∃ q : Int, sq = .int .u64 q ∧ Hid (q = (tB * 4294967296 + un0) / (yn1 * 4294967296 + yn0)))
    case first =>
      go_wp2
      go_loopg [18, 16] 4294967298 (fun gh sq sr wx => w = wx ∧ ∃ q r : Int, q.toNat ≤ gh ∧ sq = .int .u64 q ∧ sr = .int .u64 r ∧ 0 ≤ q ∧ q ≤ 4294967297 ∧ 0 ≤ r ∧ r < 4294967296 ∧ Hid (KInv yn1 yn0 tB un0 q r))
      case atStart => exact ⟨rfl, qb, tB - mb, by omega, rfl, rfl, t0, t1, by omega, by omega, ST2.out⟩
      case round =>
        obtain ⟨rfl, q, r, hgh, rfl, rfl, q0, q1, r0, r1, hk⟩ := hrel
        obtain ⟨m, hm⟩ : ∃ m, m = q * yn0 := ⟨_, rfl⟩
        have hm0 : 0 ≤ m := by rw [hm]; exact Int.mul_nonneg q0 b0
        have hm1 : q < 4294967296 → m ≤ 18446744065119617025 := by
          intro h
          have := Int.mul_le_mul (show q ≤ 4294967295 by omega) (show yn0 ≤ 4294967295 by omega) b0 (by omega)
          omega
        by_cases hbig : 4294967296 ≤ q
        · by_cases hbr : r + yn1 < 4294967296
          · have hnx := Lib.hid (hk.out.next K2.out (.inl hbig) hbr)
            clear hm hm0 hm1
            go_wp2
            go_roundg (q - 1).toNat
            case measure => omega
            case rel => exact ⟨rfl, q - 1, r + yn1, Nat.le_refl _, rfl, rfl, by omega, by omega, by omega, by omega, hnx⟩
          · have hnx := Lib.hid (hk.out.last K2.out (.inl hbig) (by omega))
            clear hm hm0 hm1
            go_wp2
            go_meet
            case rel => exact ⟨rfl, q - 1, rfl, hnx⟩
        · have hm2 := hm1 (by omega)
          have hw : IntKind.u64.wrap (q * yn0) = m := by rw [← hm, u64_wrap]; omega
          have HM := Lib.hid hm
          clear hm hm1
          by_cases hgt : 4294967296 * r + un0 < m
          · have hq1 := (hk.out.less K2.out (.inr (by rw [← HM.out]; exact hgt))).1
            by_cases hbr : r + yn1 < 4294967296
            · have hnx := Lib.hid (hk.out.next K2.out (.inr (by rw [← HM.out]; exact hgt)) hbr)
              go_wp2
              go_roundg (q - 1).toNat
              case measure => omega
              case rel => exact ⟨rfl, q - 1, r + yn1, Nat.le_refl _, rfl, rfl, by omega, by omega, by omega, by omega, hnx⟩
            · have hnx := Lib.hid (hk.out.last K2.out (.inr (by rw [← HM.out]; exact hgt)) (by omega))
              go_wp2
              go_meet
              case rel => exact ⟨rfl, q - 1, rfl, hnx⟩
          · have hnx := Lib.hid (hk.out.done K2.out (by rw [← HM.out]; omega))
            go_wp2
            go_meet
            case rel => exact ⟨rfl, q, rfl, hnx⟩
    case rest =>
      obtain ⟨rfl, q', rfl, hq'⟩ := hcut
      obtain ⟨N2, hN2⟩ : ∃ N, N = tB * 4294967296 + un0 := ⟨_, rfl⟩
      have hq3 : q' = N2 / yp := by rw [hN2, HYP.out, HY.out]; exact hq'.out
      have hN20 : 0 ≤ N2 := by omega
      have dm := Int.mul_ediv_add_emod N2 yp
      have r0 := Int.emod_nonneg N2 (show yp ≠ 0 by omega)
      have r1 := Int.emod_lt_of_pos N2 (show 0 < yp by omega)
      rw [← hq3, Int.mul_comm] at dm
      have hqc0 : 0 ≤ q' := by rw [hq3]; exact Int.ediv_nonneg hN20 hyp0
      have hqc1 : q' < 4294967296 := by rw [hq3]; exact (Int.ediv_lt_iff_lt_mul (by omega)).2 (by omega)
      obtain ⟨R, hR⟩ : ∃ u, u = N2 % yp := ⟨_, rfl⟩
      rw [← hR] at dm r0 r1
      obtain ⟨vc, hvc⟩ : ∃ v, v = tB * 4294967296 % 18446744073709551616 := ⟨_, rfl⟩
      obtain ⟨vd, hvd⟩ : ∃ v, v = q' * yp % 18446744073709551616 := ⟨_, rfl⟩
      have w1 : IntKind.u64.wrap (tB * 4294967296) = vc := by rw [hvc, u64_wrap]
      have w2 : IntKind.u64.wrap (q' * yp) = vd := by rw [hvd, u64_wrap]
      have vc0 : 0 ≤ vc := by omega
      have vc1 : vc ≤ 18446744069414584320 := by omega
      have vd0 : 0 ≤ vd := by omega
      have vd1 : vd ≤ 18446744073709551615 := by omega
      have w3 : IntKind.u64.wrap (vc + un0 - vd) = R := by rw [u64_wrap]; omega
      have hres : Hid (((tA * 4294967296 + un1) / yp * 4294967296 + ((tA * 4294967296 + un1) % yp * 4294967296 + un0) / yp = q * 4294967296 + q') ∧ ((tA * 4294967296 + un1) % yp * 4294967296 + un0) % yp = R) := by
        show _ ∧ _
        rw [← HN.out, ← HQ.out, ← HU.out, ← hN2, ← hq3, ← hR]
        exact ⟨rfl, rfl⟩
      clear dm hvc hvd hN2 hq3 hR hN20
      go_wp2
      go_ret2
      exact ⟨ret_two hres.out.1.symm (by rw [hres.out.2]), rfl⟩

theorem u64_and32 (a : Int) (h0 : 0 ≤ a) (h1 : a ≤ 18446744073709551615) : bits BinOp.and IntKind.u64 a 4294967295 = a % 4294967296 := by
  obtain ⟨n, rfl⟩ := Int.eq_ofNat_of_zero_le h0
  have h := bits_and_u64_nat n 4294967295 (by omega) (by omega)
  have e : n &&& 4294967295 = n % 4294967296 := Nat.and_two_pow_sub_one_eq_mod n 32
  rw [e] at h
  exact h
theorem u64_orshift (a b : Int) (S : Nat) (h0 : 0 ≤ a) (h1 : a * 2 ^ S < 18446744073709551616) (h2 : 0 ≤ b) (h3 : b < 2 ^ S) (h4 : b < 18446744073709551616) :
    bits BinOp.or IntKind.u64 (a * 2 ^ S) b = a * 2 ^ S + b := by
  obtain ⟨n, rfl⟩ := Int.eq_ofNat_of_zero_le h0
  obtain ⟨m, rfl⟩ := Int.eq_ofNat_of_zero_le h2
  have e : ((n : Int) * 2 ^ S) = ((n * 2 ^ S : Nat) : Int) := by simp
  have hm : m < 2 ^ S := by
    have : ((m : Nat) : Int) < ((2 ^ S : Nat) : Int) := by simpa using h3
    omega
  rw [e] at h1 ⊢
  have h := bits_or_u64_nat (n * 2 ^ S) m (by omega) (by omega)
  rw [← Nat.shiftLeft_eq, ← Nat.shiftLeft_add_eq_or_of_lt hm, Nat.shiftLeft_eq] at h
  rw [h]; omega

/-- The contract where the high word is not nought. -/
theorem div64_hi (w : World) (hi lo y : Int) (h0 : 0 < hi) (h1 : hi < y) (h2 : y ≤ 18446744073709551615) (h3 : 0 ≤ lo) (h4 : lo ≤ 18446744073709551615) :
    Calls Try.prog 63 #[.int .u64 hi, .int .u64 lo, .int .u64 y] w fun e w' =>
      e = .returned (.tuple #[.int .u64 ((hi * 18446744073709551616 + lo) / y), .int .u64 ((hi * 18446744073709551616 + lo) % y)]) ∧ w = w' := by
  obtain ⟨L, hL⟩ : ∃ L, L = Lib.bitLen y.toNat := ⟨_, rfl⟩
  have hb := Lib.bitLenAux_bounds 64 y.toNat (by omega) (by omega)
  have hle := Lib.bitLen_le y.toNat 64 (Nat.le_refl _) (by omega)
  change 1 ≤ Lib.bitLen y.toNat ∧ 2 ^ (Lib.bitLen y.toNat - 1) ≤ y.toNat ∧ y.toNat < 2 ^ Lib.bitLen y.toNat at hb
  rw [← hL] at hb hle
  obtain ⟨hb1, hb2, hb3⟩ := hb
  obtain ⟨S, hS⟩ : ∃ S, S = 64 - L := ⟨_, rfl⟩
  have hyn : y = (y.toNat : Int) := by omega
  have n1 : y.toNat * 2 ^ S < 18446744073709551616 := by
    have : y.toNat * 2 ^ S < 2 ^ L * 2 ^ S := Nat.mul_lt_mul_of_pos_right hb3 (Nat.two_pow_pos S)
    rw [← Nat.pow_add, show L + S = 64 by omega] at this
    exact this
  have n2 : 9223372036854775808 ≤ y.toNat * 2 ^ S := by
    have : 2 ^ (L - 1) * 2 ^ S ≤ y.toNat * 2 ^ S := Nat.mul_le_mul_right _ hb2
    rw [← Nat.pow_add, show L - 1 + S = 63 by omega] at this
    exact this
  have ep : (y.toNat : Int) * 2 ^ S = ((y.toNat * 2 ^ S : Nat) : Int) := by simp
  have y1 : y * 2 ^ S < 18446744073709551616 := by rw [hyn, ep]; omega
  have y2 : 9223372036854775808 ≤ y * 2 ^ S := by rw [hyn, ep]; omega
  have hp : (0 : Int) < 2 ^ S := Int.pow_pos (by decide)
  have hq : (0 : Int) < 2 ^ (64 - S) := Int.pow_pos (by decide)
  have hpq : (2 : Int) ^ S * 2 ^ (64 - S) = 18446744073709551616 := by rw [← Int.pow_add, show S + (64 - S) = 64 by omega]; decide
  have hS63 : S ≤ 63 := by omega
  have hbl : Hid ((64 : Int) - (Lib.bitLen y.toNat : Int) = S) := by show _ = _; rw [← hL]; omega
  clear hb2 hb3 n1 n2 ep hL
  have hh : hi * 2 ^ S < y * 2 ^ S := Int.mul_lt_mul_of_pos_right h1 hp
  have hh0 : 0 ≤ hi * 2 ^ S := Int.mul_nonneg (by omega) (by omega)
  have ld := Int.mul_ediv_add_emod lo (2 ^ (64 - S))
  have lm0 := Int.emod_nonneg lo (show (2 : Int) ^ (64 - S) ≠ 0 by omega)
  have lm1 := Int.emod_lt_of_pos lo hq
  have ld0 : 0 ≤ lo / 2 ^ (64 - S) := Int.ediv_nonneg h3 (by omega)
  have ld1 : lo / 2 ^ (64 - S) < 2 ^ S := (Int.ediv_lt_iff_lt_mul hq).2 (by rw [hpq]; omega)
  have ld2 : lo / 2 ^ (64 - S) < 18446744073709551616 := by
    have : (2 : Int) ^ S ≤ y * 2 ^ S := by
      have := Int.mul_le_mul_of_nonneg_right (show 1 ≤ y by omega) (show (0 : Int) ≤ 2 ^ S by omega)
      omega
    omega
  -- lo times the power: its low 64 bits
  have lp : lo * 2 ^ S = (lo / 2 ^ (64 - S)) * 18446744073709551616 + (lo % 2 ^ (64 - S)) * 2 ^ S := by
    have : lo * 2 ^ S = (2 ^ (64 - S) * (lo / 2 ^ (64 - S)) + lo % 2 ^ (64 - S)) * 2 ^ S := by rw [ld]
    rw [this, Int.add_mul, ← hpq, Int.mul_comm (2 ^ (64 - S)) (lo / 2 ^ (64 - S)), Int.mul_assoc, Int.mul_comm (2 ^ (64 - S)) (2 ^ S)]
  have lr0 : 0 ≤ (lo % 2 ^ (64 - S)) * 2 ^ S := Int.mul_nonneg lm0 (by omega)
  have lr1 : (lo % 2 ^ (64 - S)) * 2 ^ S < 18446744073709551616 := by
    have := Int.mul_lt_mul_of_pos_right lm1 hp
    rw [Int.mul_comm (2 ^ (64 - S)) (2 ^ S), hpq] at this
    exact this
  have lw : lo * 2 ^ S % 18446744073709551616 = (lo % 2 ^ (64 - S)) * 2 ^ S := by omega
  obtain ⟨tA, htA⟩ : ∃ t, t = hi * 2 ^ S + lo / 2 ^ (64 - S) := ⟨_, rfl⟩
  obtain ⟨ul, hul⟩ : ∃ t, t = lo * 2 ^ S % 18446744073709551616 := ⟨_, rfl⟩
  obtain ⟨yp, hyp⟩ : ∃ t, t = y * 2 ^ S := ⟨_, rfl⟩
  have hN : (hi * 18446744073709551616 + lo) * 2 ^ S = (tA * 4294967296 + ul / 4294967296) * 4294967296 + ul % 4294967296 := by
    have : hi * 18446744073709551616 * 2 ^ S = hi * 2 ^ S * 18446744073709551616 := by rw [Int.mul_assoc, Int.mul_comm 18446744073709551616, ← Int.mul_assoc]
    rw [Int.add_mul, this]; omega
  have htlt : tA < yp := by
    have k1 : (hi * 18446744073709551616 + lo) * 2 ^ S < y * 18446744073709551616 * 2 ^ S := Int.mul_lt_mul_of_pos_right (by omega) hp
    have k2 : y * 18446744073709551616 * 2 ^ S = yp * 18446744073709551616 := by rw [hyp, Int.mul_assoc, Int.mul_comm 18446744073709551616, ← Int.mul_assoc]
    omega
  have e1 : IntKind.u64.wrap (y * 2 ^ S) = yp := by rw [u64_wrap]; omega
  have e4 : bits BinOp.or IntKind.u64 (IntKind.u64.wrap (hi * 2 ^ S)) (lo / 2 ^ (64 - S)) = tA := by
    have : IntKind.u64.wrap (hi * 2 ^ S) = hi * 2 ^ S := by rw [u64_wrap]; omega
    rw [this, u64_orshift hi _ S (by omega) (by omega) ld0 ld1 ld2, htA]
  have e5 : IntKind.u64.wrap (lo * 2 ^ S) = ul := by rw [u64_wrap, hul]
  have kt := k_two y (2 ^ S) tA (ul / 4294967296) (ul % 4294967296) (hi * 18446744073709551616 + lo) (by omega) hp (by omega) hN (by omega) (by omega)
  rw [← hyp] at kt
  refine (div64_core w hi lo y S yp (yp / 4294967296) (yp % 4294967296) tA ul (ul / 4294967296) (ul % 4294967296) h0 h1 h2 h3 h4 hS63 hbl e1 rfl (u64_and32 yp (by omega) (by omega)) e4 e5 rfl (u64_and32 ul (by omega) (by omega))
    (by show _ = _; omega) ⟨by omega, by omega, by omega, by omega, by omega, by omega, by omega, by omega⟩ (by omega) (by omega) (by omega) (by omega) (by omega) (by omega)).mono ?_
  rintro e w' ⟨rfl, rfl⟩
  exact ⟨ret_two kt.1 kt.2, rfl⟩

set_option maxRecDepth 100000 in
set_option maxHeartbeats 400000 in
/-- The contract where the high word is nought. -/
theorem div64_lo (w : World) (lo y : Int) (h1 : 0 < y) (h2 : y ≤ 18446744073709551615) (h3 : 0 ≤ lo) (h4 : lo ≤ 18446744073709551615) :
    Calls Try.prog 63 #[.int .u64 0, .int .u64 lo, .int .u64 y] w fun e w' =>
      e = .returned (.tuple #[.int .u64 (lo / y), .int .u64 (lo % y)]) ∧ ∃ n, w' = w.drewN n := by
  have i1 : (y == 0) = false := by simp; omega
  have q0 : 0 ≤ lo / y := Int.ediv_nonneg h3 (by omega)
  have q1 : lo / y ≤ lo := Int.ediv_le_self _ h3
  have q2 : lo.tdiv y = lo / y := Int.tdiv_eq_ediv_of_nonneg h3
  have q3 : lo.tmod y = lo % y := Int.tmod_eq_emod_of_nonneg h3
  have q4 : IntKind.u64.wrap (lo / y) = lo / y := by rw [u64_wrap]; omega
  have hle : ¬ y ≤ 0 := by omega
  go_enter Try.func63, Try.ntmps63
  go_wp2
  go_quiet (fail)
  go_wp2
  go_ret2
  exact ⟨ret_two rfl rfl, _, rfl⟩

/-- THE CONTRACT: the high word below the divisor. -/
theorem div64_any (w : World) (hi lo y : Int) (h0 : 0 ≤ hi) (h1 : hi < y) (h2 : y ≤ 18446744073709551615) (h3 : 0 ≤ lo) (h4 : lo ≤ 18446744073709551615) :
    Calls Try.prog 63 #[.int .u64 hi, .int .u64 lo, .int .u64 y] w fun e w' =>
      e = .returned (.tuple #[.int .u64 ((hi * 18446744073709551616 + lo) / y), .int .u64 ((hi * 18446744073709551616 + lo) % y)]) ∧ ∃ n, w' = w.drewN n := by
  rcases (by omega : hi = 0 ∨ 0 < hi) with rfl | h
  · rw [show (0 : Int) * 18446744073709551616 + lo = lo by omega]
    exact div64_lo w lo y h1 h2 h3 h4
  · exact (div64_hi w hi lo y h h1 h2 h3 h4).mono fun e w' ⟨he, hw⟩ => ⟨he, 0, hw.symm⟩
end Go.Proofs.Ytjnohdkpkbiclaa
