/-
  The contracts of the reference's Groups, Zigzag and Word. Conditions: the types' own ranges.
-/
import Derived.Test.YtganokcmcdkdgaaGreatPZ12
import Derived.Test.YtganokcmcdkdgaaGreatPZ9
namespace Go.Proofs.YtganokcmcdkdgaaGreat.Oc
open Go.RowKit

theorem own_one (w : World) (x : Int) : (w.alloc (.cells #[.int .u8 x] 5)).ownsRow w.heap.size 5 1 (.slice (some ⟨w.heap.size, 0, none⟩) 1 1) 1 [.int .u8 x] :=
  ⟨rfl, .inr ⟨w.heap.size, 1, #[.int .u8 x], rfl, Nat.le_refl _, heap_alloc_new w _, Nat.le_refl _, by unfold maxLen; omega, rfl, rfl⟩⟩
set_option maxRecDepth 100000 in
theorem fgroups_lv (k : Nat) : ∀ (m : Nat) (w : World), m < 2 * 128 ^ k → k ≤ 9 → Calls Tryz.prog 39 #[.int .u64 (m : Int)] w fun e w' => ∃ v, e = .returned v ∧ w'.ownsRow w.heap.size 5 1 v (grpF k m).length (bv (grpF k m)) ∧ Below w.heap.size w w' := by
  obtain ⟨i0, hi0, hz0, hz1, hz2⟩ := info_parts u8Inf
  induction k with
  | zero =>
    intro m w hm _
    have hm2 : m < 2 := by simpa using hm
    have t1 : (m : Int) < 128 := by omega
    have HO := Lib.hid (own_one w (m : Int))
    have HB : Hid (Below w.heap.size w (w.alloc (.cells #[.int .u8 (m : Int)] 5))) := (Below.refl _ _).alloc (Nat.le_refl _) _
    clear hm
    go_enter Tryz.func39, Tryz.ntmps39
    go_wp2
    go_ret
    exact ⟨_, rfl, HO.out, HB.out⟩
  | succ k ih =>
    intro m w hm hk9
    by_cases h : m < 128
    · rw [grpF_one h]
      have t1 : (m : Int) < 128 := by omega
      have HO := Lib.hid (own_one w (m : Int))
      have HB : Hid (Below w.heap.size w (w.alloc (.cells #[.int .u8 (m : Int)] 5))) := (Below.refl _ _).alloc (Nat.le_refl _) _
      clear hm ih
      go_enter Tryz.func39, Tryz.ntmps39
      go_wp2
      go_ret
      exact ⟨_, rfl, HO.out, HB.out⟩
    · have hle : (128 : Nat) ^ (k + 1) ≤ 128 ^ 9 := Nat.pow_le_pow_right (by decide) hk9
      have e9 : (128 : Nat) ^ 9 = 9223372036854775808 := by decide
      have t1 : ¬ (m : Int) < 128 := by omega
      have t2 : (m : Int) < 18446744073709551616 := by omega
      obtain ⟨c, hc⟩ : ∃ c, c = m % 128 := ⟨_, rfl⟩
      obtain ⟨q, hq⟩ : ∃ q, q = m / 128 := ⟨_, rfl⟩
      have e1 : (m : Int) % 128 = (c : Int) := by omega
      have e2 : (m : Int) / 128 = (q : Int) := by omega
      have HC := Lib.hid (ih q (w.alloc (.cells #[.int .u8 ((c : Int) + 128)] 5)) (by rw [Nat.pow_succ] at hm; omega) (by omega))
      have HG : Hid (grpF (k + 1) m = ((c : Int) + 128) :: grpF k q) := by show _ = _; rw [grpF_more h, hc, hq]
      have HO := Lib.hid (own_one w ((c : Int) + 128))
      have HB : Hid (Below w.heap.size w (w.alloc (.cells #[.int .u8 ((c : Int) + 128)] 5))) := (Below.refl _ _).alloc (Nat.le_refl _) _
      have hlen := grpF_len k q
      have c1 : c < 128 := by omega
      obtain ⟨L, hL⟩ : ∃ L, L = grpF k q := ⟨_, rfl⟩
      rw [HG.out]
      rw [← hL] at HC hlen ⊢
      clear hm ih hc hq hle e9 h HG hL
      go_enter Tryz.func39, Tryz.ntmps39
      go_wp2_with (first
        | (at_builtin; refine wpList_append_own _ rfl _ _ 22 rfl w.heap.size 5 i0 (.int .u8 0) 1 1 Tryz.underlying22 hi0 hz0 hz1 hz2 rfl (by decide) _ _ _ rfl HO1.out ⟨g, 0, none⟩ L.length cp (bv L) rfl (by rw [bv_len]; omega) HL1.out (bv_one _) (by unfold maxLen; omega) (by omega) (by have := B1.out.size; omega) ?_; intro v' w2 hown hgrow hnil)
        | (go_at_call 39; refine HC.out.mono ?_; rintro e w1 ⟨v, rfl, ho1, hb1⟩
           obtain ⟨g, cp, rfl, hbg, _⟩ := ho1.form (by omega)
           have HL1 := Lib.hid (ho1.cells (g := g) rfl)
           have HO1 := Lib.hid (ownsRow_kept HO.out (fun g2 hg2 => hb1.block g2 (HO.out.lt g2 hg2).2))
           have B1 := Lib.hid (HB.out.trans (hb1.mono HB.out.size))
           clear ho1 hb1))
      go_ret
      refine ⟨v', rfl, ?_, B1.out.grown hgrow B1.out.size (fun j hj => (HO1.out.lt j hj).1)⟩
      rw [Nat.add_comm]
      exact hown
theorem fgroups_any (w : World) (m : Nat) (h : m < 18446744073709551616) : Calls Tryz.prog 39 #[.int .u64 (m : Int)] w fun e w' => ∃ v, e = .returned v ∧ w'.ownsRow w.heap.size 5 1 v (grp m).length (bv (grp m)) ∧ Below w.heap.size w w' :=
  fgroups_lv 9 m w (by rw [pow9]; exact h) (Nat.le_refl _)
/-! ### Word -/
theorem made8 : ∀ W : World, (Instr.makeSlice 22 (.int .i64 8) (.int .i64 8)).run Tryz.prog W = .ok (.slice (some ⟨W.heap.size, 0, none⟩) 8 8) (W.alloc (.cells #[.int .u8 0, .int .u8 0, .int .u8 0, .int .u8 0, .int .u8 0, .int .u8 0, .int .u8 0, .int .u8 0] 5)) := fun _ => by kernel_rfl
/-- Behind 8 - k bytes from the end. -/
def wordC (k lo : Nat) : List Int := List.replicate k 0 ++ wordF8 k lo
where wordF8 (k lo : Nat) : List Int := (wordF 8 lo).drop k
theorem wordF_get (n k lo : Nat) (h : k < n) : (wordF n lo)[k]? = some ((lo / 256 ^ (n - 1 - k) % 256 : Nat) : Int) := by
  induction n generalizing k with
  | zero => omega
  | succ n ih =>
    rw [wordF]
    cases k with
    | zero => rfl
    | succ k =>
      rw [List.getElem?_cons_succ, ih k (by omega)]
      rw [show n + 1 - 1 - (k + 1) = n - 1 - k by omega]
theorem wordC_len (k lo : Nat) (h : k ≤ 8) : (wordC k lo).length = 8 := by
  unfold wordC wordC.wordF8
  simp [wordF_len]
  omega
theorem wordC_step (k lo : Nat) (h : k < 8) : (wordC (k + 1) lo).set k ((lo / 256 ^ (7 - k) % 256 : Nat) : Int) = wordC k lo := by
  have hg := wordF_get 8 k lo h
  have hlt : k < (wordF 8 lo).length := by rw [wordF_len]; exact h
  have hd : (wordF 8 lo).drop k = ((lo / 256 ^ (7 - k) % 256 : Nat) : Int) :: (wordF 8 lo).drop (k + 1) := by
    rw [List.drop_eq_getElem_cons hlt]
    rw [List.getElem?_eq_getElem hlt] at hg
    rw [Option.some.inj hg]
  unfold wordC wordC.wordF8
  rw [hd, List.replicate_succ', List.append_assoc, List.set_append_right _ _ (by simp)]
  simp
theorem wordC_end (lo : Nat) : wordC 0 lo = wordF 8 lo := rfl
theorem wordC_start (lo : Nat) : wordC 8 lo = [0, 0, 0, 0, 0, 0, 0, 0] := by
  unfold wordC wordC.wordF8
  rw [List.drop_of_length_le (by rw [wordF_len]; exact Nat.le_refl _)]
  rfl
theorem own_eight (w : World) (g : Nat) (l : List Int) (hl : l.length = 8) (base : Nat) (hb : base ≤ g) (h : w.heap[g]? = some (.cells (bv l).toArray 5 (0, 0))) : w.ownsRow base 5 1 (.slice (some ⟨g, 0, none⟩) 8 8) l.length (bv l) := by
  rw [hl]
  refine ⟨by rw [bv_len, hl], .inr ⟨g, 8, _, rfl, hb, h, Nat.le_refl _, by unfold maxLen; omega, by simp [bv_len, hl], ?_⟩⟩
  rw [show 8 * 1 = (bv l).length by rw [bv_len, hl]]
  simp
end Go.Proofs.YtganokcmcdkdgaaGreat.Oc

namespace Go.Proofs.YtganokcmcdkdgaaGreat.Fr
open Go.RowKit

theorem bits_xor64 (a b : Nat) (ha : a < 4294967296) (hb : b < 4294967296) : bits .xor .i64 (a : Int) (b : Int) = ((a ^^^ b : Nat) : Int) := by
  show IntKind.i64.wrap ((BitVec.ofInt 64 (a : Int) ^^^ BitVec.ofInt 64 (b : Int)).toNat : Int) = _
  have := lt_xor ha hb
  have e1 : (BitVec.ofInt 64 (a : Int)).toNat = a := by rw [BitVec.toNat_ofInt]; omega
  have e2 : (BitVec.ofInt 64 (b : Int)).toNat = b := by rw [BitVec.toNat_ofInt]; omega
  rw [BitVec.toNat_xor, e1, e2, IntKind.wrap_i64]
  omega
/-- A step of the register, bit by bit. -/
theorem stp_eq {c d : Nat} (h : c % 2 = d % 2) : stp (c ^^^ d) = (c / 2) ^^^ (d / 2) := by
  have h1 : (c ^^^ d) % 2 = 0 := by
    rcases Nat.mod_two_eq_zero_or_one (c ^^^ d) with h2 | h2
    · exact h2
    · rw [Nat.xor_mod_two_eq_one] at h2
      omega
  unfold stp
  rw [h1, Nat.xor_div_two]
  simp
theorem stp_ne {c d : Nat} (h : ¬ c % 2 = d % 2) : stp (c ^^^ d) = ((c / 2) ^^^ 3988292384) ^^^ (d / 2) := by
  have h1 : (c ^^^ d) % 2 = 1 := by
    rw [Nat.xor_mod_two_eq_one]
    omega
  unfold stp
  rw [h1, Nat.xor_div_two, Nat.mul_one, Nat.xor_assoc, Nat.xor_assoc, Nat.xor_comm (d / 2)]
/-- The register and the byte's bits that are left, behind k steps. -/
def BitI (r b k c d : Nat) : Prop := c < 4294967296 ∧ d < 2 ^ (8 - k) ∧ stps (8 - k) (c ^^^ d) = mvF r b
theorem BitI.eq {r b k c d : Nat} (h : BitI r b k c d) (hk : k < 8) (hp : c % 2 = d % 2) : BitI r b (k + 1) (c / 2) (d / 2) := by
  obtain ⟨h1, h2, h3⟩ := h
  have e : 8 - k = 8 - (k + 1) + 1 := by omega
  rw [e] at h2 h3
  rw [Nat.pow_succ] at h2
  refine ⟨by omega, by omega, ?_⟩
  have : stps (8 - (k + 1)) (stp (c ^^^ d)) = mvF r b := h3
  rw [stp_eq hp] at this
  exact this
theorem BitI.ne {r b k c d : Nat} (h : BitI r b k c d) (hk : k < 8) (hp : ¬ c % 2 = d % 2) : BitI r b (k + 1) (c / 2 ^^^ 3988292384) (d / 2) := by
  obtain ⟨h1, h2, h3⟩ := h
  have e : 8 - k = 8 - (k + 1) + 1 := by omega
  rw [e] at h2 h3
  rw [Nat.pow_succ] at h2
  refine ⟨lt_xor (by omega) (by decide), by omega, ?_⟩
  have : stps (8 - (k + 1)) (stp (c ^^^ d)) = mvF r b := h3
  rw [stp_ne hp] at this
  exact this
theorem BitI.done {r b c d : Nat} (h : BitI r b 8 c d) : c = mvF r b := by
  obtain ⟨_, h2, h3⟩ := h
  have h4 : d = 0 := by
    have : (2 : Nat) ^ (8 - 8) = 1 := by decide
    omega
  rw [h4, Nat.xor_zero] at h3
  exact h3

set_option maxRecDepth 100000 in
set_option maxHeartbeats 4000000 in
theorem rsum_any (w : World) (v : Value) (l : List Int) (h : BAt w v l) (hb : bok l) (hl : l.length ≤ 2000000) :
    Calls Tryz.prog 57 #[v] w fun e w' => e = .returned (.int .i64 (crc l : Int)) ∧ w = w' := by
  obtain ⟨A, cap, rfl, _, hc⟩ := h
  obtain ⟨n, hn⟩ : ∃ n, n = l.length := ⟨_, rfl⟩
  rw [← hn] at hc hl ⊢
  have HC := Lib.hid hc
  have HB := Lib.hid hb
  have HN := Lib.hid hn
  clear hc hb hn
  go_enter Tryz.func57, Tryz.ntmps57
  go_wp2
  go_loopg [3, 4] n (fun (gh : Nat) s3 s4 wx => ∃ i r : Nat, gh = n - i ∧ i ≤ n ∧ s3 = .int .i64 (r : Int) ∧ s4 = .int .i64 (i : Int) ∧ Hid (r = crcF 4294967295 (l.take i)) ∧ wx = w)
  case atStart => exact ⟨0, 4294967295, rfl, Nat.zero_le _, rfl, rfl, rfl, rfl⟩
  case round =>
    obtain ⟨i, r, rfl, hi, rfl, rfl, hr, rfl⟩ := hrel
    by_cases hlt : i < n
    · have t1 : (i : Int) < (n : Int) := by omega
      obtain ⟨g, o, rfl, _, hcc⟩ := HC.out (by omega)
      obtain ⟨b, hb⟩ : ∃ b, b = (l.getD i 0).toNat := ⟨_, rfl⟩
      have hbr := bok_at HB.out (i := i) (by rw [← HN.out]; exact hlt)
      have hcb := hcc i hlt
      rw [show l.getD i 0 = (b : Int) by omega] at hcb
      have hb2 : b < 256 := by omega
      have hrl : r < 4294967296 := by rw [hr.out]; exact crcF_lt (bok_take HB.out i) (by decide)
      have HR : Hid (mvF r b = crcF 4294967295 (l.take (i + 1))) := by
        show _ = _
        rw [crcF_snoc (by rw [← HN.out]; exact hlt), ← hr.out, hb]
      have H0 : Hid (BitI r b 0 r b) := ⟨hrl, hb2, rfl⟩
      clear hcc hb hbr hr
      go_wp2
      go_loopg [3, 5, 6] 8 (fun (gh : Nat) s3 s5 s6 wx => ∃ k c d : Nat, gh = 8 - k ∧ k ≤ 8 ∧ s3 = .int .i64 (c : Int) ∧ s5 = .int .i64 (d : Int) ∧ s6 = .int .i64 (k : Int) ∧ Hid (BitI r b k c d) ∧ wx = wr)
      case atStart => exact ⟨0, r, b, rfl, Nat.zero_le _, rfl, rfl, rfl, H0.out, rfl⟩
      case round =>
        clear H0
        obtain ⟨k, c, d, rfl, hk, rfl, rfl, rfl, hI, rfl⟩ := hrel
        by_cases hlt2 : k < 8
        · have t2 : (k : Int) < 8 := by omega
          have hc2 := hI.out.1
          have hd2 : d < 256 := by
            have h1 := hI.out.2.1
            have h2 : 2 ^ (8 - k) ≤ 2 ^ 8 := Nat.pow_le_pow_right (by decide) (by omega)
            have h3 : (2 : Nat) ^ 8 = 256 := by decide
            omega
          obtain ⟨y, hy⟩ : ∃ y, y = c / 2 := ⟨_, rfl⟩
          obtain ⟨z, hz⟩ : ∃ z, z = d / 2 := ⟨_, rfl⟩
          obtain ⟨u, hu⟩ : ∃ u : Nat, u = c % 2 := ⟨_, rfl⟩
          obtain ⟨v, hv⟩ : ∃ v : Nat, v = d % 2 := ⟨_, rfl⟩
          have e1 : (c : Int) / 2 = (y : Int) := by omega
          have e2 : (d : Int) / 2 = (z : Int) := by omega
          have e3 : (c : Int) % 2 = (u : Int) := by omega
          have e4 : (d : Int) % 2 = (v : Int) := by omega
          have e1' : (c : Int).tdiv 2 = (y : Int) := by rw [Int.tdiv_eq_ediv_of_nonneg (by omega)]; exact e1
          have e2' : (d : Int).tdiv 2 = (z : Int) := by rw [Int.tdiv_eq_ediv_of_nonneg (by omega)]; exact e2
          have e3' : (c : Int).tmod 2 = (u : Int) := by rw [Int.tmod_eq_emod_of_nonneg (by omega)]; exact e3
          have e4' : (d : Int).tmod 2 = (v : Int) := by rw [Int.tmod_eq_emod_of_nonneg (by omega)]; exact e4
          have hyb : y < 4294967296 := by omega
          by_cases huv : u = v
          · have HI : Hid (BitI r b (k + 1) y z) := by rw [hy, hz]; exact hI.out.eq hlt2 (by omega)
            subst huv
            clear hy hz hu hv hI
            go_wp2
            go_roundg (8 - (k + 1))
            case measure => omega
            case rel => exact ⟨k + 1, y, z, rfl, hlt2, rfl, rfl, by go_num, HI.out, rfl⟩
          · obtain ⟨x, hx⟩ : ∃ x, x = y ^^^ 3988292384 := ⟨_, rfl⟩
            have HI : Hid (BitI r b (k + 1) x z) := by rw [hx, hy, hz]; exact hI.out.ne hlt2 (by omega)
            have e5 : bits .xor .i64 (y : Int) 3988292384 = (x : Int) := by
              have := bits_xor64 y 3988292384 hyb (by decide)
              rw [hx]
              exact this
            have t3 : ¬ (u : Int) = (v : Int) := by omega
            clear hy hz hu hv hI hx
            go_wp2
            go_roundg (8 - (k + 1))
            case measure => omega
            case rel => exact ⟨k + 1, x, z, rfl, hlt2, rfl, rfl, by go_num, HI.out, rfl⟩
        · obtain rfl : k = 8 := by omega
          have HE : Hid (c = crcF 4294967295 (l.take (i + 1))) := by show _ = _; rw [hI.out.done, HR.out]
          clear hI
          go_wp2
          go_roundg (n - (i + 1))
          case measure => omega
          case rel => exact ⟨i + 1, c, rfl, hlt, rfl, by go_num, HE.out, rfl⟩
    · obtain rfl : i = n := by omega
      have hrl : r < 4294967296 := by rw [hr.out]; exact crcF_lt (bok_take HB.out i) (by decide)
      have HE : Hid ((4294967295 : Int) - (r : Int) = (crc l : Int)) := by
        show _ = _
        have h1 : r = crcF 4294967295 l := by rw [hr.out, HN.out, List.take_of_length_le (Nat.le_refl _)]
        unfold crc
        rw [← h1]
        omega
      clear hr
      go_wp2
      go_ret
      exact ⟨by rw [← HE.out]; rfl, rfl⟩
end Go.Proofs.YtganokcmcdkdgaaGreat.Fr
