/-
  The contract of the reference's Sum: the same check sum, bit by bit. Conditions: at most two million bytes.
-/
import Derived.Test.YtjijgoflbjbnfaaGreatVM3
import Derived.Test.YtjijgoflbjbnfaaGreatVM4
import Derived.Test.YtjijgoflbjbnfaaGreatVM24
namespace Go.Proofs.YtjijgoflbjbnfaaGreat.Fr
open Go.RowKit

theorem bits_xor64 (a b : Nat) (ha : a < 4294967296) (hb : b < 4294967296) : bits .xor .i64 (a : Int) (b : Int) = ((a ^^^ b : Nat) : Int) := by
  show IntKind.i64.wrap ((BitVec.ofInt 64 (a : Int) ^^^ BitVec.ofInt 64 (b : Int)).toNat : Int) = _
  have := lt_xor ha hb
  have e1 : (BitVec.ofInt 64 (a : Int)).toNat = a := by rw [BitVec.toNat_ofInt]; omega
  have e2 : (BitVec.ofInt 64 (b : Int)).toNat = b := by rw [BitVec.toNat_ofInt]; omega
  rw [BitVec.toNat_xor, e1, e2, IntKind.wrap_i64]
  omega
/-- A step of the register, bit by bit. -/
theorem stp_eq {c d : Nat} (h : c % 2 = d % 2) : stp (c ^^^ d) = (c / 2) ^^^ (d / 2) := by
  have h1 : (c ^^^ d) % 2 = 0 := by
    rcases Nat.mod_two_eq_zero_or_one (c ^^^ d) with h2 | h2
    · exact h2
    · rw [Nat.xor_mod_two_eq_one] at h2
      omega
  unfold stp
  rw [h1, Nat.xor_div_two]
  simp
theorem stp_ne {c d : Nat} (h : ¬ c % 2 = d % 2) : stp (c ^^^ d) = ((c / 2) ^^^ 3988292384) ^^^ (d / 2) := by
  have h1 : (c ^^^ d) % 2 = 1 := by
    rw [Nat.xor_mod_two_eq_one]
    omega
  unfold stp
  rw [h1, Nat.xor_div_two, Nat.mul_one, Nat.xor_assoc, Nat.xor_assoc, Nat.xor_comm (d / 2)]
/-- The register and the byte's bits that are left, behind k steps. -/
def BitI (r b k c d : Nat) : Prop := c < 4294967296 ∧ d < 2 ^ (8 - k) ∧ stps (8 - k) (c ^^^ d) = mvF r b
theorem BitI.eq {r b k c d : Nat} (h : BitI r b k c d) (hk : k < 8) (hp : c % 2 = d % 2) : BitI r b (k + 1) (c / 2) (d / 2) := by
  obtain ⟨h1, h2, h3⟩ := h
  have e : 8 - k = 8 - (k + 1) + 1 := by omega
  rw [e] at h2 h3
  rw [Nat.pow_succ] at h2
  refine ⟨by omega, by omega, ?_⟩
  have : stps (8 - (k + 1)) (stp (c ^^^ d)) = mvF r b := h3
  rw [stp_eq hp] at this
  exact this
theorem BitI.ne {r b k c d : Nat} (h : BitI r b k c d) (hk : k < 8) (hp : ¬ c % 2 = d % 2) : BitI r b (k + 1) (c / 2 ^^^ 3988292384) (d / 2) := by
  obtain ⟨h1, h2, h3⟩ := h
  have e : 8 - k = 8 - (k + 1) + 1 := by omega
  rw [e] at h2 h3
  rw [Nat.pow_succ] at h2
  refine ⟨lt_xor (by omega) (by decide), by omega, ?_⟩
  have : stps (8 - (k + 1)) (stp (c ^^^ d)) = mvF r b := h3
  rw [stp_ne hp] at this
  exact this
theorem BitI.done {r b c d : Nat} (h : BitI r b 8 c d) : c = mvF r b := by
  obtain ⟨_, h2, h3⟩ := h
  have h4 : d = 0 := by
    have : (2 : Nat) ^ (8 - 8) = 1 := by decide
    omega
  rw [h4, Nat.xor_zero] at h3
  exact h3

set_option maxRecDepth 100000 in
set_option maxHeartbeats 4000000 in
theorem rsum_any (w : World) (v : Value) (l : List Int) (h : BAt w v l) (hb : bok l) (hl : l.length ≤ 2000000) :
    Calls Tryz.prog 103 #[v] w fun e w' => e = .returned (.int .i64 (crc l : Int)) ∧ w = w' := by
  obtain ⟨A, cap, rfl, _, hc⟩ := h
  obtain ⟨n, hn⟩ : ∃ n, n = l.length := ⟨_, rfl⟩
  rw [← hn] at hc hl ⊢
  have HC := Lib.hid hc
  have HB := Lib.hid hb
  have HN := Lib.hid hn
  clear hc hb hn
  go_enter Tryz.func103, Tryz.ntmps103
  go_wp2
  go_loopg [3, 4] n (fun (gh : Nat) s3 s4 wx => ∃ i r : Nat, gh = n - i ∧ i ≤ n ∧ s3 = .int .i64 (r : Int) ∧ s4 = .int .i64 (i : Int) ∧ Hid (r = crcF 4294967295 (l.take i)) ∧ wx = w)
  case atStart => exact ⟨0, 4294967295, rfl, Nat.zero_le _, rfl, rfl, rfl, rfl⟩
  case round =>
    obtain ⟨i, r, rfl, hi, rfl, rfl, hr, rfl⟩ := hrel
    by_cases hlt : i < n
    · have t1 : (i : Int) < (n : Int) := by omega
      obtain ⟨g, o, rfl, _, hcc⟩ := HC.out (by omega)
      obtain ⟨b, hb⟩ : ∃ b, b = (l.getD i 0).toNat := ⟨_, rfl⟩
      have hbr := bok_at HB.out (i := i) (by rw [← HN.out]; exact hlt)
      have hcb := hcc i hlt
      rw [show l.getD i 0 = (b : Int) by omega] at hcb
      have hb2 : b < 256 := by omega
      have hrl : r < 4294967296 := by rw [hr.out]; exact crcF_lt (bok_take HB.out i) (by decide)
      have HR : Hid (mvF r b = crcF 4294967295 (l.take (i + 1))) := by
        show _ = _
        rw [crcF_snoc (by rw [← HN.out]; exact hlt), ← hr.out, hb]
      have H0 : Hid (BitI r b 0 r b) := ⟨hrl, hb2, rfl⟩
      clear hcc hb hbr hr
      go_wp2
      go_loopg [3, 5, 6] 8 (fun (gh : Nat) s3 s5 s6 wx => ∃ k c d : Nat, gh = 8 - k ∧ k ≤ 8 ∧ s3 = .int .i64 (c : Int) ∧ s5 = .int .i64 (d : Int) ∧ s6 = .int .i64 (k : Int) ∧ Hid (BitI r b k c d) ∧ wx = wr)
      case atStart => exact ⟨0, r, b, rfl, Nat.zero_le _, rfl, rfl, rfl, H0.out, rfl⟩
      case round =>
        clear H0
        obtain ⟨k, c, d, rfl, hk, rfl, rfl, rfl, hI, rfl⟩ := hrel
        by_cases hlt2 : k < 8
        · have t2 : (k : Int) < 8 := by omega
          have hc2 := hI.out.1
          have hd2 : d < 256 := by
            have h1 := hI.out.2.1
            have h2 : 2 ^ (8 - k) ≤ 2 ^ 8 := Nat.pow_le_pow_right (by decide) (by omega)
            have h3 : (2 : Nat) ^ 8 = 256 := by decide
            omega
          obtain ⟨y, hy⟩ : ∃ y, y = c / 2 := ⟨_, rfl⟩
          obtain ⟨z, hz⟩ : ∃ z, z = d / 2 := ⟨_, rfl⟩
          obtain ⟨u, hu⟩ : ∃ u : Nat, u = c % 2 := ⟨_, rfl⟩
          obtain ⟨v, hv⟩ : ∃ v : Nat, v = d % 2 := ⟨_, rfl⟩
          have e1 : (c : Int) / 2 = (y : Int) := by omega
          have e2 : (d : Int) / 2 = (z : Int) := by omega
          have e3 : (c : Int) % 2 = (u : Int) := by omega
          have e4 : (d : Int) % 2 = (v : Int) := by omega
          have e1' : (c : Int).tdiv 2 = (y : Int) := by rw [Int.tdiv_eq_ediv_of_nonneg (by omega)]; exact e1
          have e2' : (d : Int).tdiv 2 = (z : Int) := by rw [Int.tdiv_eq_ediv_of_nonneg (by omega)]; exact e2
          have e3' : (c : Int).tmod 2 = (u : Int) := by rw [Int.tmod_eq_emod_of_nonneg (by omega)]; exact e3
          have e4' : (d : Int).tmod 2 = (v : Int) := by rw [Int.tmod_eq_emod_of_nonneg (by omega)]; exact e4
          have hyb : y < 4294967296 := by omega
          by_cases huv : u = v
          · have HI : Hid (BitI r b (k + 1) y z) := by rw [hy, hz]; exact hI.out.eq hlt2 (by omega)
            subst huv
            clear hy hz hu hv hI
            go_wp2
            go_roundg (8 - (k + 1))
            case measure => omega
            case rel => exact ⟨k + 1, y, z, rfl, hlt2, rfl, rfl, by go_num, HI.out, rfl⟩
          · obtain ⟨x, hx⟩ : ∃ x, x = y ^^^ 3988292384 := ⟨_, rfl⟩
            have HI : Hid (BitI r b (k + 1) x z) := by rw [hx, hy, hz]; exact hI.out.ne hlt2 (by omega)
            have e5 : bits .xor .i64 (y : Int) 3988292384 = (x : Int) := by
              have := bits_xor64 y 3988292384 hyb (by decide)
              rw [hx]
              exact this
            have t3 : ¬ (u : Int) = (v : Int) := by omega
            clear hy hz hu hv hI hx
            go_wp2
            go_roundg (8 - (k + 1))
            case measure => omega
            case rel => exact ⟨k + 1, x, z, rfl, hlt2, rfl, rfl, by go_num, HI.out, rfl⟩
        · obtain rfl : k = 8 := by omega
          have HE : Hid (c = crcF 4294967295 (l.take (i + 1))) := by show _ = _; rw [hI.out.done, HR.out]
          clear hI
          go_wp2
          go_roundg (n - (i + 1))
          case measure => omega
          case rel => exact ⟨i + 1, c, rfl, hlt, rfl, by go_num, HE.out, rfl⟩
    · obtain rfl : i = n := by omega
      have hrl : r < 4294967296 := by rw [hr.out]; exact crcF_lt (bok_take HB.out i) (by decide)
      have HE : Hid ((4294967295 : Int) - (r : Int) = (crc l : Int)) := by
        show _ = _
        have h1 : r = crcF 4294967295 l := by rw [hr.out, HN.out, List.take_of_length_le (Nat.le_refl _)]
        unfold crc
        rw [← h1]
        omega
      clear hr
      go_wp2
      go_ret
      exact ⟨by rw [← HE.out]; rfl, rfl⟩
end Go.Proofs.YtjijgoflbjbnfaaGreat.Fr

namespace Go.Proofs.YtjijgoflbjbnfaaGreat.Fr
open Go.RowKit

set_option maxRecDepth 100000 in
set_option maxHeartbeats 4000000 in
theorem rnumber_any (w : World) (A : Option Addr) (cap : Nat) (l : List Int) (h : BAt w (.slice A 4 cap) l) (hb : bok l) :
    Calls Tryz.prog 102 #[.slice A 4 cap] w fun e w' => e = .returned (.int .i64 (numF 0 l : Int)) ∧ Below w.heap.size w w' := by
  obtain ⟨g, o, rfl⟩ := h.place (by decide)
  have hl := h.len.1
  obtain ⟨a, b, c, d, rfl⟩ := list4 hl
  have c0 : w.cell? ⟨g, o, none⟩ = some (.int .u8 a) := by obtain ⟨g', o', h1, h2, _⟩ := h.cell 0 (by decide); cases h1; exact h2
  have c1 : w.cell? ⟨g, o + 1, none⟩ = some (.int .u8 b) := by obtain ⟨g', o', h1, h2, _⟩ := h.cell 1 (by decide); cases h1; exact h2
  have c2 : w.cell? ⟨g, o + 2, none⟩ = some (.int .u8 c) := by obtain ⟨g', o', h1, h2, _⟩ := h.cell 2 (by decide); cases h1; exact h2
  have c3 : w.cell? ⟨g, o + 3, none⟩ = some (.int .u8 d) := by obtain ⟨g', o', h1, h2, _⟩ := h.cell 3 (by decide); cases h1; exact h2
  have h0 := hb a (by simp); have h1 := hb b (by simp); have h2 := hb c (by simp); have h3 := hb d (by simp)
  obtain ⟨a0, a1⟩ := h0
  obtain ⟨b0, b1⟩ := h1
  obtain ⟨d0, d1⟩ := h3
  obtain ⟨x0, x1⟩ := h2
  have HN : Hid (((a * 256 + b) * 256 + c) * 256 + d = (numF 0 [a, b, c, d] : Int)) := by
    show _ = _
    simp only [numF]
    omega
  clear h hb hl
  go_enter Tryz.func102, Tryz.ntmps102
  go_wp2_with fail
  go_quiet (fail)
  go_wp2
  go_ret
  exact ⟨by rw [← HN.out]; rfl, below_drewN (Below.refl _ w) _⟩

set_option maxRecDepth 100000 in
theorem rnext_short (K : Nat → Prop) (w : World) (A : Option Addr) (n cap : Nat) (l : List Int) (h : BAt w (.slice A n cap) l) (hn : n < 8) :
    Calls Tryz.prog 70 #[.slice A n cap] w fun e w' => FstK K l e w' ∧ Below w.heap.size w w' := by
  have hl := h.len.1
  have HF := Lib.hid (fst_badK (l := l) (x := 12) (by unfold nxE; rw [if_pos (by omega)]) (by decide) K)
  have t1 : (n : Int) < 8 := by omega
  clear h hl
  go_enter Tryz.func70, Tryz.ntmps70
  go_wp2
  go_ret3
  exact ⟨HF.out w, Below.refl _ _⟩
set_option maxRecDepth 100000 in
set_option maxHeartbeats 4000000 in
theorem rnext_more (K : Nat → Prop) (w : World) (A : Option Addr) (n cap : Nat) (l : List Int) (h : BAt w (.slice A n cap) l) (hb : bok l) (hn : 8 ≤ n) (hn2 : n ≤ 2000000) (hK : BK K (.slice A n cap) l) :
    Calls Tryz.prog 70 #[.slice A n cap] w fun e w' => FstK K l e w' ∧ Below w.heap.size w w' := by
  obtain ⟨hl, hcap⟩ := h.len
  obtain ⟨g, o, rfl⟩ := h.place (by omega)
  have HKG : Hid (K g) := hK (by omega) ⟨g, o, none⟩ n cap rfl
  clear hK
  obtain ⟨m, hm⟩ : ∃ m, m = nn l := ⟨_, rfl⟩
  have h4 := (h.take 4 (by omega)).1
  have hm2 : m < 4294967296 := by rw [hm]; exact numF_lt (by rw [List.length_take]; omega) (bok_take hb 4)
  have HN : Hid (Calls Tryz.prog 102 #[.slice (some ⟨g, o, none⟩) 4 cap] w fun e w' => e = .returned (.int .i64 (m : Int)) ∧ Below w.heap.size w w') := by
    have := rnumber_any w _ _ _ h4 (bok_take hb 4)
    rw [hm]; exact this
  have hs1 : ∀ W : World, (Instr.slice 32 (.slice (some ⟨g, o, none⟩) n cap) none (some (.int .i64 4)) none).run Tryz.prog W = .ok (.slice (some ⟨g, o, none⟩) 4 cap) W := slice_to _ n cap 4 (by omega)
  have t1 : ¬ (n : Int) < 8 := by omega
  by_cases hlong : 1048568 < m
  · have t2 : (1048568 : Int) < (m : Int) := by omega
    have HF := Lib.hid (fst_badK (l := l) (x := 2) (by unfold nxE; rw [if_neg (by omega), if_pos (by omega)]) (by decide) K)
    clear h hl hm h4
    go_enter Tryz.func70, Tryz.ntmps70
    go_wp2_with (go_at_call 102; refine HN.out.mono ?_; rintro e w1 ⟨rfl, b1⟩; have B1 := Lib.hid b1; clear b1)
    go_ret3
    exact ⟨HF.out w1, B1.out⟩
  have t2 : ¬ (1048568 : Int) < (m : Int) := by omega
  obtain ⟨q, hq⟩ : ∃ q, q = m + 4 := ⟨_, rfl⟩
  obtain ⟨r, hr⟩ : ∃ r, r = m + 8 := ⟨_, rfl⟩
  have e1 : (m : Int) + 4 = (q : Int) := by omega
  have e2 : (m : Int) + 8 = (r : Int) := by omega
  by_cases hend : n < r
  · have t3 : (n : Int) < (r : Int) := by omega
    have HF := Lib.hid (fst_badK (l := l) (x := 12) (by unfold nxE; rw [if_neg (by omega), if_neg (by omega), if_pos (by omega)]) (by decide) K)
    have b1 : r ≤ 1048576 := by omega
    clear h hl hm h4 hq hr
    go_enter Tryz.func70, Tryz.ntmps70
    go_wp2_with (go_at_call 102; refine HN.out.mono ?_; rintro e w1 ⟨rfl, b1⟩; have B1 := Lib.hid b1; clear b1)
    go_ret3
    exact ⟨HF.out w1, B1.out⟩
  have t3 : ¬ (n : Int) < (r : Int) := by omega
  have b1 : r ≤ 1048576 := by omega
  have k1 : IntKind.i64.wrap (q : Int) = (q : Int) := by rw [IntKind.wrap_i64]; omega
  have k2 : IntKind.i64.wrap (r : Int) = (r : Int) := by rw [IntKind.wrap_i64]; omega
  have hs2 : ∀ W : World, (Instr.slice 32 (.slice (some ⟨g, o, none⟩) n cap) (some (.int .i64 (q : Int))) (some (.int .i64 (r : Int))) none).run Tryz.prog W = .ok (.slice (some ⟨g, o + q, none⟩) 4 (cap - q)) W := fun W => by
    have := slice_mid g o n cap q r (by omega) (by omega) (by omega) W
    rw [show r - q = 4 by omega] at this
    exact this
  have hs3 := slice_to (some ⟨g, o, none⟩) n cap q (by omega)
  have hs5 : ∀ W : World, (Instr.slice 32 (.slice (some ⟨g, o, none⟩) n cap) (some (.int .i64 4)) (some (.int .i64 (q : Int))) none).run Tryz.prog W = .ok (.slice (some ⟨g, o + 4, none⟩) m (cap - 4)) W := fun W => by
    have := slice_mid g o n cap 4 q (by omega) (by omega) (by omega) W
    rw [show q - 4 = m by omega] at this
    exact this
  have htl : BAt w (.slice (some ⟨g, o + q, none⟩) 4 (cap - q)) (tail4 l) := by
    have h1 := h.mid q r (cap - q) (some ⟨g, o + q, none⟩) (fun _ => rfl) (by omega) (by omega) (by omega)
    rw [show r - q = 4 by omega] at h1
    unfold tail4
    rw [← hm, ← hq]
    exact h1
  have htk := (h.take q (by omega)).1
  have hbd : BAt w (.slice (some ⟨g, o + 4, none⟩) m (cap - 4)) ((l.drop 4).take m) := by
    have h1 := h.mid 4 q (cap - 4) (some ⟨g, o + 4, none⟩) (fun _ => rfl) (by omega) (by omega) (by omega)
    rw [show q - 4 = m by omega] at h1
    exact h1
  obtain ⟨z, hz⟩ : ∃ z, z = numF 0 (tail4 l) := ⟨_, rfl⟩
  obtain ⟨x, hx⟩ : ∃ x, x = crc (l.take q) := ⟨_, rfl⟩
  have HN2 : Hid (∀ W, Below w.heap.size w W → Calls Tryz.prog 102 #[.slice (some ⟨g, o + q, none⟩) 4 (cap - q)] W fun e w' => e = .returned (.int .i64 (z : Int)) ∧ Below W.heap.size W w') := by
    intro W hW
    rw [hz]
    exact rnumber_any W _ _ _ (htl.kept hW) (by unfold tail4; exact bok_take (bok_drop hb _) _)
  have HSM : Hid (∀ W, Below w.heap.size w W → Calls Tryz.prog 103 #[.slice (some ⟨g, o, none⟩) q cap] W fun e w' => e = .returned (.int .i64 (x : Int)) ∧ W = w') := by
    intro W hW
    rw [hx]
    exact rsum_any W _ _ (htk.kept hW) (bok_take hb q) (by rw [List.length_take]; omega)
  have HBD := Lib.hid hbd
  have HOK : Hid (z = x → nxE l = 0) := fun hzx => nxE_mk (by omega) (by omega) (by rw [← hz, hzx, hx, hq, hm])
  have HNO : Hid (¬ z = x → nxE l = 11) := fun hzx => by
    unfold nxE
    rw [if_neg (by omega), if_neg (by omega), if_neg (by omega), if_neg (by rw [← hz, ← hm, ← hq, ← hx]; exact hzx)]
  have HQ : Hid (m = nn l ∧ r = m + 8) := ⟨hm, hr⟩
  clear h hl hm h4 hq hr htl htk hbd hz hx
  by_cases hzx : z = x
  · subst hzx
    have HE := HOK.out rfl
    have HF : Hid (∀ W, Below w.heap.size w W → FstK K l (.returned (.tuple #[.slice (some ⟨g, o + 4, none⟩) m (cap - 4), .int .i64 (r : Int), .int .i64 0])) W) := fun W hW => by
      have e1 : nxB l = (l.drop 4).take m := by unfold nxB; rw [if_pos HE, HQ.out.1]
      have e2 : nxN l = r := by unfold nxN; rw [if_pos HE, ← HQ.out.1, HQ.out.2]
      have e3 := HBD.out.len.1
      rw [← e1] at e3
      exact ⟨_, _, by rw [e2, HE, e3], by rw [e3, e1]; exact HBD.out.kept hW, fun _ a n c ha => by
        cases ha
        exact HKG.out⟩
    clear HE
    go_enter Tryz.func70, Tryz.ntmps70
    go_wp2_with (go_at_call 102; refine HN.out.mono ?_; rintro e w1 ⟨rfl, b1⟩; have B1 := Lib.hid b1; have BD := Lib.hid b1.drew; clear b1)
    go_region_held3 (fun _ => True) (trivial)
      (first
        | (go_at_call 103; (with_reducible refine (HSM.out _ B2.out).mono ?_); rintro e w3 ⟨rfl, rfl⟩)
        | (go_at_call 103; (with_reducible refine (HSM.out _ BD.out).mono ?_); rintro e w3 ⟨rfl, rfl⟩)
        | (go_at_call 102; (with_reducible refine (HN2.out _ BD.out).mono ?_); rintro e w2 ⟨rfl, b2⟩; have B2 := Lib.hid (BD.out.trans (b2.mono BD.out.size)); clear b2))
    all_goals
      go_wp2
      go_ret3
      exact ⟨HF.out _ B2.out, B2.out⟩
  · have HF := Lib.hid (fst_badK (l := l) (x := 11) (HNO.out hzx) (by decide) K)
    have t4 : ¬ (x : Int) = (z : Int) := by omega
    clear HOK HNO
    go_enter Tryz.func70, Tryz.ntmps70
    go_wp2_with (go_at_call 102; refine HN.out.mono ?_; rintro e w1 ⟨rfl, b1⟩; have B1 := Lib.hid b1; have BD := Lib.hid b1.drew; clear b1)
    go_region_held3 (fun _ => True) (trivial)
      (first
        | (go_at_call 103; (with_reducible refine (HSM.out _ B2.out).mono ?_); rintro e w3 ⟨rfl, rfl⟩)
        | (go_at_call 103; (with_reducible refine (HSM.out _ BD.out).mono ?_); rintro e w3 ⟨rfl, rfl⟩)
        | (go_at_call 102; (with_reducible refine (HN2.out _ BD.out).mono ?_); rintro e w2 ⟨rfl, b2⟩; have B2 := Lib.hid (BD.out.trans (b2.mono BD.out.size)); clear b2))
    all_goals
      go_wp2
      go_ret3
      exact ⟨HF.out _, B2.out⟩
theorem rnext_in (K : Nat → Prop) (w : World) (v : Value) (l : List Int) (h : BAt w v l) (hb : bok l) (hn : l.length ≤ 2000000) (hK : BK K v l) : Calls Tryz.prog 70 #[v] w fun e w' => FstK K l e w' ∧ Below w.heap.size w w' := by
  obtain ⟨A, cap, h1, h2, h3⟩ := h
  subst h1
  by_cases h8 : l.length < 8
  · exact rnext_short K w A l.length cap l ⟨A, cap, rfl, h2, h3⟩ h8
  · exact rnext_more K w A l.length cap l ⟨A, cap, rfl, h2, h3⟩ hb (by omega) hn hK
theorem rnext_any (w : World) (v : Value) (l : List Int) (h : BAt w v l) (hb : bok l) (hn : l.length ≤ 2000000) : Calls Tryz.prog 70 #[v] w fun e w' => Fst l e w' ∧ Below w.heap.size w w' :=
  (rnext_in (fun _ => True) w v l h hb hn (fun _ _ _ _ _ => trivial)).mono fun _ _ h => ⟨h.1.fst, h.2⟩
end Go.Proofs.YtjijgoflbjbnfaaGreat.Fr

namespace Go.Proofs.YtjijgoflbjbnfaaGreat.Fr
open Go.RowKit

/-- The first parts, at most 200 bytes of each. -/
def cutR (ls : List (List Int)) (i : Nat) : List (List Int) := (ls.take i).map (·.take 200)
theorem cutR_snoc {ls : List (List Int)} {i : Nat} (h : i < ls.length) : cutR ls (i + 1) = cutR ls i ++ [(ls.getD i []).take 200] := by
  have e : ls.getD i [] = ls[i] := by simp [List.getD, List.getElem?_eq_getElem h]
  unfold cutR
  rw [List.take_succ_eq_append_getElem h, List.map_append, e]
  rfl
theorem cutR_len {ls : List (List Int)} {i : Nat} (h : i ≤ ls.length) : (cutR ls i).length = i := by
  unfold cutR
  rw [List.length_map, List.length_take]; omega
theorem cutR_flat {ls : List (List Int)} {i : Nat} (h : i < ls.length) : (cutR ls (i + 1)).flatten = (cutR ls i).flatten ++ (ls.getD i []).take 200 := by
  rw [cutR_snoc h, List.flatten_append, List.flatten_cons, List.flatten_nil, List.append_nil]
theorem cutR_small (ls : List (List Int)) (i : Nat) (h : i ≤ ls.length) : (cutR ls i).flatten.length ≤ 200 * i := by
  induction i with
  | zero => simp [cutR]
  | succ i ih =>
    rw [cutR_flat (by omega), List.length_append, List.length_take]
    have := ih (by omega)
    omega
theorem cutR_bok {ls : List (List Int)} (h : ∀ l ∈ ls, bok l) (i : Nat) : ∀ l ∈ cutR ls i, bok l ∧ l.length ≤ 2000000 := fun l hl => by
  unfold cutR at hl
  obtain ⟨m, hm, rfl⟩ := List.mem_map.1 hl
  exact ⟨bok_take (h m (List.mem_of_mem_take hm)) _, by rw [List.length_take]; omega⟩
theorem cutR_flat_bok {ls : List (List Int)} (h : ∀ l ∈ ls, bok l) (i : Nat) : bok (cutR ls i).flatten := fun x hx => by
  obtain ⟨l, hl, hx2⟩ := List.mem_flatten.1 hx
  exact (cutR_bok h i l hl).1 x hx2
theorem cutR_get {ls : List (List Int)} {i j : Nat} (hj : j < i) (hi : i ≤ ls.length) : (cutR ls i).getD j [] = (ls.getD j []).take 200 := by
  unfold cutR
  simp only [List.getD, List.getElem?_map]
  rw [List.getElem?_take_of_lt hj, List.getElem?_eq_getElem (by omega : j < ls.length)]
  rfl

theorem ownsRow_kept {w w' : World} {base : Nat} {e : TypeId} {size n : Nat} {v : Value} {xs : List Value} (h : w.ownsRow base e size v n xs) (hk : ∀ g, v.ownBlock = some g → w'.heap[g]? = w.heap[g]?) : w'.ownsRow base e size v n xs := by
  obtain ⟨h1, h2 | ⟨g, cap, cur, h2, h3, h4, h5⟩⟩ := h
  · exact ⟨h1, .inl h2⟩
  · exact ⟨h1, .inr ⟨g, cap, cur, h2, h3, (hk g (by rw [h2]; rfl)).trans h4, h5⟩⟩
/-- Two rows of the call's own: the parts, and all bytes. -/
structure SmI (w : World) (ls : List (List Int)) (i : Nat) (us : List Value) (v5 v6 : Value) (wx : World) : Prop where
  len : us.length = i
  own : wx.ownsRow w.heap.size 32 1 v5 i us
  at' : ∀ j u, us[j]? = some u → BAt w u ((ls.getD j []).take 200)
  all : wx.ownsRow w.heap.size 5 1 v6 (cutR ls i).flatten.length (bv (cutR ls i).flatten)
  bel : Below w.heap.size w wx
theorem own_apart {w : World} {base base' : Nat} {e e' : TypeId} {size size' n n' : Nat} {v v' : Value} {xs xs' : List Value} (h : w.ownsRow base e size v n xs) (h' : w.ownsRow base' e' size' v' n' xs') (hne : e ≠ e') : ∀ g, v'.ownBlock = some g → v.ownBlock ≠ some g := by
  intro g hg hh
  rcases h.2 with ⟨h1, _⟩ | ⟨g1, _, _, h1, _, h2, _⟩
  · rw [h1] at hh; cases hh
  · rcases h'.2 with ⟨h3, _⟩ | ⟨g2, _, _, h3, _, h4, _⟩
    · rw [h3] at hg; cases hg
    · rw [h1] at hh; rw [h3] at hg
      cases hh; cases hg
      rw [h2] at h4
      cases h4
      exact hne rfl
theorem tys_ne : (32 : TypeId) ≠ 5 := by decide
/-- The parts' row has grown. -/
theorem SmI.rows1 {w wx w1 : World} {ls : List (List Int)} {i : Nat} {us : List Value} {v5 v6 v : Value} {u : Value} {o : Obj} (h : SmI w ls i us v5 v6 wx) (hu : BAt w u ((ls.getD i []).take 200)) (hown : w1.ownsRow w.heap.size 32 1 v (i + 1) (us ++ [u])) (hg : (wx.alloc o).grownBy w1 v5.ownBlock) :
    (us ++ [u]).length = i + 1 ∧ (∀ j u', (us ++ [u])[j]? = some u' → BAt w u' ((ls.getD j []).take 200)) ∧ w1.ownsRow w.heap.size 5 1 v6 (cutR ls i).flatten.length (bv (cutR ls i).flatten) ∧ Below w.heap.size w w1 := by
  refine ⟨by rw [List.length_append, h.len]; rfl, fun j u' hu' => ?_, ownsRow_kept h.all (fun g hgg => ?_), (h.bel.alloc h.bel.size _).grown hg (Nat.le_trans h.bel.size (by simp)) (fun j hj => (h.own.lt j hj).1)⟩
  · rcases Nat.lt_or_ge j us.length with hj | hj
    · rw [List.getElem?_append_left hj] at hu'
      exact h.at' j u' hu'
    · rw [List.getElem?_append_right hj] at hu'
      have h0 : j - us.length = 0 := by
        rcases Nat.eq_zero_or_pos (j - us.length) with h0 | h0
        · exact h0
        · rw [List.getElem?_eq_none (by simp; omega)] at hu'; cases hu'
      rw [h0] at hu'
      have hj2 : j = i := by have := h.len; omega
      subst hj2
      have hu2 : u = u' := by simpa using hu'
      rw [← hu2]
      exact hu
  · rw [hg.block g (by have := (h.all.lt g hgg).2; simp; omega) (fun e => own_apart h.own h.all tys_ne g hgg e.symm)]
    exact Below.heap_alloc _ _ _ (h.all.lt g hgg).2
/-- Both rows have grown. -/
theorem SmI.rows2 {w w1 w2 : World} {ls : List (List Int)} {i : Nat} {us : List Value} {v5 v6 v6' : Value} (hl : us.length = i + 1) (hi : i < ls.length) (hown : w1.ownsRow w.heap.size 32 1 v5 (i + 1) us) (hat : ∀ j u', us[j]? = some u' → BAt w u' ((ls.getD j []).take 200)) (hall : w1.ownsRow w.heap.size 5 1 v6 (cutR ls i).flatten.length (bv (cutR ls i).flatten)) (hbel : Below w.heap.size w w1)
    (ho2 : w2.ownsRow w.heap.size 5 1 v6' ((cutR ls i).flatten ++ (ls.getD i []).take 200).length (bv ((cutR ls i).flatten ++ (ls.getD i []).take 200))) (hg : w1.grownBy w2 v6.ownBlock) : SmI w ls (i + 1) us v5 v6' w2 :=
  ⟨hl, ownsRow_kept hown (fun g hgg => hg.block g (hown.lt g hgg).2 (fun e => own_apart hall hown (fun e => tys_ne e.symm) g hgg e.symm)), hat,
    by rw [cutR_flat hi]; exact ho2, hbel.grown hg hbel.size (fun j hj => (hall.lt j hj).1)⟩
/-- The parts as Sum takes them. -/
theorem SmI.parts {w wx : World} {ls : List (List Int)} {i : Nat} {us : List Value} {v5 v6 : Value} (h : SmI w ls i us v5 v6 wx) (hi : i ≤ ls.length) : PAt wx v5 (cutR ls i) := by
  have hl := cutR_len hi
  rcases h.own.2 with ⟨h1, h2⟩ | ⟨g, cap, cur, h1, _, h3, h4, _⟩
  · exact ⟨none, 0, by rw [h1, hl, h2], by omega, fun hp => by omega⟩
  · refine ⟨_, cap, by rw [h1, hl], by rw [hl]; exact h4, fun _ => ⟨g, 0, rfl, (Array.getElem?_eq_some_iff.1 h3).1, fun j hj => ?_⟩⟩
    rw [hl] at hj
    have hj2 : j < us.length := by rw [h.len]; exact hj
    have h5 := h.own.cells (g := g) (by rw [h1]; rfl) j _ (List.getElem?_eq_getElem hj2)
    rw [show (Addr.mk g 0 none).add j = ⟨g, 0 + j, none⟩ by unfold Addr.add; split <;> simp_all] at h5
    refine ⟨_, h5, ?_⟩
    rw [cutR_get hj hi]
    exact (h.at' j _ (List.getElem?_eq_getElem hj2)).kept h.bel
end Go.Proofs.YtjijgoflbjbnfaaGreat.Fr

namespace Go.Proofs.YtjijgoflbjbnfaaGreat.Fr
open Go.RowKit

theorem intInf : (Tryz.prog.info? 3).map (fun i => (i.zero, i.size, i.bytes)) = some (some (.int .i64 0), 1, 8) := by kernel_rfl
def ivs (xs : List Fr) : List Value := xs.map fun x => .int .i64 (x.1 : Int)
theorem ivs_len (xs : List Fr) : (ivs xs).length = xs.length := by simp [ivs]
theorem ivs_snoc (xs : List Fr) (x : Fr) : ivs (xs ++ [x]) = ivs xs ++ [.int .i64 (x.1 : Int)] := by simp [ivs]
/-- Bytes that lie in what was there at first. -/
theorem BAt.back {w w' : World} {v : Value} {l : List Int} (h : BAt w' v l) (hk : BK (fun k => k < w.heap.size) v l) (hb : Below w.heap.size w w') : BAt w v l := by
  obtain ⟨A, cap, h1, h2, h3⟩ := h
  refine ⟨A, cap, h1, h2, fun hp => ?_⟩
  obtain ⟨g, o, h4, h5, h6⟩ := h3 hp
  have h7 : g < w.heap.size := hk hp ⟨g, o, none⟩ l.length cap (by rw [h1, h4])
  exact ⟨g, o, h4, h7, fun i hi => (hb.cell (p := ⟨g, o + i, none⟩) h7).symm.trans (h6 i hi)⟩
theorem rnext_kt (K : Nat → Prop) (w : World) (v : Value) (L B : List Int) (k N : Nat) (E : Int) (h : BAt w v L) (hb : bok L) (hn : L.length ≤ 2000000) (hK : BK K v L) (hr : NxR L B k N E) :
    Calls Tryz.prog 70 #[v] w fun e w' => ∃ A c, e = .returned (.tuple #[.slice A k c, .int .i64 (N : Int), .int .i64 E]) ∧ BAt w' (.slice A k c) B ∧ BK K (.slice A k c) B ∧ Below w.heap.size w w' :=
  (rnext_in K w v L h hb hn hK).mono fun e w' ⟨⟨A, c, h1, h2, h3⟩, h4⟩ => by
    rw [hr.b, hr.k, hr.n, hr.e] at h1
    rw [hr.b, hr.k] at h2 h3
    exact ⟨A, c, h1, h2, h3, h4⟩
theorem row_other {w w1 : World} {base base' : Nat} {e e' : TypeId} {size size' n n' : Nat} {v v' : Value} {xs xs' : List Value} {o : Obj} (h : w.ownsRow base e size v n xs) (h' : w.ownsRow base' e' size' v' n' xs') (hne : e ≠ e') (hg : (w.alloc o).grownBy w1 v.ownBlock) : w1.ownsRow base' e' size' v' n' xs' :=
  ownsRow_kept h' fun g hgg => by
    rw [hg.block g (by have := (h'.lt g hgg).2; simp; omega) (fun e => own_apart h h' hne g hgg e.symm)]
    exact Below.heap_alloc _ _ _ (h'.lt g hgg).2
/-- What All has gathered. -/
structure RaI (w : World) (L : List Int) (pre : List Fr) (us : List Value) (v4 v5 : Value) (q : Nat) (wx : World) : Prop where
  at' : AtP L pre q
  len : us.length = pre.length
  ints : wx.ownsRow w.heap.size 3 1 v4 pre.length (ivs pre)
  rows : wx.ownsRow w.heap.size 32 1 v5 pre.length us
  bat : ∀ j u, us[j]? = some u → BAt w u (pre.getD j (0, [])).2
  bel : Below w.heap.size w wx
theorem RaI.kept {w wx wx' : World} {L : List Int} {pre : List Fr} {us : List Value} {v4 v5 : Value} {q : Nat} (h : RaI w L pre us v4 v5 q wx) (hb : Below wx.heap.size wx wx') : RaI w L pre us v4 v5 q wx' :=
  ⟨h.at', h.len, own_same h.ints hb, own_same h.rows hb, h.bat, h.bel.trans (hb.mono h.bel.size)⟩
theorem tys_ne2 : (3 : TypeId) ≠ 32 := by decide
/-- Both rows are one longer. -/
theorem RaI.next {w wx w1 w2 : World} {L : List Int} {pre : List Fr} {us : List Value} {v4 v5 v4' v5' u : Value} {q q' : Nat} {x : Fr} {o1 o2 : Obj} (h : RaI w L pre us v4 v5 q wx) (hat : AtP L (pre ++ [x]) q') (hu : BAt w u x.2)
    (h1 : w1.ownsRow w.heap.size 3 1 v4' (pre.length + 1) (ivs pre ++ [.int .i64 (x.1 : Int)])) (g1 : (wx.alloc o1).grownBy w1 v4.ownBlock) (h2 : w2.ownsRow w.heap.size 32 1 v5' (pre.length + 1) (us ++ [u])) (g2 : (w1.alloc o2).grownBy w2 v5.ownBlock) :
    RaI w L (pre ++ [x]) (us ++ [u]) v4' v5' q' w2 := by
  have r1 : w1.ownsRow w.heap.size 32 1 v5 pre.length us := row_other h.ints h.rows tys_ne2 g1
  have b1 : Below w.heap.size w w1 := (h.bel.alloc h.bel.size _).grown g1 (Nat.le_trans h.bel.size (by simp)) (fun j hj => (h.ints.lt j hj).1)
  refine ⟨hat, by rw [List.length_append, List.length_append, h.len]; rfl, ?_, ?_, fun j u' hu' => ?_, (b1.alloc b1.size _).grown g2 (Nat.le_trans b1.size (by simp)) (fun j hj => (r1.lt j hj).1)⟩
  · rw [List.length_append, ivs_snoc]
    exact row_other r1 h1 (fun e => tys_ne2 e.symm) g2
  · rw [List.length_append]
    exact h2
  · rcases Nat.lt_or_ge j us.length with hj | hj
    · rw [List.getElem?_append_left hj] at hu'
      have e : (pre ++ [x]).getD j (0, []) = pre.getD j (0, []) := by
        simp only [List.getD]
        rw [List.getElem?_append_left (by rw [← h.len]; exact hj)]
      rw [e]
      exact h.bat j u' hu'
    · rw [List.getElem?_append_right hj] at hu'
      have h0 : j - us.length = 0 := by
        rcases Nat.eq_zero_or_pos (j - us.length) with h0 | h0
        · exact h0
        · rw [List.getElem?_eq_none (by simp; omega)] at hu'; cases hu'
      rw [h0] at hu'
      have hj2 : j = pre.length := by have := h.len; omega
      subst hj2
      have hu2 : u = u' := by simpa using hu'
      have e : (pre ++ [x]).getD pre.length (0, []) = x := by simp [List.getD]
      rw [e, ← hu2]
      exact hu

set_option maxRecDepth 100000 in
set_option maxHeartbeats 8000000 in
theorem rall_any (w : World) (A : Option Addr) (m cap : Nat) (L : List Int) (hL : BAt w (.slice A m cap) L) (hb : bok L) (hm : m ≤ 1000) :
    Calls Tryz.prog 74 #[.slice A m cap] w fun e w' => ∃ v1 v2 us q, e = .returned (.tuple #[v1, v2]) ∧ RaI w L (allF L) us v1 v2 q w' := by
  obtain ⟨i4, hi4, hz40, hz41, hz42⟩ := info_parts intInf
  obtain ⟨i5, hi5, hz50, hz51, hz52⟩ := info_parts byInf
  have hlm := hL.len.1
  have hcap := hL.len.2
  have hBK : BK (fun k => k < w.heap.size) (.slice A m cap) L := fun hp a n c ha => by
    obtain ⟨A', c', h1, h2, h3⟩ := hL
    obtain ⟨g, o, h4, h5, _⟩ := h3 hp
    cases ha; cases h1; cases h4
    exact h5
  have HL := Lib.hid hL
  have HD : Hid (bok L ∧ L.length = m ∧ BK (fun k => k < w.heap.size) (.slice A m cap) L) := ⟨hb, hlm, hBK⟩
  clear hL hb hlm hBK
  go_enter Tryz.func74, Tryz.ntmps74
  go_wp2
  go_loopg [4, 5, 6] 1001 (fun (gh : Nat) s4 s5 s6 wx => ∃ (q : Nat) (pre : List Fr) (us : List Value), gh = 1001 - q ∧ q ≤ m ∧ s6 = .int .i64 (q : Int) ∧ Hid (RaI w L pre us s4 s5 q wx))
  case atStart => exact ⟨0, [], [], rfl, Nat.zero_le _, rfl, AtP.start L, rfl, World.ownsRow_nil _ _ _ _, World.ownsRow_nil _ _ _ _, fun j u hu => by simp at hu, Below.refl _ _⟩
  case round =>
    obtain ⟨q, pre, us, rfl, hq, rfl, hI⟩ := hrel
    obtain ⟨A', hA', hs⟩ := slice_from A m cap q hq hcap
    have hBr : BAt wr (.slice A' (m - q) (cap - q)) (L.drop q) := (HL.out.kept hI.out.bel).from q hA' hq
    have hBKr : BK (fun k => k < w.heap.size) (.slice A' (m - q) (cap - q)) (L.drop q) := fun hp a n c ha => by
      have h1 : q < m := by rw [List.length_drop] at hp; have := HD.out.2.1; omega
      obtain ⟨A2, c', h2, h3, h4⟩ := HL.out
      obtain ⟨g, o, h5, h6, _⟩ := h4 (by have := HD.out.2.1; omega)
      cases h2
      rw [hA' h1 g o h5] at ha
      cases ha
      exact h6
    obtain ⟨B, k, N, E, hR⟩ := nx_some (L.drop q)
    have HF := Lib.hid (rnext_kt _ wr _ (L.drop q) B k N E hBr (bok_drop HD.out.1 q) (by rw [List.length_drop]; have := HD.out.2.1; omega) hBKr hR)
    have HR := Lib.hid hR
    obtain ⟨r1, hr1⟩ : ∃ r1, r1 = m - q := ⟨_, rfl⟩
    obtain ⟨r2, hr2⟩ : ∃ r2, r2 = cap - q := ⟨_, rfl⟩
    rw [← hr1, ← hr2] at hs HF
    have hm9 : q ≤ 1000 := by omega
    clear hBr hR hA' hr1 hr2 hBKr
    by_cases hE : E = 0
    · have hN : N ≤ 1000 ∧ 8 ≤ N ∧ q + N ≤ m := by
        have h1 : nxE (L.drop q) = 0 := by rw [HR.out.e]; exact hE
        have h2 := nxN_ok h1
        rw [List.length_drop, HR.out.n, HD.out.2.1] at h2
        omega
      have HX : Hid (AtP L (pre ++ [(q, B)]) (q + N)) := by
        have h1 : nxE (L.drop q) = 0 := by rw [HR.out.e]; exact hE
        have h2 := hI.out.at'.step h1
        rw [HR.out.b, HR.out.n] at h2
        exact h2.1
      have hpl : pre.length ≤ 1000 := by
        have h1 := hI.out.at'
        obtain ⟨kk, h2, _⟩ := h1
        have h3 := allF_len L
        rw [h2, List.length_append, HD.out.2.1] at h3
        omega
      subst hE
      have hn1 : N ≤ 1000 := hN.1
      have HN := Lib.hid hN
      have hz0 := hI.out.bel.size
      clear hN
      go_wp2_with (first
        | (at_builtin; refine wpList_append_lies _ rfl _ _ 31 rfl w.heap.size 32 i5 _ 1 24 Tryz.underlying31 hi5 hz50 hz51 hz52 rfl (by decide) _ _ _ rfl (HR5.out.alloc _) ⟨w2.heap.size, 0, none⟩ 1 1 [.slice A1 k c1] rfl rfl (World.news_of_block (cs := #[.slice A1 k c1]) (t := 32) (fr := (0, 0)) (heap_alloc_new _ _)) (by simp [Value.oneCell']) (by decide) (by unfold maxLen; omega) (by omega) (by simp; omega) _ rfl ?_; intro gg5 cp5 w3 hown5 hgrow5 hat5 hlt5
           have S3 := Lib.hid (HI1.out.next HX.out HU.out HO4.out HG4.out hown5 hgrow5)
           clear hown5 hgrow5 hat5 hlt5)
        | (at_builtin; refine wpList_append_lies _ rfl _ _ 129 rfl w.heap.size 3 i4 _ 1 8 Tryz.underlying129 hi4 hz40 hz41 hz42 rfl (by decide) _ _ _ rfl (HI1.out.ints.alloc _) ⟨w1.heap.size, 0, none⟩ 1 1 [.int .i64 (q : Int)] rfl rfl (World.news_of_block (cs := #[.int .i64 (q : Int)]) (t := 3) (fr := (0, 0)) (heap_alloc_new _ _)) (by simp [Value.oneCell']) (by decide) (by unfold maxLen; omega) (by omega) (by simp; omega) _ rfl ?_; intro gg4 cp4 w2 hown4 hgrow4 hat4 hlt4
           have HO4 := Lib.hid hown4
           have HG4 := Lib.hid hgrow4
           have HR5 := Lib.hid (row_other HI1.out.ints HI1.out.rows tys_ne2 hgrow4)
           have hz2 : w.heap.size ≤ w2.heap.size := (by have h1 := hgrow4.size; simp at h1; omega)
           clear hown4 hgrow4 hat4 hlt4)
        | (go_at_call 70; refine HF.out.mono ?_; rintro e w1 ⟨A1, c1, rfl, ha1, hk1, b1⟩
           have HI1 := Lib.hid (hI.out.kept b1)
           have HU := Lib.hid (ha1.back hk1 HI1.out.bel)
           have hz1 : w.heap.size ≤ w1.heap.size := HI1.out.bel.size
           clear ha1 hk1 b1))
      have hq2 : q + N ≤ 1000 := by have := HN.out; omega
      go_roundg (1001 - (q + N))
      case measure => have := HN.out; omega
      case rel => exact ⟨q + N, _, _, rfl, by have := HN.out; omega, by go_num, S3⟩
    · have HE : Hid (allF L = pre) := hI.out.at'.done (by rw [HR.out.e]; exact hE)
      go_wp2_with (go_at_call 70; refine HF.out.mono ?_; rintro e w1 ⟨A1, c1, rfl, ha1, hk1, b1⟩
                   have HI1 := Lib.hid (hI.out.kept b1)
                   clear ha1 hk1 b1)
      go_ret2
      refine ⟨u4, u5, us, q, rfl, ?_⟩
      rw [HE.out]
      exact HI1.out
end Go.Proofs.YtjijgoflbjbnfaaGreat.Fr

namespace Go.Proofs.YtjijgoflbjbnfaaGreat.Sp
open Go.RowKit Fr
attribute [local go_sem] Oper.semAt_some

theorem three {w : World} {b : Nat} {x y z : Value} {t : TypeId} (h : w.heap[b]? = some (.cells #[x, y, z] t (0, 0))) :
    (w.cell? ⟨b, 0, none⟩ = some x ∧ w.cell? ⟨b, 1, none⟩ = some y ∧ w.cell? ⟨b, 2, none⟩ = some z) ∧ w.frozen? ⟨b, 0, none⟩ = false ∧ w.frozen? ⟨b, 1, none⟩ = false ∧ w.frozen? ⟨b, 2, none⟩ = false :=
  ⟨⟨by simp [World.cell?, h], by simp [World.cell?, h], by simp [World.cell?, h]⟩, by simp [World.frozen?, h], by simp [World.frozen?, h], by simp [World.frozen?, h]⟩
theorem three_set {w : World} {b : Nat} {x y z u : Value} {t : TypeId} (h : w.heap[b]? = some (.cells #[x, y, z] t (0, 0))) :
    (w.setCell ⟨b, 1, none⟩ u).heap[b]? = some (.cells #[x, u, z] t (0, 0)) ∧ (w.setCell ⟨b, 2, none⟩ u).heap[b]? = some (.cells #[x, y, u] t (0, 0)) := by
  constructor
  · simp only [World.setCell, Array.getElem?_modify, if_true]; rw [h]; simp [Array.setIfInBounds]
  · simp only [World.setCell, Array.getElem?_modify, if_true]; rw [h]; simp [Array.setIfInBounds]
/-- The reference's reader b over the bytes D stands at m, with the mistake er. -/
def Qd (w : World) (b m : Nat) (er : Int) (D : List Int) : Prop :=
  ∃ A n c, w.heap[b]? = some (.cells #[.slice A n c, .int .i64 (m : Int), .int .i64 er] 127 (0, 0)) ∧ BAt w (.slice A n c) D ∧ BK (fun k => k < b) (.slice A n c) D ∧ bok D ∧ D.length ≤ 2000000 ∧ m ≤ D.length
theorem Qd.lt {w : World} {b m : Nat} {er : Int} {D : List Int} (h : Qd w b m er D) : b < w.heap.size := by
  obtain ⟨A, n, c, h1, _⟩ := h
  exact (Array.getElem?_eq_some_iff.1 h1).1
theorem Qd.upto {w w' : World} {b m : Nat} {er : Int} {D : List Int} (h : Qd w b m er D) (hk : ∀ k, k ≤ b → w'.heap[k]? = w.heap[k]?) : Qd w' b m er D := by
  obtain ⟨A, n, c, h1, h2, h3, h4⟩ := h
  exact ⟨A, n, c, (hk b (Nat.le_refl _)).trans h1, bat_kept h2 (fun hp a n c e => hk _ (Nat.le_of_lt (h3 hp a n c e))), h3, h4⟩
theorem Qd.below {w w' : World} {b m : Nat} {er : Int} {D : List Int} (h : Qd w b m er D) (hb : Below w.heap.size w w') : Qd w' b m er D := h.upto (fun k hk => hb.block k (Nat.lt_of_le_of_lt hk h.lt))
theorem Qd.set1 {w : World} {b m : Nat} {er : Int} {D : List Int} (h : Qd w b m er D) (k : Nat) (hk : k ≤ D.length) : Qd (w.setCell ⟨b, 1, none⟩ (.int .i64 (k : Int))) b k er D ∧ w.grownBy (w.setCell ⟨b, 1, none⟩ (.int .i64 (k : Int))) (some b) := by
  obtain ⟨A, n, c, h1, h2, h3, h4, h5, _⟩ := h
  have hg := grownBy_set w ⟨b, 1, none⟩ (.int .i64 (k : Int))
  refine ⟨⟨A, n, c, (three_set h1).1, bat_kept h2 (fun hp a n c e => ?_), h3, h4, h5, hk⟩, hg⟩
  have h6 := h3 hp a n c e
  exact hg.block _ (bat_lt h2 hp e) (fun e2 => by have h7 : a.block = b := Option.some.inj e2; omega)
theorem Qd.set2 {w : World} {b m : Nat} {er : Int} {D : List Int} (h : Qd w b m er D) (x : Int) : Qd (w.setCell ⟨b, 2, none⟩ (.int .i64 x)) b m x D ∧ w.grownBy (w.setCell ⟨b, 2, none⟩ (.int .i64 x)) (some b) := by
  obtain ⟨A, n, c, h1, h2, h3, h4, h5, h6⟩ := h
  have hg := grownBy_set w ⟨b, 2, none⟩ (.int .i64 x)
  refine ⟨⟨A, n, c, (three_set h1).2, bat_kept h2 (fun hp a n c e => ?_), h3, h4, h5, h6⟩, hg⟩
  have h6 := h3 hp a n c e
  exact hg.block _ (bat_lt h2 hp e) (fun e2 => by have h7 : a.block = b := Option.some.inj e2; omega)
/-- Behind a step of the reader. -/
def QTo (b : Nat) (w : World) (m : Nat) (er : Int) (D : List Int) (w' : World) : Prop := Qd w' b m er D ∧ w.grownBy w' (some b)
theorem QTo.trans {b m : Nat} {w w1 w2 : World} {er : Int} {D : List Int} (h : w.grownBy w1 (some b)) (k : QTo b w1 m er D w2) : QTo b w m er D w2 := ⟨k.1, grownBy_trans h k.2⟩
theorem QTo.refl {b m : Nat} {w : World} {er : Int} {D : List Int} (h : Qd w b m er D) : QTo b w m er D w := ⟨h, grownBy_of_below _ (Below.refl _ _)⟩
set_option maxRecDepth 100000 in
theorem qfail_yes {w : World} {b m : Nat} {D : List Int} (h : Qd w b m 0 D) (x : Int) (was : Nat) (hw : was ≤ D.length) :
    Calls Tryz.prog 105 #[.pointer (some ⟨b, 0, none⟩), .int .i64 x, .int .i64 (was : Int)] w fun e w' => e = .returned (.tuple #[]) ∧ QTo b w was x D w' := by
  have HH := Lib.hid h
  obtain ⟨A, n, c, h1, _⟩ := h
  obtain ⟨⟨c0, c1, c2⟩, f0, f1, f2⟩ := three h1
  have f1' : (w.setCell ⟨b, 2, none⟩ (.int .i64 x)).frozen? ⟨b, 1, none⟩ = false := (three (three_set (u := .int .i64 x) h1).2).2.2.1
  clear h1
  go_enter Tryz.func105, Tryz.ntmps105
  go_wp2
  go_end0
  have h2 := HH.out.set2 x
  have h3 := h2.1.set1 was hw
  exact ⟨rfl, h3.1, grownBy_trans h2.2 h3.2⟩
theorem rg_len {k at' acc : Nat} : ∀ {l : List Int}, (Oc.rgF k at' acc l).2.2.length ≤ l.length := by
  induction k generalizing at' acc with
  | zero => intro l; exact Nat.le_refl _
  | succ k ih =>
    intro l
    cases l with
    | nil => exact Nat.le_refl _
    | cons x r =>
      unfold Oc.rgF
      split
      · have := @ih (at' + 1) (acc + (x - 128).toNat * 128 ^ at') r
        rw [List.length_cons]; omega
      · split
        · rw [List.length_cons]; exact Nat.le_succ _
        · rw [List.length_cons]; exact Nat.le_succ _
/-- While the reference reads groups: i are read. -/
structure QI (D : List Int) (m i acc : Nat) : Prop where
  eq : Oc.rgF (10 - i) i acc (D.drop (m + i)) = Oc.rg (D.drop m)
  lt : acc < 128 ^ i
theorem pow_le {i : Nat} (h : i ≤ 9) : 128 ^ i ≤ 9223372036854775808 := by
  have : (128 : Nat) ^ i ≤ 128 ^ 9 := Nat.pow_le_pow_right (by decide) h
  have e9 : (128 : Nat) ^ 9 = 9223372036854775808 := by decide
  omega
end Go.Proofs.YtjijgoflbjbnfaaGreat.Sp
