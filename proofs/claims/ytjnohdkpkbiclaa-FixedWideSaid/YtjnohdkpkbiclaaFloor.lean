/-
  The contracts of the laws' Num and of the reference's Floor (where it holds) and odd. Conditions: the types' own ranges; the numbers have at most nine digits.
-/
import Derived.Test.YtjnohdkpkbiclaaKnown
import Derived.Test.YtjnohdkpkbiclaaFits2
namespace Go.Proofs.Ytjnohdkpkbiclaa
open Go.RowKit

set_option maxRecDepth 100000 in
set_option maxHeartbeats 1000000 in
theorem num_any (w : World) (h l : Int) (k : WOk h l) :
    Calls Try.prog 21 #[.agg #[.int .i64 h, .int .u64 l]] w fun e w' => ∃ u, e = .returned u ∧ NumIs w' u (wv h l) ∧ Below w.heap.size w w' := by
  obtain ⟨k0, k1, k2, k3⟩ := k
  have e1 := Lib.hid (show (w.alloc (.cells #[.int .i64 h, .int .u64 l] 38)).heap.size = w.heap.size + 1 by simp)
  obtain ⟨z, hz⟩ : ∃ z, z = wv h l := ⟨_, rfl⟩
  have HZ := Lib.hid hz
  rw [← hz]
  clear hz
  go_enter Try.func21, Try.ntmps21
  go_wp2_with fail
  refine (wide_any _ h l k0 k1 k2 k3).mono ?_
  rintro e w1 ⟨u, rfl, hu, b1⟩
  rw [show 18446744073709551616 * h + l = z from HZ.out.symm] at hu
  obtain ⟨A, n, c, rfl, hd⟩ := hu
  have kR := block_kept (block_new (w.alloc (.cells #[.int .i64 h, .int .u64 l] 38)) (.cells #[.bool false, .slice none 0 0] 25)) b1
  rw [e1.out] at kR
  obtain ⟨r0, r1, rf0, rf1⟩ := blk2 kR
  have KR := Lib.hid kR
  have HD := Lib.hid hd
  have hb : Hid (Below w.heap.size w w1) := (((Below.refl _ _).alloc (Nat.le_refl _) _).alloc (by rw [e1.out]; omega) _).trans (b1.mono (by simp only [World.size_alloc]; omega))
  clear kR hd b1
  go_wp2_with fail
  refine bodyPost_ret (v := .agg #[.bool (decide (z < 0)), .slice A n c]) (by simp [results, Try.results21, go_sem, r0, r1]) rfl ⟨_, rfl, num_stored ⟨_, _, _, rfl, HD.out⟩ KR.out _ _, below_stored hb.out (Nat.le_succ _) _ _⟩

set_option maxRecDepth 100000 in
set_option maxHeartbeats 1000000 in
theorem odd_no (w : World) (v : Value) (z : Int) (h : NumIs w v z) (he : z % 2 = 0) :
    Calls Try.prog 55 #[v] w fun e w' => e = .returned (.bool false) ∧ Below w.heap.size w w' := by
  obtain ⟨A, n, c, rfl, hd⟩ := h
  have hl := hd.len.1
  rcases Nat.eq_zero_or_pos n with h0 | h0
  · subst h0
    clear hl
    obtain ⟨b, hb⟩ : ∃ b, b = decide (z < 0) := ⟨_, rfl⟩
    rw [← hb]
    clear hb hd
    go_enter Try.func55, Try.ntmps55
    go_wp2
    go_ret
    exact ⟨rfl, (Below.refl _ _).alloc (Nat.le_refl _) _⟩
  · obtain ⟨G, rfl, hG, hcell⟩ := hd.some h0
    have hz : 0 < z.natAbs := by
      have := digs_nil_iff z.natAbs; omega
    have hc := hcell 0 h0
    obtain ⟨d, hdd⟩ : ∃ d, d = (digs z.natAbs).getD 0 0 := ⟨_, rfl⟩
    rw [← hdd] at hc
    rw [digs_pos hz, List.getD_cons_zero] at hdd
    have hd2 : d % 2 = 0 := by omega
    have hd3 : 0 ≤ d := by omega
    have hd4 : (d % 2 == 1) = false := by rw [hd2]; rfl
    obtain ⟨b, hb⟩ : ∃ b, b = decide (z < 0) := ⟨_, rfl⟩
    rw [← hb]
    clear hb hd hcell hdd hl hd2 he
    go_enter Try.func55, Try.ntmps55
    go_wp2
    go_ret
    exact ⟨rfl, (Below.refl _ _).alloc (Nat.le_refl _) _⟩

theorem keep2 {W w1 : World} (hb : Below W.heap.size W w1) {p1 p2 : Addr} {v1 v2 : Value} (h : W.cell? p1 = some v1 ∧ W.cell? p2 = some v2) : w1.cell? p1 = some v1 ∧ w1.cell? p2 = some v2 :=
  ⟨(hb.cell (World.block_lt_of_cell? _ _ h.1)).trans h.1, (hb.cell (World.block_lt_of_cell? _ _ h.2)).trans h.2⟩
/-- A number in a struct's block. -/
def NumAt (w : World) (b : Nat) (z : Int) : Prop := ∃ A n c, w.heap[b]? = some (.cells #[.bool (decide (z < 0)), .slice A n c] 25 (0, 0)) ∧ NumIs w (.agg #[.bool (decide (z < 0)), .slice A n c]) z
end Go.Proofs.Ytjnohdkpkbiclaa
