/-
  The contract of the reference's 'Add', whole: the sum. Conditions: each number has at most 1000 digits to the base 65536.
-/
import Derived.Test.YtjnohdkpkbiclaaSub
namespace Go.Proofs.Ytjnohdkpkbiclaa
open Go.RowKit

theorem few_of_lt {x : Int} {k : Nat} (hk : k ≤ 1000) (h : (x.natAbs : Int) < bp k) : Few x := by
  unfold Few
  rcases Nat.lt_or_ge 1000 (digs x.natAbs).length with h1 | h1
  · have hpos : 0 < x.natAbs := by
      rcases Nat.eq_zero_or_pos x.natAbs with h0 | h0
      · rw [h0, digs_zero] at h1; simp at h1
      · exact h0
    have ht := digs_top _ hpos
    have hr := (digs_inR x.natAbs).getD ((digs x.natAbs).length - 1)
    have hs := val_take_succ (digs x.natAbs) ((digs x.natAbs).length - 1)
    rw [val_take_all (by omega), val_digs] at hs
    have h0 := val_nonneg ((digs_inR x.natAbs).take ((digs x.natAbs).length - 1))
    have hb := bp_mono (show k ≤ (digs x.natAbs).length - 1 by omega)
    have hp := bp_pos ((digs x.natAbs).length - 1)
    have hm : bp ((digs x.natAbs).length - 1) * 1 ≤ bp ((digs x.natAbs).length - 1) * (digs x.natAbs).getD ((digs x.natAbs).length - 1) 0 := Int.mul_le_mul_of_nonneg_left (by omega) (by omega)
    omega
  · exact h1

theorem add_any (w : World) (u v : Value) (x y : Int) (h : NumIs w u x) (h' : NumIs w v y) (hf : Few x) (hf' : Few y) :
    Calls Try.prog 13 #[u, v] w fun e w' => ∃ u, e = .returned u ∧ NumIs w' u (x + y) ∧ Below w.heap.size w w' := by
  obtain ⟨A, n, c, rfl, hd⟩ := h
  obtain ⟨A', n', c', rfl, hd'⟩ := h'
  have h1 := hd.len.1
  have h2 := hd'.len.1
  unfold Few at hf hf'
  by_cases hx : x < 0 <;> by_cases hy : y < 0
  · rw [decide_eq_true hx, decide_eq_true hy]
    exact add_same w true A A' n n' c c' _ _ (x + y) hd hd' (digs_inR _) (digs_inR _) (by omega) (by omega) (by rw [if_pos rfl, val_digs, val_digs]; omega)
  · rw [decide_eq_true hx, decide_eq_false hy]
    exact add_diff w true A A' n n' c c' _ _ (x + y) hd hd' (by omega) (by omega) (by rw [if_pos rfl]; omega)
  · rw [decide_eq_false hx, decide_eq_true hy]
    exact add_diff w false A A' n n' c c' _ _ (x + y) hd hd' (by omega) (by omega) (by rw [if_neg (by decide)]; omega)
  · rw [decide_eq_false hx, decide_eq_false hy]
    exact add_same w false A A' n n' c c' _ _ (x + y) hd hd' (digs_inR _) (digs_inR _) (by omega) (by omega) (by rw [if_neg (by decide), val_digs, val_digs]; omega)
end Go.Proofs.Ytjnohdkpkbiclaa
