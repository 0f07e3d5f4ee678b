/-
  The contract of the reference's 'words': so many words of 16 bits of a number's bits. Conditions: the number is one of 64 bits; at most 1000 words.
-/
import Derived.Test.YtjnohdkpkbiclaaCompare
namespace Go.Proofs.Ytjnohdkpkbiclaa
open Go.RowKit

theorem info_int : (Try.prog.info? 3).map (fun i => (i.zero, i.size, i.bytes)) = some (some (.int .i64 0), 1, 8) := by kernel_rfl

/-- The words of a number, the lowest first. -/
def wds : Nat → Int → List Int
  | 0, _ => []
  | k + 1, a => a % 65536 :: wds k (a / 65536)
theorem wds_len (k : Nat) (a : Int) : (wds k a).length = k := by
  induction k generalizing a with
  | zero => rfl
  | succ k ih => simp [wds, ih]
theorem wds_inR (k : Nat) (a : Int) : InR (wds k a) := by
  induction k generalizing a with
  | zero => exact InR.nil
  | succ k ih => exact InR.cons (by omega) (by omega) (ih _)
theorem val_wds (k : Nat) (a : Int) : 0 ≤ a → a < bp k → val (wds k a) = a := by
  induction k generalizing a with
  | zero => intro h0 h1; simp only [bp] at h1; simp only [wds, val]; omega
  | succ k ih => intro h0 h1; simp only [bp] at h1; simp only [wds, val]; rw [ih _ (by omega) (by omega)]; omega

theorem below_ge {B : Nat} {w w' : World} (h : Below B w w') {n : Nat} (hn : n ≤ w.heap.size) : n ≤ w'.heap.size := Nat.le_trans hn h.size

theorem ints_snoc (os : List Int) (d : Int) : ints os ++ [Value.int .i64 d] = ints (os ++ [d]) := by simp [ints]

set_option maxHeartbeats 1000000 in
theorem words_any (w : World) (a0 : Int) (n : Nat) (h0 : 0 ≤ a0) (h1 : a0 ≤ 18446744073709551615) (hn : n ≤ 1000) :
    Calls Try.prog 35 #[.int .u64 a0, .int .i64 (n : Int)] w fun e w' => ∃ v, e = .returned v ∧ w'.ownsRow w.heap.size 3 1 v n (ints (wds n a0)) ∧ Below w.heap.size w w' := by
  obtain ⟨i0, hi, hz0, hz1, hz2⟩ := info_parts info_int
  go_enter Try.func35, Try.ntmps35
  go_wp2
  go_loopg [0, 5, 6] n (fun (g : Nat) sa sl si wx => ∃ (k : Nat) (a : Int) (os : List Int), g = n - k ∧ k ≤ n ∧ sa = .int .u64 a ∧ 0 ≤ a ∧ a ≤ 18446744073709551615 ∧ si = .int .i64 (k : Int) ∧
      wx.ownsRow w.heap.size 3 1 sl k (ints os) ∧ Below w.heap.size w wx ∧ Hid (os ++ wds (n - k) a = wds n a0))
  case atStart => exact ⟨0, a0, [], rfl, Nat.zero_le _, rfl, h0, h1, rfl, World.ownsRow_nil _ _ _ _, Below.refl _ _, rfl⟩
  case round =>
    obtain ⟨k, a, os, rfl, hk, rfl, ha0, ha1, rfl, hown, hbel, hl⟩ := hrel
    have hsz := hbel.size
    by_cases hlt : k < n
    · go_wp2_with (at_builtin; refine wpList_append_own _ rfl (.tmp 12) (.tmp 16) 23 rfl w.heap.size 3 i0 (.int .i64 0) 1 8 Try.underlying23 hi hz0 hz1 hz2 rfl (by decide) _ _ _ rfl (hown.alloc _) ⟨wr.heap.size, 0, none⟩ 1 1 [.int .i64 (a % 65536)] rfl rfl (cell_one_new _ _ _) (by intro u hu; simp at hu; subst hu; rfl) (by unfold maxLen; omega) (by omega) (by simp; omega) ?_; intro v' w1 hown' hgrow _)
      have hl2 : os ++ [a % 65536] ++ wds (n - (k + 1)) (a / 65536) = wds n a0 := by
        have h := hl.out
        rw [show n - k = (n - (k + 1)) + 1 by omega] at h
        rw [List.append_assoc]; exact h
      have hbel2 : Below w.heap.size w w1 := (hbel.alloc hsz _).grown hgrow (by simp; omega) (fun b hb => (hown.lt b hb).1)
      rw [ints_snoc] at hown'
      clear hgrow hown hbel hl
      go_roundg (n - (k + 1))
      case measure => omega
      case rel => exact ⟨k + 1, a / 65536, os ++ [a % 65536], rfl, by omega, rfl, by omega, by omega, by go_num, hown', hbel2, hl2⟩
    · have : k = n := by omega
      subst this
      have hl2 : os = wds k a0 := by have h := hl.out; rw [Nat.sub_self] at h; simpa [wds] using h
      rw [hl2] at hown
      clear hl hl2
      go_wp2
      go_ret
      exact ⟨_, rfl, hown, hbel⟩
end Go.Proofs.Ytjnohdkpkbiclaa
