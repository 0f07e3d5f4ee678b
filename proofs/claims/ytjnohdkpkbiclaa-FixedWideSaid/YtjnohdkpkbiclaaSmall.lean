/-
  The contract of the reference's 'Small': a small number. Conditions: from -1000000 to 1000000.
-/
import Derived.Test.YtjnohdkpkbiclaaWide
namespace Go.Proofs.Ytjnohdkpkbiclaa
open Go.RowKit

theorem small_dig (w : World) (o1 o2 : Obj) (d0 d1 d2 : Int) :
    Digs (((w.alloc o1).alloc o2).alloc (.cells #[.int .i64 d0, .int .i64 d1, .int .i64 d2] 3)) (.slice (some ⟨w.heap.size + 1 + 1, 0, none⟩) 3 3) [d0, d1, d2] := by
  have h := block_new ((w.alloc o1).alloc o2) (.cells #[.int .i64 d0, .int .i64 d1, .int .i64 d2] 3)
  rw [show ((w.alloc o1).alloc o2).heap.size = w.heap.size + 1 + 1 by simp] at h
  exact Digs.of_row (ds := [d0, d1, d2]) h (by simp [ints]) (Nat.le_refl _) (by decide)

set_option maxRecDepth 100000 in
set_option maxHeartbeats 1000000 in
theorem small_any (w : World) (a : Int) (h0 : -1000000 ≤ a) (h1 : a ≤ 1000000) :
    Calls Try.prog 54 #[.int .i64 a] w fun e w' => ∃ u, e = .returned u ∧ NumIs w' u a ∧ Below w.heap.size w w' := by
  by_cases hs : a < 0
  · obtain ⟨p, hp⟩ : ∃ p, a = -p := ⟨-a, by omega⟩
    subst hp
    have hp0 : 0 ≤ p := by omega
    have hp1 : p ≤ 1000000 := by omega
    go_enter Try.func54, Try.ntmps54
    go_wp2_with fail
    refine (clean_num _ _ _ [p % 65536, p / 65536 % 65536, p / 65536 / 65536] (-p) (small_dig _ _ _ _ _ _) (InR.cons (by omega) (by omega) (InR.cons (by omega) (by omega) (InR.cons (by omega) (by omega) InR.nil))) (by show (-p : Int) = - val _; simp only [val]; omega)).mono ?_
    rintro e w2 ⟨u, rfl, ⟨A2, n2, c2, rfl, hdig2⟩, hbel2⟩
    have hres := block_kept (block_old (block_old (block_new w (.cells #[.bool false, .slice none 0 0] 25)) _) _) hbel2
    obtain ⟨dd0, dd1, gg0, gg1⟩ := blk2 hres
    have HD := Lib.hid hdig2
    clear hdig2
    obtain ⟨bz, hbz⟩ : ∃ b, b = decide (-p < 0) := ⟨_, rfl⟩
    rw [← hbz]
    have HB := Lib.hid hbz
    clear hbz
    go_wp2
    refine bodyPost_ret (v := .agg #[.bool bz, .slice A2 n2 c2]) (by simp [results, Try.results54, go_sem, dd0, dd1]) rfl ⟨_, rfl, num_stored ⟨_, _, _, by rw [HB.out], HD.out⟩ hres _ _, ?_⟩
    exact below_stored (((((Below.refl _ _).alloc (Nat.le_refl _) _).alloc (by simp) _).alloc (by simp; omega) _).trans (hbel2.mono (by simp; omega))) (Nat.le_refl _) _ _
  · go_enter Try.func54, Try.ntmps54
    go_wp2_with fail
    refine (clean_num _ _ _ [a % 65536, a / 65536 % 65536, a / 65536 / 65536] a (small_dig _ _ _ _ _ _) (InR.cons (by omega) (by omega) (InR.cons (by omega) (by omega) (InR.cons (by omega) (by omega) InR.nil))) (by show (a : Int) = val _; simp only [val]; omega)).mono ?_
    rintro e w2 ⟨u, rfl, ⟨A2, n2, c2, rfl, hdig2⟩, hbel2⟩
    have hres := block_kept (block_old (block_old (block_new w (.cells #[.bool false, .slice none 0 0] 25)) _) _) hbel2
    obtain ⟨dd0, dd1, gg0, gg1⟩ := blk2 hres
    have HD := Lib.hid hdig2
    clear hdig2
    obtain ⟨bz, hbz⟩ : ∃ b, b = decide (a < 0) := ⟨_, rfl⟩
    rw [← hbz]
    have HB := Lib.hid hbz
    clear hbz
    go_wp2
    refine bodyPost_ret (v := .agg #[.bool bz, .slice A2 n2 c2]) (by simp [results, Try.results54, go_sem, dd0, dd1]) rfl ⟨_, rfl, num_stored ⟨_, _, _, by rw [HB.out], HD.out⟩ hres _ _, ?_⟩
    exact below_stored (((((Below.refl _ _).alloc (Nat.le_refl _) _).alloc (by simp) _).alloc (by simp; omega) _).trans (hbel2.mono (by simp; omega))) (Nat.le_refl _) _ _
end Go.Proofs.Ytjnohdkpkbiclaa
