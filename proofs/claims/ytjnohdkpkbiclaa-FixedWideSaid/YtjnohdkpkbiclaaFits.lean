/-
  The contracts of the reference's 'power' (at 63 and 127), 'Fits' (at 64 and 128), 'odd'. Conditions: the value reads as a number of at most 1000 digits.
-/
import Derived.Test.YtjnohdkpkbiclaaMul
import Derived.Deep.RegionHeld3
namespace Go.Proofs.Ytjnohdkpkbiclaa
open Go.RowKit

theorem num_row {w : World} {g : Nat} {ds : List Int} {z : Nat} (hg : w.heap[g]? = some (.cells (ints ds).toArray 3 (0, 0))) (hr : InR ds) (ht : ds.getD (ds.length - 1) 0 ≠ 0) (hz : val ds = z) (hl : ds.length ≤ maxLen) :
    NumIs w (.agg #[.bool false, .slice (some ⟨g, 0, none⟩) ds.length ds.length]) z := by
  have hd : digs z = ds := by
    have := digs_of hr (.inr ht)
    rw [hz] at this
    simpa using this.symm
  refine ⟨_, _, _, by rw [decide_eq_false (by omega)], ?_⟩
  rw [show ((z : Int)).natAbs = z by simp, hd]
  exact Digs.of_row hg (by rw [List.take_of_length_le (by simp [ints])]) (Nat.le_refl _) hl

theorem made63 : ∀ W : World, (Instr.makeSlice 23 (.int .i64 4) (.int .i64 4)).run Try.prog W = .ok (.slice (some ⟨W.heap.size, 0, none⟩) 4 4) (W.alloc (.cells #[.int .i64 0, .int .i64 0, .int .i64 0, .int .i64 0] 3)) := fun _ => by kernel_rfl

set_option maxRecDepth 100000 in
set_option maxHeartbeats 1000000 in
theorem power63_any (w : World) (l : Int) (hl0 : 0 ≤ l) (hl1 : l ≤ 1) :
    Calls Try.prog 60 #[.int .i64 63, .int .i64 l] w fun e w' => ∃ u, e = .returned u ∧ NumIs w' u (9223372036854775808 - l) ∧ Below w.heap.size w w' := by
  have hmk := made63
  obtain ⟨z, hz⟩ : ∃ z : Int, z = 9223372036854775808 - l := ⟨_, rfl⟩
  rw [← hz]
  have HZ := Lib.hid hz
  clear hz
  have hfew : Few (9223372036854775808 : Int) := few_of_lt (k := 9) (by decide) (by decide)
  have hfew2 : Few (-l) := few_of_lt (k := 1) (by decide) (by simp only [bp]; omega)
  have HF := Lib.hid hfew
  have HF2 := Lib.hid hfew2
  clear hfew hfew2
  have e1 : (w.alloc (.cells #[.bool false, .slice none 0 0] 25)).heap.size = w.heap.size + 1 := by simp
  go_enter Try.func60, Try.ntmps60
  go_wp2_with fail
  obtain ⟨W1, hW1⟩ : ∃ W1, W1 = (w.alloc (.cells #[.bool false, .slice none 0 0] 25)).alloc (.cells #[.int .i64 0, .int .i64 0, .int .i64 0, .int .i64 32768] 3) := ⟨_, rfl⟩
  rw [← hW1]
  have hres : Hid (W1.heap[w.heap.size]? = some (.cells #[.bool false, .slice none 0 0] 25 (0, 0))) := by rw [hW1]; exact block_old (block_new _ _) _
  have hrow : Hid (W1.heap[w.heap.size + 1]? = some (.cells (ints [0, 0, 0, 32768]).toArray 3 (0, 0))) := by rw [hW1, ← e1]; exact block_new _ _
  have hb1 : Below w.heap.size w W1 := by rw [hW1]; exact ((Below.refl _ _).alloc (Nat.le_refl _) _).alloc (by rw [e1]; omega) _
  clear hW1 e1 hmk
  refine (small_any _ (-l) (by omega) (by omega)).mono ?_
  rintro e w2 ⟨u2, rfl, hu2, hb2⟩
  have HU := Lib.hid hu2
  have hnum : NumIs w2 (.agg #[.bool false, .slice (some ⟨w.heap.size + 1, 0, none⟩) 4 4]) (((9223372036854775808 : Nat) : Int)) := num_row (ds := [0, 0, 0, 32768]) (block_kept hrow.out hb2) (by intro d hd; simp at hd; omega) (by decide) (by decide) (by decide)
  have HN := Lib.hid hnum
  clear hu2 hnum
  go_wp2_with fail
  refine (add_any _ _ _ _ _ HN.out HU.out HF.out HF2.out).mono ?_
  rintro e w3 ⟨u3, rfl, hu3, hb3⟩
  rw [show (((9223372036854775808 : Nat) : Int)) + -l = z by rw [HZ.out]; omega] at hu3
  obtain ⟨A2, n2, c2, rfl, hdig2⟩ := hu3
  have hres3 := block_kept (block_kept hres.out hb2) hb3
  obtain ⟨dd0, dd1, gg0, gg1⟩ := blk2 hres3
  have HD := Lib.hid hdig2
  clear hdig2
  go_wp2_with fail
  refine bodyPost_ret (v := .agg #[.bool (decide (z < 0)), .slice A2 n2 c2]) (by simp [results, Try.results60, go_sem, dd0, dd1]) rfl ⟨_, rfl, num_stored ⟨_, _, _, rfl, HD.out⟩ hres3 _ _, ?_⟩
  exact below_stored ((hb1.trans (hb2.mono hb1.size)).trans (hb3.mono (Nat.le_trans hb1.size hb2.size))) (Nat.le_refl _) _ _

theorem made127 : ∀ W : World, (Instr.makeSlice 23 (.int .i64 8) (.int .i64 8)).run Try.prog W = .ok (.slice (some ⟨W.heap.size, 0, none⟩) 8 8) (W.alloc (.cells #[.int .i64 0, .int .i64 0, .int .i64 0, .int .i64 0, .int .i64 0, .int .i64 0, .int .i64 0, .int .i64 0] 3)) := fun _ => by kernel_rfl

set_option maxRecDepth 100000 in
set_option maxHeartbeats 1000000 in
theorem power127_any (w : World) (l : Int) (hl0 : 0 ≤ l) (hl1 : l ≤ 1) :
    Calls Try.prog 60 #[.int .i64 127, .int .i64 l] w fun e w' => ∃ u, e = .returned u ∧ NumIs w' u (170141183460469231731687303715884105728 - l) ∧ Below w.heap.size w w' := by
  have hmk := made127
  obtain ⟨z, hz⟩ : ∃ z : Int, z = 170141183460469231731687303715884105728 - l := ⟨_, rfl⟩
  rw [← hz]
  have HZ := Lib.hid hz
  clear hz
  have hfew : Few (170141183460469231731687303715884105728 : Int) := few_of_lt (k := 9) (by decide) (by decide)
  have hfew2 : Few (-l) := few_of_lt (k := 1) (by decide) (by simp only [bp]; omega)
  have HF := Lib.hid hfew
  have HF2 := Lib.hid hfew2
  clear hfew hfew2
  have e1 : (w.alloc (.cells #[.bool false, .slice none 0 0] 25)).heap.size = w.heap.size + 1 := by simp
  go_enter Try.func60, Try.ntmps60
  go_wp2_with fail
  obtain ⟨W1, hW1⟩ : ∃ W1, W1 = (w.alloc (.cells #[.bool false, .slice none 0 0] 25)).alloc (.cells #[.int .i64 0, .int .i64 0, .int .i64 0, .int .i64 0, .int .i64 0, .int .i64 0, .int .i64 0, .int .i64 32768] 3) := ⟨_, rfl⟩
  rw [← hW1]
  have hres : Hid (W1.heap[w.heap.size]? = some (.cells #[.bool false, .slice none 0 0] 25 (0, 0))) := by rw [hW1]; exact block_old (block_new _ _) _
  have hrow : Hid (W1.heap[w.heap.size + 1]? = some (.cells (ints [0, 0, 0, 0, 0, 0, 0, 32768]).toArray 3 (0, 0))) := by rw [hW1, ← e1]; exact block_new _ _
  have hb1 : Below w.heap.size w W1 := by rw [hW1]; exact ((Below.refl _ _).alloc (Nat.le_refl _) _).alloc (by rw [e1]; omega) _
  clear hW1 e1 hmk
  refine (small_any _ (-l) (by omega) (by omega)).mono ?_
  rintro e w2 ⟨u2, rfl, hu2, hb2⟩
  have HU := Lib.hid hu2
  have hnum : NumIs w2 (.agg #[.bool false, .slice (some ⟨w.heap.size + 1, 0, none⟩) 8 8]) (((170141183460469231731687303715884105728 : Nat) : Int)) := num_row (ds := [0, 0, 0, 0, 0, 0, 0, 32768]) (block_kept hrow.out hb2) (by intro d hd; simp at hd; omega) (by decide) (by decide) (by decide)
  have HN := Lib.hid hnum
  clear hu2 hnum
  go_wp2_with fail
  refine (add_any _ _ _ _ _ HN.out HU.out HF.out HF2.out).mono ?_
  rintro e w3 ⟨u3, rfl, hu3, hb3⟩
  rw [show (((170141183460469231731687303715884105728 : Nat) : Int)) + -l = z by rw [HZ.out]; omega] at hu3
  obtain ⟨A2, n2, c2, rfl, hdig2⟩ := hu3
  have hres3 := block_kept (block_kept hres.out hb2) hb3
  obtain ⟨dd0, dd1, gg0, gg1⟩ := blk2 hres3
  have HD := Lib.hid hdig2
  clear hdig2
  go_wp2_with fail
  refine bodyPost_ret (v := .agg #[.bool (decide (z < 0)), .slice A2 n2 c2]) (by simp [results, Try.results60, go_sem, dd0, dd1]) rfl ⟨_, rfl, num_stored ⟨_, _, _, rfl, HD.out⟩ hres3 _ _, ?_⟩
  exact below_stored ((hb1.trans (hb2.mono hb1.size)).trans (hb3.mono (Nat.le_trans hb1.size hb2.size))) (Nat.le_refl _) _ _

end Go.Proofs.Ytjnohdkpkbiclaa
