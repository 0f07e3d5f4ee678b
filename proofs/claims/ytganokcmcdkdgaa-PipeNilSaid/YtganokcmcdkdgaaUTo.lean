/-
  The contracts of the law's To and Of. Conditions: none.
-/
import Derived.Test.YtganokcmcdkdgaaUPipe
namespace Go.Proofs.Ytganokcmcdkdgaa.Pi
open Go.RowKit Wi Tb Wi.S

set_option maxRecDepth 100000 in
theorem to_any (w : World) (k f t n : Int) (A : Option Addr) (q c m : Nat) (hm : min q 100 = m) (hc : m ≤ c) : Calls Try.prog 9 #[.agg #[.int .i64 k, .int .i64 f, .int .i64 t, .int .i64 n, .slice A q c]] w fun e w' => e = .returned (.agg #[.int .i64 k, .int .i64 f, .int .i64 t, .int .i64 n, .slice A m c]) ∧ Below w.heap.size w w' := by
  have hs := Fr.slice_to A q c m hc
  have hi1 : (if (100 : Int) < (q : Int) then (100 : Int) else (q : Int)) = (m : Int) := by split <;> omega
  have hi2 : min (q : Int) 100 = (m : Int) := by omega
  have hc0 : Hid (∀ o : Obj, (((w.alloc (.cells #[.int .i64 k, .int .i64 f, .int .i64 t, .int .i64 n, .slice A q c] 36)).alloc o).drew.cell? ⟨w.heap.size, 0, none⟩ = some (.int .i64 k) ∧ ((w.alloc (.cells #[.int .i64 k, .int .i64 f, .int .i64 t, .int .i64 n, .slice A q c] 36)).alloc o).drew.cell? ⟨w.heap.size, 1, none⟩ = some (.int .i64 f)) ∧ (((w.alloc (.cells #[.int .i64 k, .int .i64 f, .int .i64 t, .int .i64 n, .slice A q c] 36)).alloc o).drew.cell? ⟨w.heap.size, 2, none⟩ = some (.int .i64 t) ∧ ((w.alloc (.cells #[.int .i64 k, .int .i64 f, .int .i64 t, .int .i64 n, .slice A q c] 36)).alloc o).drew.cell? ⟨w.heap.size, 3, none⟩ = some (.int .i64 n)) ∧ ((w.alloc (.cells #[.int .i64 k, .int .i64 f, .int .i64 t, .int .i64 n, .slice A q c] 36)).alloc o).drew.cell? ⟨w.heap.size, 4, none⟩ = some (.slice A q c)) := fun o => by
    obtain ⟨r0, r1, r2, r3, r4⟩ := blk5 (Tb.block_old (Tb.block_new w (.cells #[.int .i64 k, .int .i64 f, .int .i64 t, .int .i64 n, .slice A q c] 36)) o)
    exact ⟨⟨r0, r1⟩, ⟨r2, r3⟩, r4⟩
  clear hm hc
  go_enter Try.func9, Try.ntmps9
  go_upto_region 1 with fail
  go_region_held3 (fun w' => (w'.cell? ⟨w.heap.size, 0, none⟩ = some (.int .i64 k) ∧ w'.cell? ⟨w.heap.size, 1, none⟩ = some (.int .i64 f)) ∧ (w'.cell? ⟨w.heap.size, 2, none⟩ = some (.int .i64 t) ∧ w'.cell? ⟨w.heap.size, 3, none⟩ = some (.int .i64 n)) ∧ w'.cell? ⟨w.heap.size, 4, none⟩ = some (.slice A q c)) (exact hc0.out _) (fail)
  all_goals
    go_wp2
    have h9 := Tb.block_new (w.alloc (.cells #[.int .i64 k, .int .i64 f, .int .i64 t, .int .i64 n, .slice A q c] 36)) (.cells #[.int .i64 k, .int .i64 f, .int .i64 t, .int .i64 n, .slice A m c] 42)
    rw [show (w.alloc (.cells #[.int .i64 k, .int .i64 f, .int .i64 t, .int .i64 n, .slice A q c] 36)).heap.size = w.heap.size + 1 by simp] at h9
    obtain ⟨r0, r1, r2, r3, r4⟩ := blk5 (Tb.block_kept h9 (Below.refl _ _).drew)
    refine bodyPost_ret (v := .agg #[.int .i64 k, .int .i64 f, .int .i64 t, .int .i64 n, .slice A m c]) (by simp [results, Try.results9, go_sem, r0, r1, r2, r3, r4]) rfl ⟨rfl, ?_⟩
    exact (((Below.refl _ _).alloc (Nat.le_refl _) _).alloc (by simp) _).drew
set_option maxRecDepth 100000 in
theorem of_any (w : World) (k f t n : Int) (A : Option Addr) (q c : Nat) : Calls Try.prog 12 #[.agg #[.int .i64 k, .int .i64 f, .int .i64 t, .int .i64 n, .slice A q c]] w fun e w' => e = .returned (.agg #[.int .i64 k, .int .i64 f, .int .i64 t, .int .i64 n, .slice A q c]) ∧ Below w.heap.size w w' := by
  go_enter Try.func12, Try.ntmps12
  have h0 := Tb.block_new w (.cells #[.int .i64 k, .int .i64 f, .int .i64 t, .int .i64 n, .slice A q c] 42)
  have h1 := Tb.block_old h0 (.cells #[.int .i64 0, .int .i64 0, .int .i64 0, .int .i64 0, .slice none 0 0] 36)
  obtain ⟨c0, c1, c2, c3, c4⟩ := blk5 h1
  clear h0 h1
  go_wp2
  have h9 := Tb.block_new (w.alloc (.cells #[.int .i64 k, .int .i64 f, .int .i64 t, .int .i64 n, .slice A q c] 42)) (.cells #[.int .i64 k, .int .i64 f, .int .i64 t, .int .i64 n, .slice A q c] 36)
  rw [show (w.alloc (.cells #[.int .i64 k, .int .i64 f, .int .i64 t, .int .i64 n, .slice A q c] 42)).heap.size = w.heap.size + 1 by simp] at h9
  obtain ⟨r0, r1, r2, r3, r4⟩ := blk5 h9
  refine bodyPost_ret (v := .agg #[.int .i64 k, .int .i64 f, .int .i64 t, .int .i64 n, .slice A q c]) (by simp [results, Try.results12, go_sem, r0, r1, r2, r3, r4]) rfl ⟨rfl, ?_⟩
  exact ((Below.refl _ _).alloc (Nat.le_refl _) _).alloc (by simp) _
end Go.Proofs.Ytganokcmcdkdgaa.Pi
