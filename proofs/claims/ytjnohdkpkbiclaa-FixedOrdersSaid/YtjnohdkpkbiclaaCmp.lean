/-
  The contracts of the program's Compare and Sign and of what they call. Conditions: the types' own ranges.
-/
import Derived.Test.YtjnohdkpkbiclaaFy
import Derived.Test.YtjnohdkpkbiclaaCompare
import Derived.Test.YtjnohdkpkbiclaaBits
import Derived.Test.YtjnohdkpkbiclaaRnd0
import Derived.Deep.LoopGhost
import Derived.Deep.RegionHeld3
namespace Go.Proofs.Ytjnohdkpkbiclaa
open Go.RowKit

set_option maxRecDepth 100000 in
set_option maxHeartbeats 1000000 in
theorem cmp_i64 (w : World) (a b : Int) {c : Int} (hc : Hid (c = cmpI a b)) :
    Calls Try.prog 46 #[.int .i64 a, .int .i64 b] w fun e w' => e = .returned (.int .i64 c) ∧ w' = w := by
  rcases (by omega : a < b ∨ (¬ a < b ∧ b < a) ∨ (¬ a < b ∧ ¬ b < a)) with h | ⟨h, k⟩ | ⟨h, k⟩
  · obtain rfl : c = -1 := by rw [hc.out]; unfold cmpI; rw [if_pos h]
    go_enter Try.func46, Try.ntmps46
    go_wp2
    go_ret
    exact ⟨rfl, rfl⟩
  · obtain rfl : c = 1 := by rw [hc.out]; unfold cmpI; rw [if_neg h, if_pos k]
    go_enter Try.func46, Try.ntmps46
    go_wp2
    go_ret
    exact ⟨rfl, rfl⟩
  · obtain rfl : c = 0 := by rw [hc.out]; unfold cmpI; rw [if_neg h, if_neg k]
    go_enter Try.func46, Try.ntmps46
    go_wp2
    go_ret
    exact ⟨rfl, rfl⟩
set_option maxRecDepth 100000 in
set_option maxHeartbeats 1000000 in
theorem cmp_u64 (w : World) (a b : Int) {c : Int} (hc : Hid (c = cmpI a b)) :
    Calls Try.prog 47 #[.int .u64 a, .int .u64 b] w fun e w' => e = .returned (.int .i64 c) ∧ w' = w := by
  rcases (by omega : a < b ∨ (¬ a < b ∧ b < a) ∨ (¬ a < b ∧ ¬ b < a)) with h | ⟨h, k⟩ | ⟨h, k⟩
  · obtain rfl : c = -1 := by rw [hc.out]; unfold cmpI; rw [if_pos h]
    go_enter Try.func47, Try.ntmps47
    go_wp2
    go_ret
    exact ⟨rfl, rfl⟩
  · obtain rfl : c = 1 := by rw [hc.out]; unfold cmpI; rw [if_neg h, if_pos k]
    go_enter Try.func47, Try.ntmps47
    go_wp2
    go_ret
    exact ⟨rfl, rfl⟩
  · obtain rfl : c = 0 := by rw [hc.out]; unfold cmpI; rw [if_neg h, if_neg k]
    go_enter Try.func47, Try.ntmps47
    go_wp2
    go_ret
    exact ⟨rfl, rfl⟩

set_option maxRecDepth 100000 in
set_option maxHeartbeats 1000000 in
theorem or_two (w : World) (b : Nat) (c1 c2 r : Int) (hr : Hid (r = if c1 = 0 then c2 else c1)) (h1 : w.cell? ⟨b, 0, none⟩ = some (.int .i64 c1)) (h2 : w.cell? ⟨b, 1, none⟩ = some (.int .i64 c2)) :
    Calls Try.prog 45 #[.slice (some ⟨b, 0, none⟩) 2 2] w fun e w' => e = .returned (.int .i64 r) ∧ w' = w := by
  go_enter Try.func45, Try.ntmps45
  go_wp2
  go_loopg [8] 2 (fun (g : Nat) i wx => wx = w ∧ ((g = 2 ∧ i = .int .i64 0) ∨ (g = 1 ∧ i = .int .i64 1 ∧ c1 = 0) ∨ (g = 0 ∧ i = .int .i64 2 ∧ c1 = 0 ∧ c2 = 0)))
  case atStart => exact ⟨rfl, .inl ⟨rfl, rfl⟩⟩
  case round =>
    obtain ⟨rfl, ⟨rfl, rfl⟩ | ⟨rfl, rfl, hz⟩ | ⟨rfl, rfl, hz, hz2⟩⟩ := hrel
    · by_cases hz : c1 = 0
      · go_wp2
        go_roundg 1
        case measure => omega
        case rel => exact ⟨rfl, .inr (.inl ⟨rfl, rfl, hz⟩)⟩
      · obtain rfl : r = c1 := by rw [hr.out, if_neg hz]
        go_wp2
        go_ret
        exact ⟨rfl, rfl⟩
    · by_cases hz2 : c2 = 0
      · go_wp2
        go_roundg 0
        case measure => omega
        case rel => exact ⟨rfl, .inr (.inr ⟨rfl, rfl, hz, hz2⟩)⟩
      · obtain rfl : r = c2 := by rw [hr.out, if_pos hz]
        go_wp2
        go_ret
        exact ⟨rfl, rfl⟩
    · obtain rfl : r = 0 := by rw [hr.out, if_pos hz, hz2]
      go_wp2
      go_ret
      exact ⟨rfl, rfl⟩
theorem cell6_alloc {W : World} {p1 p2 p3 p4 p5 p6 : Addr} {v1 v2 v3 v4 v5 v6 : Value}
    (h : W.cell? p1 = some v1 ∧ W.cell? p2 = some v2 ∧ W.cell? p3 = some v3 ∧ W.cell? p4 = some v4 ∧ W.cell? p5 = some v5 ∧ W.cell? p6 = some v6) (o : Obj) :
    (W.alloc o).cell? p1 = some v1 ∧ (W.alloc o).cell? p2 = some v2 ∧ (W.alloc o).cell? p3 = some v3 ∧ (W.alloc o).cell? p4 = some v4 ∧ (W.alloc o).cell? p5 = some v5 ∧ (W.alloc o).cell? p6 = some v6 :=
  cell6 ((Below.refl W.heap.size W).alloc (Nat.le_refl _) o) h
theorem cell_new2 (w : World) (x y : Value) (t : TypeId) : (w.alloc (.cells #[x, y] t)).drew.cell? ⟨w.heap.size, 0, none⟩ = some x ∧ (w.alloc (.cells #[x, y] t)).drew.cell? ⟨w.heap.size, 1, none⟩ = some y := by
  obtain ⟨a, b, _, _⟩ := blk2 (block_new w (.cells #[x, y] t))
  exact ⟨a, b⟩
theorem two_new2 (w : World) (o1 o2 : Obj) : ((w.alloc o1).alloc o2).heap[w.heap.size]? = some o1 ∧ ((w.alloc o1).alloc o2).heap[w.heap.size + 1]? = some o2 ∧ Below w.heap.size w ((w.alloc o1).alloc o2) := by
  have e1 : (w.alloc o1).heap.size = w.heap.size + 1 := by simp
  refine ⟨block_old (block_new _ _) _, ?_, ((Below.refl _ _).alloc (Nat.le_refl _) _).alloc (by simp) _⟩
  rw [← e1]; exact block_new _ _

set_option maxRecDepth 100000 in
set_option maxHeartbeats 1000000 in
theorem wcompare_any (w : World) (a b c d : Int) (k : WOk a b) (k' : WOk c d) {r : Int} (hr : Hid (r = cmpI (wv a b) (wv c d))) :
    Calls Try.prog 27 #[.agg #[.int .i64 a, .int .u64 b], .agg #[.int .i64 c, .int .u64 d]] w fun e w' => e = .returned (.int .i64 r) ∧ Below w.heap.size w w' := by
  obtain ⟨c1, h1⟩ : ∃ x, x = cmpI a c := ⟨_, rfl⟩
  obtain ⟨c2, h2⟩ : ∃ x, x = cmpI b d := ⟨_, rfl⟩
  have HR : Hid (r = if c1 = 0 then c2 else c1) := by
    show _ = _
    rw [hr.out, h1, h2]
    unfold WOk at k k'
    unfold cmpI wv
    split <;> split <;> (try split) <;> (try split) <;> (try split) <;> (try split) <;> omega
  have H1 := Lib.hid h1
  have H2 := Lib.hid h2
  clear h1 h2 hr k k'
  go_enter Try.func27, Try.ntmps27
  go_upto_region 1 with fail
  obtain ⟨W0, hW0⟩ : ∃ W0, W0 = (w.alloc (.cells #[.int .i64 a, .int .u64 b] 38)).alloc (.cells #[.int .i64 c, .int .u64 d] 38) := ⟨_, rfl⟩
  rw [← hW0]
  have j := two_new2 w (.cells #[.int .i64 a, .int .u64 b] 38) (.cells #[.int .i64 c, .int .u64 d] 38)
  rw [← hW0] at j
  clear hW0
  obtain ⟨x0, x1, _, _⟩ := blk2 j.1
  obtain ⟨y0, y1, _, _⟩ := blk2 j.2.1
  have HB := Lib.hid j.2.2
  have S0 : W0.cell? ⟨w.heap.size, 0, none⟩ = some (.int .i64 a) ∧ W0.cell? ⟨w.heap.size, 1, none⟩ = some (.int .u64 b) ∧ W0.cell? ⟨w.heap.size + 1, 0, none⟩ = some (.int .i64 c) ∧ W0.cell? ⟨w.heap.size + 1, 1, none⟩ = some (.int .u64 d) ∧ W0.cell? ⟨w.heap.size + 1, 1, none⟩ = some (.int .u64 d) ∧ W0.cell? ⟨w.heap.size + 1, 1, none⟩ = some (.int .u64 d) := ⟨x0, x1, y0, y1, y1, y1⟩
  clear j x0 x1 y0 y1
  have S1 : W0.drew.cell? ⟨w.heap.size, 0, none⟩ = some (.int .i64 a) ∧ W0.drew.cell? ⟨w.heap.size, 1, none⟩ = some (.int .u64 b) ∧ W0.drew.cell? ⟨w.heap.size + 1, 0, none⟩ = some (.int .i64 c) ∧ W0.drew.cell? ⟨w.heap.size + 1, 1, none⟩ = some (.int .u64 d) ∧ W0.drew.cell? ⟨w.heap.size + 1, 1, none⟩ = some (.int .u64 d) ∧ W0.drew.cell? ⟨w.heap.size + 1, 1, none⟩ = some (.int .u64 d) := S0
  go_region_held3 (fun w' => w'.cell? ⟨w.heap.size, 0, none⟩ = some (.int .i64 a) ∧ w'.cell? ⟨w.heap.size, 1, none⟩ = some (.int .u64 b) ∧ w'.cell? ⟨w.heap.size + 1, 0, none⟩ = some (.int .i64 c) ∧ w'.cell? ⟨w.heap.size + 1, 1, none⟩ = some (.int .u64 d) ∧ w'.cell? ⟨w.heap.size + 1, 1, none⟩ = some (.int .u64 d) ∧ w'.cell? ⟨w.heap.size + 1, 1, none⟩ = some (.int .u64 d)) (first | assumption | exact cell6_alloc S0 _)
    (first
      | (go_at_call 46; (with_reducible refine (cmp_i64 W0.drew a c H1).mono ?_); rintro e w1 ⟨rfl, rfl⟩)
      | (go_at_call 47; (with_reducible refine (cmp_u64 W0.drew b d H2).mono ?_); rintro e w1 ⟨rfl, rfl⟩)
      | (go_at_call 45; (with_reducible refine (or_two _ _ c1 c2 r HR (cell_new2 _ _ _ _).1 (cell_new2 _ _ _ _).2).mono ?_); rintro e w1 ⟨rfl, rfl⟩))
  go_wp2
  go_ret
  exact ⟨rfl, (HB.out.alloc HB.out.size _).drew⟩

set_option maxRecDepth 100000 in
set_option maxHeartbeats 1000000 in
theorem sign_any (w : World) (a b : Int) (k : WOk a b) {r : Int} (hr : Hid (r = cmpI (wv a b) 0)) :
    Calls Try.prog 28 #[.agg #[.int .i64 a, .int .u64 b]] w fun e w' => e = .returned (.int .i64 r) ∧ Below w.heap.size w w' := by
  have HK := Lib.hid k
  have H0 : Hid (WOk 0 0) := by show WOk 0 0; unfold WOk; omega
  have HR : Hid (r = cmpI (wv a b) (wv 0 0)) := hr
  have e1 := Lib.hid (show (w.alloc (.cells #[.int .i64 a, .int .u64 b] 38)).heap.size = w.heap.size + 1 by simp)
  clear k hr
  go_enter Try.func28, Try.ntmps28
  go_wp2_with (go_at_call 27; (with_reducible refine (wcompare_any _ a b 0 0 HK.out H0.out HR).mono ?_); rintro e w1 ⟨rfl, hb⟩; have HB := Lib.hid hb; clear hb)
  go_ret
  exact ⟨rfl, ((Below.refl _ _).alloc (Nat.le_refl _) _).trans (HB.out.mono (by rw [e1.out]; omega))⟩
end Go.Proofs.Ytjnohdkpkbiclaa
