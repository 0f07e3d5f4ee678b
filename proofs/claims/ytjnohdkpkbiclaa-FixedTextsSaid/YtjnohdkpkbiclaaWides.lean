/-
  The contracts of the program's Minus and Opposite of 128 bits. Conditions: the types' own ranges.
-/
import Derived.Test.YtjnohdkpkbiclaaLaws
import Derived.Test.YtjnohdkpkbiclaaSums
namespace Go.Proofs.Ytjnohdkpkbiclaa
open Go.RowKit

/-- An answer of 128 bits is what it must be. -/
def WSpec (z h l er : Int) : Prop := (In128 z ∧ WOk h l ∧ wv h l = z ∧ er = 0) ∨ (¬ In128 z ∧ h = 0 ∧ l = 0 ∧ er = 4)

theorem wide_ok (w : World) (v : Value) (z h l er : Int) (hs : Hid (WSpec z h l er)) (hv : NumIs w v z) :
    Calls Try.prog 22 #[.agg #[.int .i64 h, .int .u64 l], .int .i64 er, v] w fun e w' => e = .returned (.bool true) ∧ Below w.heap.size w w' := by
  rcases hs.out with ⟨f, k, hw, rfl⟩ | ⟨f, rfl, rfl, rfl⟩
  · exact wide_fits w h l k v z hv f hw
  · exact wide_over w v z hv f

theorem minus_spec {a b c d h l : Int} (k : WOk a b) (k' : WOk c d) (g : WOk h l) (e : wv h l = w128 (wv a b - wv c d)) :
    (((a < 0 ∧ ¬ c < 0 ∧ ¬ h < 0) ∨ (¬ a < 0 ∧ c < 0 ∧ h < 0)) → WSpec (wv a b - wv c d) 0 0 4) ∧
    (((a < 0 ∧ c < 0) ∨ (¬ a < 0 ∧ ¬ c < 0) ∨ (a < 0 ∧ h < 0) ∨ (¬ a < 0 ∧ ¬ h < 0)) → WSpec (wv a b - wv c d) h l 0) := by
  obtain ⟨k0, k1, k2, k3⟩ := k
  obtain ⟨m0, m1, m2, m3⟩ := k'
  have g' := g
  obtain ⟨g0, g1, g2, g3⟩ := g
  unfold w128 wv at e
  constructor
  · intro hc
    right
    refine ⟨?_, rfl, rfl, rfl⟩
    unfold In128 wv
    omega
  · intro hc
    left
    have hin : In128 (wv a b - wv c d) := by unfold In128 wv; omega
    refine ⟨hin, g', ?_, rfl⟩
    unfold In128 wv at hin
    unfold wv
    omega

set_option maxRecDepth 100000 in
set_option maxHeartbeats 2000000 in
theorem fminus_any (w : World) (a b c d : Int) (k : WOk a b) (k' : WOk c d) :
    Calls Try.prog 18 #[.agg #[.int .i64 a, .int .u64 b], .agg #[.int .i64 c, .int .u64 d]] w fun e w' => ∃ h l er, e = .returned (.tuple #[.agg #[.int .i64 h, .int .u64 l], .int .i64 er]) ∧ Hid (WSpec (wv a b - wv c d) h l er) ∧ Below w.heap.size w w' := by
  have KA := Lib.hid k
  have KC := Lib.hid k'
  clear k k'
  go_enter Try.func18, Try.ntmps18
  go_upto_region 1 with fail
  obtain ⟨W0, hW0⟩ : ∃ W0, W0 = ((w.alloc (.cells #[.int .i64 a, .int .u64 b] 38)).alloc (.cells #[.int .i64 c, .int .u64 d] 38)).alloc (.cells #[.int .i64 0, .int .u64 0] 38) := ⟨_, rfl⟩
  rw [← hW0]
  have j0 : Hid (W0.heap[w.heap.size]? = some (.cells #[.int .i64 a, .int .u64 b] 38 (0, 0)) ∧ W0.heap[w.heap.size + 1]? = some (.cells #[.int .i64 c, .int .u64 d] 38 (0, 0)) ∧
      W0.heap[w.heap.size + 1 + 1]? = some (.cells #[.int .i64 0, .int .u64 0] 38 (0, 0)) ∧ Below w.heap.size w W0) := by
    rw [hW0]
    exact (three_nums w _ _ _).2
  clear hW0
  obtain ⟨x0, x1, _, _⟩ := blk2 j0.out.1
  obtain ⟨y0, y1, _, _⟩ := blk2 j0.out.2.1
  go_upto_region 2 with (go_at_call 37; (with_reducible refine (part_any W0 a b c d KA.out KC.out).mono ?_); rintro e w1 ⟨h, l, rfl, hs, hb⟩; have HS := Lib.hid (minus_spec KA.out KC.out hs.out.1 hs.out.2); have HB := Lib.hid hb; clear hb hs)
  obtain ⟨W2, hW2⟩ : ∃ W2, W2 = w1.alloc (.cells #[.int .i64 h, .int .u64 l] 38) := ⟨_, rfl⟩
  rw [← hW2]
  have kp := block_new w1 (.cells #[.int .i64 h, .int .u64 l] 38)
  have k1 := block_old (block_kept j0.out.1 HB.out) (.cells #[.int .i64 h, .int .u64 l] 38)
  have k2 := block_old (block_kept j0.out.2.1 HB.out) (.cells #[.int .i64 h, .int .u64 l] 38)
  have k3 := block_old (block_kept j0.out.2.2.1 HB.out) (.cells #[.int .i64 h, .int .u64 l] 38)
  rw [← hW2] at kp k1 k2 k3
  have hb2 : Below w.heap.size w W2 := by
    have := j0.out.2.2.2.trans (HB.out.mono j0.out.2.2.2.size)
    rw [hW2]; exact this.alloc this.size _
  have BB := Lib.hid hb2
  clear x0 x1 y0 y1 hW2 j0 HB hb2
  obtain ⟨x0, x1, _, _⟩ := blk2 k1
  obtain ⟨y0, y1, _, _⟩ := blk2 k2
  obtain ⟨r0, r1, rf0, rf1⟩ := blk2 k3
  obtain ⟨p0, p1, _, _⟩ := blk2 kp
  clear k1 k2 k3 kp
  have fin := fun u v => below_stored BB.out (show w.heap.size ≤ w.heap.size + 1 + 1 by omega) u v
  have FIN := Lib.hid fin
  clear fin
  by_cases sa : a < 0 <;> by_cases sc : c < 0 <;> by_cases sh : h < 0
  all_goals
    go_wp2_with fail
    first
      | refine bodyPost_ret (v := .tuple #[.agg #[.int .i64 h, .int .u64 l], .int .i64 0]) (by simp [results, Try.results18, go_sem, r0, r1]) rfl ⟨_, _, _, rfl, HS.out.2 (by omega), FIN.out _ _⟩
      | refine bodyPost_ret (v := .tuple #[.agg #[.int .i64 0, .int .u64 0], .int .i64 4]) (by simp [results, Try.results18, go_sem, r0, r1]) rfl ⟨_, _, _, rfl, HS.out.1 (by omega), FIN.out _ _⟩

set_option maxRecDepth 100000 in
set_option maxHeartbeats 2000000 in
theorem fopposite_any (w : World) (a b : Int) (k : WOk a b) :
    Calls Try.prog 19 #[.agg #[.int .i64 a, .int .u64 b]] w fun e w' => ∃ h l er, e = .returned (.tuple #[.agg #[.int .i64 h, .int .u64 l], .int .i64 er]) ∧ Hid (WSpec (- wv a b) h l er) ∧ Below w.heap.size w w' := by
  have KA := Lib.hid k
  have K0 : Hid (WOk 0 0) := by show WOk 0 0; unfold WOk; omega
  have e0 : wv 0 0 - wv a b = - wv a b := by unfold wv; omega
  clear k
  go_enter Try.func19, Try.ntmps19
  go_upto_region 1 with fail
  obtain ⟨W0, hW0⟩ : ∃ W0, W0 = (w.alloc (.cells #[.int .i64 a, .int .u64 b] 38)).alloc (.cells #[.int .i64 0, .int .u64 0] 38) := ⟨_, rfl⟩
  rw [← hW0]
  have j := two_new w (.cells #[.int .i64 a, .int .u64 b] 38) (.cells #[.int .i64 0, .int .u64 0] 38)
  rw [← hW0] at j
  clear hW0
  have J := Lib.hid j
  obtain ⟨x0, x1, _, _⟩ := blk2 j.1
  clear j
  go_wp2_with (go_at_call 18; (with_reducible refine (fminus_any W0 0 0 a b K0.out KA.out).mono ?_); rintro e w1 ⟨h, l, er, rfl, hs, hb⟩; have HS := hs; have k3 := block_kept J.out.2.1 hb; obtain ⟨r0, r1, rf0, rf1⟩ := blk2 k3; have BB := Lib.hid (J.out.2.2.trans (hb.mono J.out.2.2.size)); clear hb hs)
  rw [e0] at HS
  refine bodyPost_ret (v := .tuple #[.agg #[.int .i64 h, .int .u64 l], .int .i64 er]) (by simp [results, Try.results19, go_sem, r0, r1]) rfl ⟨_, _, _, rfl, HS, below_stored BB.out (by omega) _ _⟩
end Go.Proofs.Ytjnohdkpkbiclaa
