/-
  Which two may be a pipe's ends. Conditions: none.
-/
import Derived.Test.YtganokcmcdkdgaaUIn
import Derived.Test.YtganokcmcdkdgaaUOut
import Derived.Laws.EntriesVeiled
namespace Go.Proofs.Ytganokcmcdkdgaa.Pi
open Go.RowKit Tb Wi

theorem blk1 {w : World} {b : Nat} {v : Value} {t : TypeId} (h : w.heap[b]? = some (.cells #[v] t (0, 0))) : w.cell? ⟨b, 0, none⟩ = some v ∧ w.frozen? ⟨b, 0, none⟩ = false := ⟨by simp [World.cell?, h], by simp [World.frozen?, h]⟩
def isB (n : Int) : Bool := decide (0 ≤ n) && decide (n < 3)
def endE (s p : Int) : Int := if 0 ≤ s ∧ s < 3 ∧ 0 ≤ p ∧ p < 3 ∧ s ≠ p then 0 else 5
set_option maxRecDepth 100000 in
theorem is_any (w : World) (c : Nat) (n : Int) (h : w.heap[c]? = some (.cells #[.int .i64 3] 3 (0, 0))) : Calls Try.prog 48 #[.int .i64 n, .pointer (some ⟨c, 0, none⟩)] w fun e w' => e = .returned (.bool (isB n)) ∧ w = w' := by
  have h0 : w.cell? ⟨c, 0, none⟩ = some (.int .i64 3) := by simp [World.cell?, h]
  by_cases h1 : 0 ≤ n
  · have e : isB n = decide (n < 3) := by unfold isB; rw [decide_eq_true h1]; rfl
    rw [e]
    clear h e
    go_enter Try.func48, Try.ntmps48
    go_wp2
    go_ret
    exact ⟨rfl, rfl⟩
  · have e : isB n = false := by unfold isB; rw [decide_eq_false h1]; rfl
    rw [e]
    clear h e
    go_enter Try.func48, Try.ntmps48
    go_wp2
    go_ret
    exact ⟨rfl, rfl⟩
set_option maxRecDepth 100000 in
set_option maxHeartbeats 2000000 in
theorem may_any (w : World) (c d : Nat) (s p : Int) (h : w.heap[c]? = some (.cells #[.int .i64 3] 3 (0, 0))) (h2 : w.heap[d]? = some (.cells #[.func (.func 48) #[] #[.pointer (some ⟨c, 0, none⟩)]] 99 (0, 0))) :
    Calls Try.prog 49 #[.int .i64 s, .int .i64 p, .pointer (some ⟨d, 0, none⟩)] w fun e w' => e = .returned (.bool (decide (endE s p = 0))) ∧ w = w' := by
  have h0 : w.cell? ⟨d, 0, none⟩ = some (.func (.func 48) #[] #[.pointer (some ⟨c, 0, none⟩)]) := by simp [World.cell?, h2]
  have HI := Lib.hid (fun n => is_any w c n h)
  obtain ⟨q1, hq1⟩ : ∃ q, q = isB s := ⟨_, rfl⟩
  obtain ⟨q2, hq2⟩ : ∃ q, q = isB p := ⟨_, rfl⟩
  have HI1 := HI.out s
  have HI2 := HI.out p
  rw [← hq1] at HI1
  rw [← hq2] at HI2
  have HA := Lib.hid HI1
  have HB := Lib.hid HI2
  have HE : Hid (decide (endE s p = 0) = (q1 && q2 && decide (s ≠ p))) := by
    show _ = _
    rw [hq1, hq2]
    unfold endE isB
    by_cases g : 0 ≤ s ∧ s < 3 ∧ 0 ≤ p ∧ p < 3 ∧ s ≠ p
    · rw [if_pos g]; obtain ⟨g1, g2, g3, g4, g5⟩ := g; simp [g1, g2, g3, g4, g5]
    · rw [if_neg g]
      simp only [show ¬ ((5 : Int) = 0) by decide, decide_false]
      symm
      rw [← Bool.not_eq_true]
      simp only [Bool.and_eq_true, decide_eq_true_eq]
      intro g2
      exact g ⟨g2.1.1.1, g2.1.1.2, g2.1.2.1, g2.1.2.2, g2.2⟩
  rw [HE.out]
  clear h h2 HI HI1 HI2 hq1 hq2 HE
  cases q1
  · go_enter Try.func49, Try.ntmps49
    go_wp2_with (go_at_call 48; (with_reducible refine HA.out.mono ?_); rintro e w1 ⟨rfl, rfl⟩)
    go_ret
    exact ⟨rfl, rfl⟩
  · cases q2
    · go_enter Try.func49, Try.ntmps49
      go_wp2_with (first
        | (go_at_call 48; (with_reducible refine HA.out.mono ?_); rintro e w1 ⟨rfl, rfl⟩)
        | (go_at_call 48; (with_reducible refine HB.out.mono ?_); rintro e w1 ⟨rfl, rfl⟩))
      go_ret
      exact ⟨rfl, rfl⟩
    · by_cases hsp : s = p
      · have e : decide (s ≠ p) = false := decide_eq_false (fun h => h hsp)
        rw [e]
        clear e
        go_enter Try.func49, Try.ntmps49
        go_wp2_with (first
          | (go_at_call 48; (with_reducible refine HA.out.mono ?_); rintro e w1 ⟨rfl, rfl⟩)
          | (go_at_call 48; (with_reducible refine HB.out.mono ?_); rintro e w1 ⟨rfl, rfl⟩))
        go_ret
        exact ⟨by simp, rfl⟩
      · go_enter Try.func49, Try.ntmps49
        go_wp2_with (first
          | (go_at_call 48; (with_reducible refine HA.out.mono ?_); rintro e w1 ⟨rfl, rfl⟩)
          | (go_at_call 48; (with_reducible refine HB.out.mono ?_); rintro e w1 ⟨rfl, rfl⟩))
        go_ret
        exact ⟨by simp [hsp], rfl⟩
set_option maxRecDepth 100000 in
theorem ends_any (w : World) : Calls Try.prog 39 #[.int .i64 3] w fun e w' => ∃ c d, e = .returned (.func (.func 49) #[] #[.pointer (some ⟨d, 0, none⟩)]) ∧ w'.heap[c]? = some (.cells #[.int .i64 3] 3 (0, 0)) ∧ w'.heap[d]? = some (.cells #[.func (.func 48) #[] #[.pointer (some ⟨c, 0, none⟩)]] 99 (0, 0)) ∧ Below w.heap.size w w' := by
  go_enter Try.func39, Try.ntmps39
  go_wp2

  go_ret
  refine ⟨w.heap.size, w.heap.size + 1, rfl, ?_, ?_, ?_⟩
  · exact block_old (block_new _ _) _
  · have h := block_new (w.alloc (.cells #[.int .i64 3] 3)) (.cells #[.func (.func 48) #[] #[.pointer (some ⟨w.heap.size, 0, none⟩)]] 99)
    rw [show (w.alloc (.cells #[.int .i64 3] 3)).heap.size = w.heap.size + 1 by simp] at h
    exact h
  · exact ((Below.refl _ _).alloc (Nat.le_refl _) _).alloc (by simp) _
set_option maxRecDepth 100000 in
theorem check_any (w : World) (s p : Int) : Calls Try.prog 24 #[.int .i64 s, .int .i64 p] w fun e w' => e = .returned (.int .i64 (endE s p)) ∧ Below w.heap.size w w' := by
  have HE := Lib.hid (ends_any w)
  obtain ⟨q, hq⟩ : ∃ q, q = decide (endE s p = 0) := ⟨_, rfl⟩
  have HQ : Hid (endE s p = if q = true then 0 else 5) := by
    show _ = _
    rw [hq]
    by_cases h : endE s p = 0
    · rw [h]; rfl
    · have h5 : endE s p = 5 := by unfold endE at h ⊢; split <;> simp_all
      rw [h5]; rfl
  have HM := Lib.hid (fun w1 c d h1 h2 => may_any w1 c d s p h1 h2)
  rw [HQ.out]
  rw [← hq] at HM
  clear HQ hq
  cases q
  all_goals
    go_enter Try.func24, Try.ntmps24
    go_wp2_with (first
      | (go_at_call 49; (with_reducible refine HMX.out.mono ?_); rintro e w2 ⟨rfl, rfl⟩)
      | (go_at_call 39; (with_reducible refine HE.out.mono ?_); rintro e w1 ⟨c, d, rfl, h1, h2, hb⟩; have HMX := Lib.hid (HM.out _ c d h1 h2); have HB := Lib.hid hb; clear h1 h2 hb))
    go_ret
    exact ⟨rfl, HB.out⟩
end Go.Proofs.Ytganokcmcdkdgaa.Pi
