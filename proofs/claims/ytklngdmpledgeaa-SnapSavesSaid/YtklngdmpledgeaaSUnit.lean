/-
  A store in memory; the contracts of arm, use, state, orDown, Down, Room, Used, Arm, Revive. Conditions: none.
-/
import Derived.Test.YtklngdmpledgeaaSMap
namespace Go.Proofs.Ytklngdmpledgeaa.Sr
open Go.RowKit Fr

/-- The store's own cells: armed, left, down, room, used. -/
structure S where
  a : Bool
  n : Int
  d : Bool
  room : Int
  used : Int
def blk (s : S) (mb : Option Nat) : Obj := .cells #[.bool s.a, .int .i64 s.n, .bool s.d, .int .i64 s.room, .int .i64 s.used, .map mb] 96 (0, 0)

theorem blk_cells {w : World} {p : Nat} {s : S} {mb : Option Nat} (h : w.heap[p]? = some (blk s mb)) :
    (w.cell? ⟨p, 0, none⟩ = some (.bool s.a) ∧ w.cell? ⟨p, 1, none⟩ = some (.int .i64 s.n) ∧ w.cell? ⟨p, 2, none⟩ = some (.bool s.d) ∧ w.cell? ⟨p, 3, none⟩ = some (.int .i64 s.room) ∧ w.cell? ⟨p, 4, none⟩ = some (.int .i64 s.used) ∧ w.cell? ⟨p, 5, none⟩ = some (.map mb)) ∧
    w.frozen? ⟨p, 0, none⟩ = false ∧ w.frozen? ⟨p, 1, none⟩ = false ∧ w.frozen? ⟨p, 2, none⟩ = false ∧ w.frozen? ⟨p, 3, none⟩ = false ∧ w.frozen? ⟨p, 4, none⟩ = false ∧ w.frozen? ⟨p, 5, none⟩ = false := by
  unfold blk at h
  exact ⟨⟨by simp [World.cell?, h], by simp [World.cell?, h], by simp [World.cell?, h], by simp [World.cell?, h], by simp [World.cell?, h], by simp [World.cell?, h]⟩, by simp [World.frozen?, h], by simp [World.frozen?, h], by simp [World.frozen?, h], by simp [World.frozen?, h], by simp [World.frozen?, h], by simp [World.frozen?, h]⟩
theorem blk_set {w : World} {p : Nat} {xs : Array Value} {t : TypeId} {fr : Nat × Nat} (h : w.heap[p]? = some (.cells xs t fr)) (i : Nat) (u : Value) (hi : i < xs.size) : (w.setCell ⟨p, i, none⟩ u).heap[p]? = some (.cells (xs.set i u hi) t fr) := by
  simp only [World.setCell, Array.getElem?_modify, if_true]; rw [h]
  simp [Array.setIfInBounds, hi]

/-- Behind a change of the store's own cells alone. -/
def Own (w w' : World) (p : Nat) (s' : S) (mb : Option Nat) : Prop := w'.heap[p]? = some (blk s' mb) ∧ w.grownBy w' (some p) ∧ w'.heap.size = w.heap.size
def armS (s : S) (n : Int) : S := { s with a := decide (0 ≤ n), n := n }
def useN (s : S) (n : Int) : Int := if s.a = true ∧ s.n < n then s.n else n
def useS (s : S) (n : Int) : S := if s.a = true then (if s.n < n then { s with n := 0, d := true } else { s with n := s.n - n }) else s
def dwn (s : S) : Int := if s.d = true then 14 else 0

set_option maxRecDepth 100000 in
theorem arm_any (w : World) (p : Nat) (s : S) (mb : Option Nat) (n : Int) (h : w.heap[p]? = some (blk s mb)) :
    Calls Try.prog 76 #[.pointer (some ⟨p, 0, none⟩), .int .i64 n] w fun e w' => e = .returned (.tuple #[]) ∧ Own w w' p (armS s n) mb := by
  obtain ⟨⟨c0, c1, c2, c3, c4, c5⟩, f0, f1, f2, f3, f4, f5⟩ := blk_cells h
  have HW := Lib.hid h
  clear h
  go_enter Try.func76, Try.ntmps76
  go_wp2
  go_end0
  refine ⟨rfl, ?_, ?_, ?_⟩
  · have h1 := blk_set HW.out 0 (.bool (decide (0 ≤ n))) (by simp)
    have h2 := blk_set h1 1 (.int .i64 n) (by simp)
    exact h2
  · exact grownBy_trans (grownBy_set _ _ _) (grownBy_set _ _ _)
  · simp [World.setCell]

set_option maxRecDepth 100000 in
theorem state_any (w : World) (p : Nat) (s : S) (mb : Option Nat) (h : w.heap[p]? = some (blk s mb)) :
    Calls Try.prog 63 #[.pointer (some ⟨p, 0, none⟩)] w fun e w' => e = .returned (.int .i64 (dwn s)) ∧ w = w' := by
  obtain ⟨⟨c0, c1, c2, c3, c4, c5⟩, _⟩ := blk_cells h
  obtain ⟨x, hx⟩ : ∃ x, x = s.d := ⟨_, rfl⟩
  rw [← hx] at c2
  unfold dwn
  rw [← hx]
  clear h hx c0 c1 c3 c4 c5
  cases x
  · go_enter Try.func63, Try.ntmps63
    go_wp2
    go_ret
    exact ⟨rfl, rfl⟩
  · go_enter Try.func63, Try.ntmps63
    go_wp2
    go_ret
    exact ⟨rfl, rfl⟩

set_option maxRecDepth 100000 in
set_option maxHeartbeats 1000000 in
theorem use_any (w : World) (p : Nat) (s : S) (mb : Option Nat) (n : Int) (h : w.heap[p]? = some (blk s mb)) (hn : 0 ≤ n ∧ n ≤ 4000000) (hs : s.a = true → 0 ≤ s.n ∧ s.n ≤ 9223372036854775807) :
    Calls Try.prog 61 #[.pointer (some ⟨p, 0, none⟩), .int .i64 n] w fun e w' => e = .returned (.int .i64 (useN s n)) ∧ Own w w' p (useS s n) mb := by
  obtain ⟨⟨c0, c1, c2, c3, c4, c5⟩, f0, f1, f2, f3, f4, f5⟩ := blk_cells h
  have HW := Lib.hid h
  obtain ⟨n0, n1⟩ := hn
  clear h
  cases ha : s.a with
  | false =>
    have hu : useN s n = n ∧ useS s n = s := by unfold useN useS; rw [ha]; simp
    rw [hu.1, hu.2]
    rw [ha] at c0
    have HA := Lib.hid ha
    clear hs hu ha
    go_enter Try.func61, Try.ntmps61
    go_wp2
    go_ret
    exact ⟨rfl, HW.out, grownBy_refl _ _, rfl⟩
  | true =>
    obtain ⟨m0, m1⟩ := hs ha
    rw [ha] at c0
    by_cases hlt : s.n < n
    · have hu : useN s n = s.n ∧ useS s n = { s with n := 0, d := true } := by unfold useN useS; rw [ha]; simp [hlt]
      rw [hu.1, hu.2]
      clear hs hu
      have HA := Lib.hid ha
      clear ha
      obtain ⟨m, hm⟩ : ∃ m, m = s.n := ⟨_, rfl⟩
      rw [← hm] at c1 m0 m1 hlt ⊢
      have HM := Lib.hid hm
      clear hm
      go_enter Try.func61, Try.ntmps61
      go_wp2
      go_ret
      refine ⟨rfl, ?_, ?_, ?_⟩
      · have h1 := blk_set HW.out 2 (.bool true) (by simp)
        have h2 := blk_set h1 1 (.int .i64 (m - m)) (by simp)
        have : m - m = 0 := by omega
        rw [this] at h2
        simpa [this, blk] using h2
      · exact grownBy_trans (grownBy_set _ _ _) (grownBy_set _ _ _)
      · simp [World.setCell]
    · have hu : useN s n = n ∧ useS s n = { s with n := s.n - n } := by unfold useN useS; rw [ha]; simp [hlt]
      rw [hu.1, hu.2]
      clear hs hu
      have HA := Lib.hid ha
      clear ha
      obtain ⟨m, hm⟩ : ∃ m, m = s.n := ⟨_, rfl⟩
      rw [← hm] at c1 m0 m1 hlt ⊢
      have HM := Lib.hid hm
      clear hm
      go_enter Try.func61, Try.ntmps61
      go_wp2
      go_ret
      refine ⟨rfl, ?_, ?_, ?_⟩
      · have h1 := blk_set HW.out 1 (.int .i64 (m - n)) (by simp)
        exact h1
      · exact grownBy_set _ _ _
      · simp [World.setCell]

set_option maxRecDepth 100000 in
theorem orDown_own (w : World) (p : Nat) : Calls Try.prog 75 #[.pointer (some ⟨p, 0, none⟩)] w fun e w' => e = .returned (.pointer (some ⟨p, 0, none⟩)) ∧ w = w' := by
  go_enter Try.func75, Try.ntmps75
  go_wp2
  go_ret
  exact ⟨rfl, rfl⟩
def nilS : S := ⟨false, 0, true, 0, 0⟩
set_option maxRecDepth 100000 in
theorem orDown_nil (w : World) : Calls Try.prog 75 #[.pointer none] w fun e w' => e = .returned (.pointer (some ⟨w.heap.size, 0, none⟩)) ∧ w' = w.alloc (blk nilS none) := by
  go_enter Try.func75, Try.ntmps75
  go_wp2
  go_ret
  exact ⟨rfl, rfl⟩
set_option maxRecDepth 100000 in
theorem down_own (w : World) (p : Nat) (s : S) (mb : Option Nat) (h : w.heap[p]? = some (blk s mb)) :
    Calls Try.prog 33 #[.pointer (some ⟨p, 0, none⟩)] w fun e w' => e = .returned (.bool s.d) ∧ w = w' := by
  have HO := Lib.hid (orDown_own w p)
  have hs := state_any w p s mb h
  unfold dwn at hs
  obtain ⟨x, hx⟩ : ∃ x, x = s.d := ⟨_, rfl⟩
  rw [← hx] at hs ⊢
  clear h hx
  cases x
  · rw [if_neg (by decide)] at hs
    have HS := Lib.hid hs
    clear hs
    go_enter Try.func33, Try.ntmps33
    go_wp2_with (first
      | (go_at_call 75; (with_reducible refine HO.out.mono ?_); rintro e w' ⟨rfl, rfl⟩)
      | (go_at_call 63; (with_reducible refine HS.out.mono ?_); rintro e w' ⟨rfl, rfl⟩))
    go_ret
    exact ⟨rfl, rfl⟩
  · rw [if_pos rfl] at hs
    have HS := Lib.hid hs
    clear hs
    go_enter Try.func33, Try.ntmps33
    go_wp2_with (first
      | (go_at_call 75; (with_reducible refine HO.out.mono ?_); rintro e w' ⟨rfl, rfl⟩)
      | (go_at_call 63; (with_reducible refine HS.out.mono ?_); rintro e w' ⟨rfl, rfl⟩))
    go_ret
    exact ⟨rfl, rfl⟩
set_option maxRecDepth 100000 in
theorem room_own (w : World) (p : Nat) (s : S) (mb : Option Nat) (h : w.heap[p]? = some (blk s mb)) :
    Calls Try.prog 30 #[.pointer (some ⟨p, 0, none⟩)] w fun e w' => e = .returned (.int .i64 s.room) ∧ w = w' := by
  have HO := Lib.hid (orDown_own w p)
  obtain ⟨⟨_, _, _, c3, _, _⟩, _⟩ := blk_cells h
  clear h
  go_enter Try.func30, Try.ntmps30
  go_wp2_with (go_at_call 75; (with_reducible refine HO.out.mono ?_); rintro e w' ⟨rfl, rfl⟩)
  go_ret
  exact ⟨rfl, rfl⟩
set_option maxRecDepth 100000 in
theorem used_own (w : World) (p : Nat) (s : S) (mb : Option Nat) (h : w.heap[p]? = some (blk s mb)) :
    Calls Try.prog 34 #[.pointer (some ⟨p, 0, none⟩)] w fun e w' => e = .returned (.int .i64 s.used) ∧ w = w' := by
  have HO := Lib.hid (orDown_own w p)
  obtain ⟨⟨_, _, _, _, c4, _⟩, _⟩ := blk_cells h
  clear h
  go_enter Try.func34, Try.ntmps34
  go_wp2_with (go_at_call 75; (with_reducible refine HO.out.mono ?_); rintro e w' ⟨rfl, rfl⟩)
  go_ret
  exact ⟨rfl, rfl⟩
set_option maxRecDepth 100000 in
theorem Arm_own (w : World) (p : Nat) (s : S) (mb : Option Nat) (n : Int) (h : w.heap[p]? = some (blk s mb)) :
    Calls Try.prog 25 #[.pointer (some ⟨p, 0, none⟩), .int .i64 n] w fun e w' => e = .returned (.tuple #[]) ∧ Own w w' p (armS s n) mb := by
  have HO := Lib.hid (orDown_own w p)
  have HA := Lib.hid (arm_any w p s mb n h)
  clear h
  go_enter Try.func25, Try.ntmps25
  go_wp2_with (first
      | (go_at_call 75; (with_reducible refine HO.out.mono ?_); rintro e w' ⟨rfl, rfl⟩)
      | (go_at_call 76; (with_reducible refine HA.out.mono ?_); rintro e w' ⟨rfl, h1⟩; have H1 := Lib.hid h1; clear h1))
  go_end0
  exact ⟨rfl, H1.out⟩
set_option maxRecDepth 100000 in
theorem Revive_own (w : World) (p : Nat) (s : S) (mb : Option Nat) (h : w.heap[p]? = some (blk s mb)) :
    Calls Try.prog 26 #[.pointer (some ⟨p, 0, none⟩)] w fun e w' => e = .returned (.tuple #[]) ∧ Own w w' p { s with a := false, n := 0, d := false } mb := by
  have HO := Lib.hid (orDown_own w p)
  obtain ⟨⟨c0, c1, c2, c3, c4, c5⟩, f0, f1, f2, f3, f4, f5⟩ := blk_cells h
  have HW := Lib.hid h
  clear h
  go_enter Try.func26, Try.ntmps26
  go_wp2_with (go_at_call 75; (with_reducible refine HO.out.mono ?_); rintro e w' ⟨rfl, rfl⟩)
  go_end0
  refine ⟨rfl, ?_, ?_, ?_⟩
  · have h1 := blk_set HW.out 0 (.bool false) (by simp)
    have h2 := blk_set h1 1 (.int .i64 0) (by simp)
    have h3 := blk_set h2 2 (.bool false) (by simp)
    exact h3
  · exact grownBy_trans (grownBy_trans (grownBy_set _ _ _) (grownBy_set _ _ _)) (grownBy_set _ _ _)
  · simp [World.setCell]
end Go.Proofs.Ytklngdmpledgeaa.Sr
