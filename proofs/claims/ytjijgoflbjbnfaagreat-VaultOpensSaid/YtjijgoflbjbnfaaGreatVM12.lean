/-
  A store in memory; the contracts of arm, use, state, orDown, Down, Room, Used, Arm, Revive. Conditions: none.
-/
import Derived.Test.YtjijgoflbjbnfaaGreatVM11
import Derived.BigQuiet
import Derived.Below
import Derived.StillTail
import Derived.Test.YtjijgoflbjbnfaaGreatShelf
import Derived.Deep.RegionHeld3
namespace Go.Proofs.YtjijgoflbjbnfaaGreat.Sr
open Go.RowKit Fr

/-- The store's own cells: armed, left, down, room, used. -/
structure S where
  a : Bool
  n : Int
  d : Bool
  room : Int
  used : Int
def blk (s : S) (mb : Option Nat) : Obj := .cells #[.bool s.a, .int .i64 s.n, .bool s.d, .int .i64 s.room, .int .i64 s.used, .map mb] 58 (0, 0)

theorem blk_cells {w : World} {p : Nat} {s : S} {mb : Option Nat} (h : w.heap[p]? = some (blk s mb)) :
    (w.cell? ⟨p, 0, none⟩ = some (.bool s.a) ∧ w.cell? ⟨p, 1, none⟩ = some (.int .i64 s.n) ∧ w.cell? ⟨p, 2, none⟩ = some (.bool s.d) ∧ w.cell? ⟨p, 3, none⟩ = some (.int .i64 s.room) ∧ w.cell? ⟨p, 4, none⟩ = some (.int .i64 s.used) ∧ w.cell? ⟨p, 5, none⟩ = some (.map mb)) ∧
    w.frozen? ⟨p, 0, none⟩ = false ∧ w.frozen? ⟨p, 1, none⟩ = false ∧ w.frozen? ⟨p, 2, none⟩ = false ∧ w.frozen? ⟨p, 3, none⟩ = false ∧ w.frozen? ⟨p, 4, none⟩ = false ∧ w.frozen? ⟨p, 5, none⟩ = false := by
  unfold blk at h
  exact ⟨⟨by simp [World.cell?, h], by simp [World.cell?, h], by simp [World.cell?, h], by simp [World.cell?, h], by simp [World.cell?, h], by simp [World.cell?, h]⟩, by simp [World.frozen?, h], by simp [World.frozen?, h], by simp [World.frozen?, h], by simp [World.frozen?, h], by simp [World.frozen?, h], by simp [World.frozen?, h]⟩
theorem blk_set {w : World} {p : Nat} {xs : Array Value} {t : TypeId} {fr : Nat × Nat} (h : w.heap[p]? = some (.cells xs t fr)) (i : Nat) (u : Value) (hi : i < xs.size) : (w.setCell ⟨p, i, none⟩ u).heap[p]? = some (.cells (xs.set i u hi) t fr) := by
  simp only [World.setCell, Array.getElem?_modify, if_true]; rw [h]
  simp [Array.setIfInBounds, hi]

/-- Behind a change of the store's own cells alone. -/
def Own (w w' : World) (p : Nat) (s' : S) (mb : Option Nat) : Prop := w'.heap[p]? = some (blk s' mb) ∧ w.grownBy w' (some p) ∧ w'.heap.size = w.heap.size
def armS (s : S) (n : Int) : S := { s with a := decide (0 ≤ n), n := n }
def useN (s : S) (n : Int) : Int := if s.a = true ∧ s.n < n then s.n else n
def useS (s : S) (n : Int) : S := if s.a = true then (if s.n < n then { s with n := 0, d := true } else { s with n := s.n - n }) else s
def dwn (s : S) : Int := if s.d = true then 14 else 0

set_option maxRecDepth 100000 in
theorem arm_any (w : World) (p : Nat) (s : S) (mb : Option Nat) (n : Int) (h : w.heap[p]? = some (blk s mb)) :
    Calls Tryz.prog 36 #[.pointer (some ⟨p, 0, none⟩), .int .i64 n] w fun e w' => e = .returned (.tuple #[]) ∧ Own w w' p (armS s n) mb := by
  obtain ⟨⟨c0, c1, c2, c3, c4, c5⟩, f0, f1, f2, f3, f4, f5⟩ := blk_cells h
  have HW := Lib.hid h
  clear h
  go_enter Tryz.func36, Tryz.ntmps36
  go_wp2
  go_end0
  refine ⟨rfl, ?_, ?_, ?_⟩
  · have h1 := blk_set HW.out 0 (.bool (decide (0 ≤ n))) (by simp)
    have h2 := blk_set h1 1 (.int .i64 n) (by simp)
    exact h2
  · exact grownBy_trans (grownBy_set _ _ _) (grownBy_set _ _ _)
  · simp [World.setCell]

set_option maxRecDepth 100000 in
theorem state_any (w : World) (p : Nat) (s : S) (mb : Option Nat) (h : w.heap[p]? = some (blk s mb)) :
    Calls Tryz.prog 45 #[.pointer (some ⟨p, 0, none⟩)] w fun e w' => e = .returned (.int .i64 (dwn s)) ∧ w = w' := by
  obtain ⟨⟨c0, c1, c2, c3, c4, c5⟩, _⟩ := blk_cells h
  obtain ⟨x, hx⟩ : ∃ x, x = s.d := ⟨_, rfl⟩
  rw [← hx] at c2
  unfold dwn
  rw [← hx]
  clear h hx c0 c1 c3 c4 c5
  cases x
  · go_enter Tryz.func45, Tryz.ntmps45
    go_wp2
    go_ret
    exact ⟨rfl, rfl⟩
  · go_enter Tryz.func45, Tryz.ntmps45
    go_wp2
    go_ret
    exact ⟨rfl, rfl⟩

set_option maxRecDepth 100000 in
set_option maxHeartbeats 1000000 in
theorem use_any (w : World) (p : Nat) (s : S) (mb : Option Nat) (n : Int) (h : w.heap[p]? = some (blk s mb)) (hn : 0 ≤ n ∧ n ≤ 4000000) (hs : s.a = true → 0 ≤ s.n ∧ s.n ≤ 9223372036854775807) :
    Calls Tryz.prog 43 #[.pointer (some ⟨p, 0, none⟩), .int .i64 n] w fun e w' => e = .returned (.int .i64 (useN s n)) ∧ Own w w' p (useS s n) mb := by
  obtain ⟨⟨c0, c1, c2, c3, c4, c5⟩, f0, f1, f2, f3, f4, f5⟩ := blk_cells h
  have HW := Lib.hid h
  obtain ⟨n0, n1⟩ := hn
  clear h
  cases ha : s.a with
  | false =>
    have hu : useN s n = n ∧ useS s n = s := by unfold useN useS; rw [ha]; simp
    rw [hu.1, hu.2]
    rw [ha] at c0
    have HA := Lib.hid ha
    clear hs hu ha
    go_enter Tryz.func43, Tryz.ntmps43
    go_wp2
    go_ret
    exact ⟨rfl, HW.out, grownBy_refl _ _, rfl⟩
  | true =>
    obtain ⟨m0, m1⟩ := hs ha
    rw [ha] at c0
    by_cases hlt : s.n < n
    · have hu : useN s n = s.n ∧ useS s n = { s with n := 0, d := true } := by unfold useN useS; rw [ha]; simp [hlt]
      rw [hu.1, hu.2]
      clear hs hu
      have HA := Lib.hid ha
      clear ha
      obtain ⟨m, hm⟩ : ∃ m, m = s.n := ⟨_, rfl⟩
      rw [← hm] at c1 m0 m1 hlt ⊢
      have HM := Lib.hid hm
      clear hm
      go_enter Tryz.func43, Tryz.ntmps43
      go_wp2
      go_ret
      refine ⟨rfl, ?_, ?_, ?_⟩
      · have h1 := blk_set HW.out 2 (.bool true) (by simp)
        have h2 := blk_set h1 1 (.int .i64 (m - m)) (by simp)
        have : m - m = 0 := by omega
        rw [this] at h2
        simpa [this, blk] using h2
      · exact grownBy_trans (grownBy_set _ _ _) (grownBy_set _ _ _)
      · simp [World.setCell]
    · have hu : useN s n = n ∧ useS s n = { s with n := s.n - n } := by unfold useN useS; rw [ha]; simp [hlt]
      rw [hu.1, hu.2]
      clear hs hu
      have HA := Lib.hid ha
      clear ha
      obtain ⟨m, hm⟩ : ∃ m, m = s.n := ⟨_, rfl⟩
      rw [← hm] at c1 m0 m1 hlt ⊢
      have HM := Lib.hid hm
      clear hm
      go_enter Tryz.func43, Tryz.ntmps43
      go_wp2
      go_ret
      refine ⟨rfl, ?_, ?_, ?_⟩
      · have h1 := blk_set HW.out 1 (.int .i64 (m - n)) (by simp)
        exact h1
      · exact grownBy_set _ _ _
      · simp [World.setCell]

set_option maxRecDepth 100000 in
theorem orDown_own (w : World) (p : Nat) : Calls Tryz.prog 35 #[.pointer (some ⟨p, 0, none⟩)] w fun e w' => e = .returned (.pointer (some ⟨p, 0, none⟩)) ∧ w = w' := by
  go_enter Tryz.func35, Tryz.ntmps35
  go_wp2
  go_ret
  exact ⟨rfl, rfl⟩
def nilS : S := ⟨false, 0, true, 0, 0⟩
set_option maxRecDepth 100000 in
theorem orDown_nil (w : World) : Calls Tryz.prog 35 #[.pointer none] w fun e w' => e = .returned (.pointer (some ⟨w.heap.size, 0, none⟩)) ∧ w' = w.alloc (blk nilS none) := by
  go_enter Tryz.func35, Tryz.ntmps35
  go_wp2
  go_ret
  exact ⟨rfl, rfl⟩
set_option maxRecDepth 100000 in
theorem down_own (w : World) (p : Nat) (s : S) (mb : Option Nat) (h : w.heap[p]? = some (blk s mb)) :
    Calls Tryz.prog 48 #[.pointer (some ⟨p, 0, none⟩)] w fun e w' => e = .returned (.bool s.d) ∧ w = w' := by
  have HO := Lib.hid (orDown_own w p)
  have hs := state_any w p s mb h
  unfold dwn at hs
  obtain ⟨x, hx⟩ : ∃ x, x = s.d := ⟨_, rfl⟩
  rw [← hx] at hs ⊢
  clear h hx
  cases x
  · rw [if_neg (by decide)] at hs
    have HS := Lib.hid hs
    clear hs
    go_enter Tryz.func48, Tryz.ntmps48
    go_wp2_with (first
      | (go_at_call 35; (with_reducible refine HO.out.mono ?_); rintro e w' ⟨rfl, rfl⟩)
      | (go_at_call 45; (with_reducible refine HS.out.mono ?_); rintro e w' ⟨rfl, rfl⟩))
    go_ret
    exact ⟨rfl, rfl⟩
  · rw [if_pos rfl] at hs
    have HS := Lib.hid hs
    clear hs
    go_enter Tryz.func48, Tryz.ntmps48
    go_wp2_with (first
      | (go_at_call 35; (with_reducible refine HO.out.mono ?_); rintro e w' ⟨rfl, rfl⟩)
      | (go_at_call 45; (with_reducible refine HS.out.mono ?_); rintro e w' ⟨rfl, rfl⟩))
    go_ret
    exact ⟨rfl, rfl⟩
set_option maxRecDepth 100000 in
theorem room_own (w : World) (p : Nat) (s : S) (mb : Option Nat) (h : w.heap[p]? = some (blk s mb)) :
    Calls Tryz.prog 32 #[.pointer (some ⟨p, 0, none⟩)] w fun e w' => e = .returned (.int .i64 s.room) ∧ w = w' := by
  have HO := Lib.hid (orDown_own w p)
  obtain ⟨⟨_, _, _, c3, _, _⟩, _⟩ := blk_cells h
  clear h
  go_enter Tryz.func32, Tryz.ntmps32
  go_wp2_with (go_at_call 35; (with_reducible refine HO.out.mono ?_); rintro e w' ⟨rfl, rfl⟩)
  go_ret
  exact ⟨rfl, rfl⟩
set_option maxRecDepth 100000 in
theorem used_own (w : World) (p : Nat) (s : S) (mb : Option Nat) (h : w.heap[p]? = some (blk s mb)) :
    Calls Tryz.prog 21 #[.pointer (some ⟨p, 0, none⟩)] w fun e w' => e = .returned (.int .i64 s.used) ∧ w = w' := by
  have HO := Lib.hid (orDown_own w p)
  obtain ⟨⟨_, _, _, _, c4, _⟩, _⟩ := blk_cells h
  clear h
  go_enter Tryz.func21, Tryz.ntmps21
  go_wp2_with (go_at_call 35; (with_reducible refine HO.out.mono ?_); rintro e w' ⟨rfl, rfl⟩)
  go_ret
  exact ⟨rfl, rfl⟩
set_option maxRecDepth 100000 in
theorem Arm_own (w : World) (p : Nat) (s : S) (mb : Option Nat) (n : Int) (h : w.heap[p]? = some (blk s mb)) :
    Calls Tryz.prog 13 #[.pointer (some ⟨p, 0, none⟩), .int .i64 n] w fun e w' => e = .returned (.tuple #[]) ∧ Own w w' p (armS s n) mb := by
  have HO := Lib.hid (orDown_own w p)
  have HA := Lib.hid (arm_any w p s mb n h)
  clear h
  go_enter Tryz.func13, Tryz.ntmps13
  go_wp2_with (first
      | (go_at_call 35; (with_reducible refine HO.out.mono ?_); rintro e w' ⟨rfl, rfl⟩)
      | (go_at_call 36; (with_reducible refine HA.out.mono ?_); rintro e w' ⟨rfl, h1⟩; have H1 := Lib.hid h1; clear h1))
  go_end0
  exact ⟨rfl, H1.out⟩
set_option maxRecDepth 100000 in
theorem Revive_own (w : World) (p : Nat) (s : S) (mb : Option Nat) (h : w.heap[p]? = some (blk s mb)) :
    Calls Tryz.prog 14 #[.pointer (some ⟨p, 0, none⟩)] w fun e w' => e = .returned (.tuple #[]) ∧ Own w w' p { s with a := false, n := 0, d := false } mb := by
  have HO := Lib.hid (orDown_own w p)
  obtain ⟨⟨c0, c1, c2, c3, c4, c5⟩, f0, f1, f2, f3, f4, f5⟩ := blk_cells h
  have HW := Lib.hid h
  clear h
  go_enter Tryz.func14, Tryz.ntmps14
  go_wp2_with (go_at_call 35; (with_reducible refine HO.out.mono ?_); rintro e w' ⟨rfl, rfl⟩)
  go_end0
  refine ⟨rfl, ?_, ?_, ?_⟩
  · have h1 := blk_set HW.out 0 (.bool false) (by simp)
    have h2 := blk_set h1 1 (.int .i64 0) (by simp)
    have h3 := blk_set h2 2 (.bool false) (by simp)
    exact h3
  · exact grownBy_trans (grownBy_trans (grownBy_set _ _ _) (grownBy_set _ _ _)) (grownBy_set _ _ _)
  · simp [World.setCell]
end Go.Proofs.YtjijgoflbjbnfaaGreat.Sr

namespace Go.Proofs.YtjijgoflbjbnfaaGreat.Sr
open Go.RowKit Fr

set_option maxRecDepth 100000 in
theorem new_ok (w : World) (n : Int) (h0 : 0 ≤ n) (h1 : n ≤ 1048576) :
    Calls Tryz.prog 8 #[.int .i64 n] w fun e w' => e = .returned (.tuple #[.pointer (some ⟨w.heap.size, 0, none⟩), .int .i64 0]) ∧ w' = w.alloc (blk ⟨false, 0, false, n, 0⟩ none) := by
  have a1 : ¬ n < 0 := by omega
  have a2 : ¬ 1048576 < n := by omega
  go_enter Tryz.func8, Tryz.ntmps8
  go_wp2
  go_ret2
  exact ⟨rfl, rfl⟩
set_option maxRecDepth 100000 in
theorem new_bad (w : World) (n : Int) (h : n < 0 ∨ 1048576 < n) :
    Calls Tryz.prog 8 #[.int .i64 n] w fun e w' => e = .returned (.tuple #[.pointer none, .int .i64 1]) ∧ w = w' := by
  rcases h with h | h
  · go_enter Tryz.func8, Tryz.ntmps8
    go_wp2
    go_ret2
    exact ⟨rfl, rfl⟩
  · have a1 : ¬ n < 0 := by omega
    go_enter Tryz.func8, Tryz.ntmps8
    go_wp2
    go_ret2
    exact ⟨rfl, rfl⟩

def okC (c : Int) : Bool := c == 46 || (decide (97 ≤ c) && decide (c ≤ 122))
def okN (s : ByteArray) : Bool := decide (0 < s.size) && decide (s.size ≤ 12) && (sb s).all okC
theorem okC_of {c : Int} : okC c = true ↔ (c = 46 ∨ (97 ≤ c ∧ c ≤ 122)) := by unfold okC; simp
theorem all_snoc {l : List Int} {k : Nat} (h : ∀ i, i < k → okC (l.getD i 0) = true) (h2 : okC (l.getD k 0) = true) : ∀ i, i < k + 1 → okC (l.getD i 0) = true := fun i hi => by
  by_cases e : i = k
  · rw [e]; exact h2
  · exact h i (by omega)
theorem all_of {l : List Int} (h : ∀ i, i < l.length → okC (l.getD i 0) = true) : l.all okC = true := by
  rw [List.all_eq_true]
  intro x hx
  obtain ⟨i, hi, rfl⟩ := List.mem_iff_getElem.1 hx
  have := h i hi
  rwa [show l.getD i 0 = l[i] by simp [List.getD, List.getElem?_eq_getElem hi]] at this
theorem all_not {l : List Int} {k : Nat} (hk : k < l.length) (h : okC (l.getD k 0) = false) : l.all okC = false := by
  cases ha : l.all okC with
  | false => rfl
  | true =>
    rw [List.all_eq_true] at ha
    have := ha (l[k]) (List.getElem_mem hk)
    rw [show l.getD k 0 = l[k] by simp [List.getD, List.getElem?_eq_getElem hk], this] at h
    cases h

set_option maxRecDepth 100000 in
set_option maxHeartbeats 2000000 in
theorem isName_any (w : World) (s : ByteArray) :
    Calls Tryz.prog 68 #[.string s] w fun e w' => e = .returned (.bool (okN s)) ∧ Below w.heap.size w w' := by
  by_cases hz : s.size = 0
  · have he := empty_yes hz
    have hr : okN s = false := by unfold okN; rw [hz]; rfl
    rw [hr]
    clear hr hz
    go_enter Tryz.func68, Tryz.ntmps68
    go_wp2
    go_ret
    exact ⟨rfl, Below.refl _ _⟩
  · have he := empty_no (s := s) (by omega)
    by_cases h12 : s.size ≤ 12
    · have h12a : ¬ (12 : Int) < (s.size : Int) := by omega
      obtain ⟨cv, cw, hcv, hcp⟩ := str_bytes s
      have HCP := Lib.hid (hcp w)
      have HZ := Lib.hid hz
      have hsz : Hid (okN s = (sb s).all okC) := by
        show _ = _
        unfold okN
        rw [show decide (0 < s.size) = true by simp; omega, show decide (s.size ≤ 12) = true by simp; omega]; rfl
      clear hcp hz
      go_enter Tryz.func68, Tryz.ntmps68
      go_wp2
      obtain ⟨W0, hW0⟩ : ∃ W0, W0 = cw w := ⟨_, rfl⟩
      rw [← hW0] at HCP ⊢
      clear hW0 hcv
      go_loopg [15] s.size (fun (g : Nat) si wx => W0 = wx ∧ ∃ k : Nat, g = s.size - k ∧ k ≤ s.size ∧ si = .int .i64 (k : Int) ∧ Hid (∀ i, i < k → okC ((sb s).getD i 0) = true))
      case atStart => exact ⟨rfl, 0, rfl, Nat.zero_le _, rfl, fun i hi => by omega⟩
      case round =>
        obtain ⟨rfl, k, rfl, hk, rfl, hall⟩ := hrel
        by_cases hlt : k < s.size
        · obtain ⟨d, hd⟩ : ∃ d, d = (sb s).getD k 0 := ⟨_, rfl⟩
          have hc := HCP.out.2.2 k hlt
          have hr := sb_range s k
          rw [← hd] at hc hr
          obtain ⟨r0, r1⟩ := hr
          have HD := Lib.hid hd
          clear hd
          by_cases g0 : d = 46
          · have HO : Hid (okC ((sb s).getD k 0) = true) := by show _ = _; rw [← HD.out, okC_of]; exact .inl g0
            have g1 : (d != 46) = false := by simp [g0]
            clear g0
            go_wp2
            go_roundg (s.size - (k + 1))
            case measure => omega
            case rel => exact ⟨rfl, k + 1, rfl, by omega, by go_num, all_snoc hall.out HO.out⟩
          · have g1 : (d != 46) = true := by simpa using g0
            by_cases g2 : d < 97
            · have HO : Hid (okN s = false) := by
                show _ = _
                rw [hsz.out]; refine all_not (k := k) (by rw [sb_len]; exact hlt) ?_
                rw [← HD.out]
                cases hq : okC d with
                | false => rfl
                | true => rcases okC_of.1 hq with h | h <;> omega
              go_wp2
              go_ret
              exact ⟨by rw [HO.out]; rfl, HCP.out.1⟩
            · by_cases g3 : 122 < d
              · have HO : Hid (okN s = false) := by
                  show _ = _
                  rw [hsz.out]; refine all_not (k := k) (by rw [sb_len]; exact hlt) ?_
                  rw [← HD.out]
                  cases hq : okC d with
                  | false => rfl
                  | true => rcases okC_of.1 hq with h | h <;> omega
                go_wp2
                go_ret
                exact ⟨by rw [HO.out]; rfl, HCP.out.1⟩
              · have HO : Hid (okC ((sb s).getD k 0) = true) := by show _ = _; rw [← HD.out, okC_of]; exact .inr ⟨by omega, by omega⟩
                go_wp2
                go_roundg (s.size - (k + 1))
                case measure => omega
                case rel => exact ⟨rfl, k + 1, rfl, by omega, by go_num, all_snoc hall.out HO.out⟩
        · obtain rfl : k = s.size := by omega
          have HR : Hid (okN s = true) := by
            show _ = _
            rw [hsz.out]; exact all_of (by rw [sb_len]; exact hall.out)
          have hx : decide ((s.size : Int) < (s.size : Int)) = false := by simp
          go_wp2
          go_ret
          exact ⟨by rw [HR.out]; rfl, HCP.out.1⟩
    · have hr : okN s = false := by unfold okN; simp [h12]
      rw [hr]
      have h12b : (12 : Int) < (s.size : Int) := by omega
      clear hr hz h12
      go_enter Tryz.func68, Tryz.ntmps68
      go_wp2
      go_ret
      exact ⟨rfl, Below.refl _ _⟩

/-- A row of strings. -/
def NRow (w : World) (g : Nat) (ns : List ByteArray) : Prop := g < w.heap.size ∧ ∀ j, j < ns.length → w.cell? ⟨g, j, none⟩ = some (.string (ns.getD j ByteArray.empty))
theorem NRow.kept {w w' : World} {g : Nat} {ns : List ByteArray} (h : NRow w g ns) (hb : Below w.heap.size w w') : NRow w' g ns :=
  ⟨Nat.lt_of_lt_of_le h.1 hb.size, fun j hj => (hb.cell (p := ⟨g, j, none⟩) h.1).trans (h.2 j hj)⟩
def rdy (d : Bool) (ns : List ByteArray) : Int := if d = true then 14 else if ns.all okN = true then 0 else 3

set_option maxRecDepth 100000 in
set_option maxHeartbeats 2000000 in
theorem ready_any (w : World) (p : Nat) (s : S) (mb : Option Nat) (g cap : Nat) (ns : List ByteArray) (h : w.heap[p]? = some (blk s mb)) (hn : NRow w g ns) (hl : ns.length ≤ 100) :
    Calls Tryz.prog 42 #[.pointer (some ⟨p, 0, none⟩), .slice (some ⟨g, 0, none⟩) ns.length cap] w fun e w' => e = .returned (.int .i64 (rdy s.d ns)) ∧ Below w.heap.size w w' := by
  have hd := down_own w p s mb h
  obtain ⟨x, hx⟩ : ∃ x, x = s.d := ⟨_, rfl⟩
  rw [← hx] at hd ⊢
  have HD := Lib.hid hd
  have HN := Lib.hid hn
  obtain ⟨n, hn2⟩ : ∃ n, n = ns.length := ⟨_, rfl⟩
  rw [← hn2] at hl ⊢
  have HL := Lib.hid hn2
  have e0 : (0 : Int) ≤ (n : Int) := by omega
  obtain ⟨r, hr⟩ : ∃ r, r = rdy x ns := ⟨_, rfl⟩
  rw [← hr]
  clear hd hx h hn hn2
  cases x
  · have HRR : Hid (r = if ns.all okN = true then 0 else 3) := hr
    clear hr
    go_enter Tryz.func42, Tryz.ntmps42
    go_wp2_with (go_at_call 48; (with_reducible refine HD.out.mono ?_); rintro e w' ⟨rfl, rfl⟩)
    go_loopg [11] n (fun (gh : Nat) si wx => ∃ k : Nat, gh = n - k ∧ k ≤ n ∧ si = .int .i64 (k : Int) ∧ Hid (Below w.heap.size w wx) ∧ Hid (∀ i, i < k → okN (ns.getD i ByteArray.empty) = true))
    case atStart => exact ⟨0, rfl, Nat.zero_le _, rfl, Below.refl _ _, fun i hi => by omega⟩
    case round =>
      obtain ⟨k, rfl, hk, rfl, hb, hall⟩ := hrel
      by_cases hlt : k < n
      · obtain ⟨nm, hnm⟩ : ∃ nm, nm = ns.getD k ByteArray.empty := ⟨_, rfl⟩
        have hc : wr.cell? ⟨g, k, none⟩ = some (.string nm) := by
          rw [hnm]; exact (hb.out.cell (p := ⟨g, k, none⟩) HN.out.1).trans (HN.out.2 k (by rw [← HL.out]; exact hlt))
        have hi := fun W => isName_any W nm
        obtain ⟨q, hq⟩ : ∃ q, q = okN nm := ⟨_, rfl⟩
        rw [← hq] at hi
        have HI := Lib.hid hi
        have HQ : Hid (okN (ns.getD k ByteArray.empty) = q) := by show _ = _; rw [← hnm, hq]
        clear hi hq hnm
        cases q
        · have HR : Hid (ns.all okN = false) := by
            show _ = _
            cases ha : ns.all okN with
            | false => rfl
            | true =>
              rw [List.all_eq_true] at ha
              have hkl : k < ns.length := by rw [← HL.out]; exact hlt
              have := ha (ns[k]) (List.getElem_mem hkl)
              have h2 := HQ.out
              rw [show ns.getD k ByteArray.empty = ns[k] by simp [List.getD, List.getElem?_eq_getElem hkl], this] at h2
              cases h2
          go_wp2_with (go_at_call 68; (with_reducible refine (HI.out _).mono ?_); rintro e w2 ⟨rfl, hb2⟩; have HB2 := Lib.hid hb2; clear hb2)
          go_ret
          exact ⟨ret_int (by rw [HRR.out, HR.out]; rfl), hb.out.trans (HB2.out.mono hb.out.size)⟩
        · go_wp2_with (go_at_call 68; (with_reducible refine (HI.out _).mono ?_); rintro e w2 ⟨rfl, hb2⟩; have HB2 := Lib.hid hb2; clear hb2)
          go_roundg (n - (k + 1))
          case measure => omega
          case rel =>
            refine ⟨k + 1, rfl, by omega, by go_num, hb.out.trans (HB2.out.mono hb.out.size), fun i hi => ?_⟩
            by_cases e : i = k
            · rw [e]; exact HQ.out
            · exact hall.out i (by omega)
      · obtain rfl : k = n := by omega
        have HR : Hid (ns.all okN = true) := by
          show _ = _
          rw [List.all_eq_true]
          intro x hx
          obtain ⟨i, hi, rfl⟩ := List.mem_iff_getElem.1 hx
          have := hall.out i (by rw [HL.out]; exact hi)
          rwa [show ns.getD i ByteArray.empty = ns[i] by simp [List.getD, List.getElem?_eq_getElem hi]] at this
        have hx : decide ((k : Int) < (k : Int)) = false := by simp
        go_wp2
        go_ret
        exact ⟨ret_int (by rw [HRR.out, HR.out]; rfl), hb.out⟩
  · have HRR : Hid (r = 14) := hr
    clear hr
    go_enter Tryz.func42, Tryz.ntmps42
    go_wp2_with (go_at_call 48; (with_reducible refine HD.out.mono ?_); rintro e w' ⟨rfl, rfl⟩)
    go_ret
    exact ⟨ret_int HRR.out.symm, Below.refl _ _⟩
end Go.Proofs.YtjijgoflbjbnfaaGreat.Sr

namespace Go.Proofs.YtjijgoflbjbnfaaGreat
open Go Go.RowKit

/-- A world in which what lay in W lies as it lay. -/
structure InW (W : World) where
  val : World
  bel : Below W.heap.size W val
instance (W : World) : Inhabited (InW W) := ⟨⟨W, Below.refl _ _⟩⟩
theorem InW.cell {W : World} (p : InW W) {a : Addr} {v : Value} (h : W.cell? a = some v) : p.val.cell? a = some v := (p.bel.cell (World.block_lt_of_cell? _ _ h)).trans h
theorem wp_region_below {P : Program} {id : Nat} {Q : Exit → Act → World → Prop} {a : Act} {w W : World} {l : List Oper} (hm : P.follows .mixedOrders = true) (hB : Region.lexB .any l.toArray = true) (hb : Below W.heap.size W w)
    (h : wpQuiet P l.toArray (fun w' => ∃ p : InW W, w' = p.val) (fun a' => ∀ w', (∃ p : InW W, w' = p.val) → Q .normal a' w') l a) : (Code.region id l.toArray true).wp P Q a w :=
  wp_region_quiet (C := fun w' => ∃ p : InW W, w' = p.val) hm hB ⟨⟨w.drew, hb.drew⟩, rfl⟩ (by simpa using h)
theorem calls_in {P : Program} {W : World} {f : FuncId} {args : Array Value} {p : InW W} {v : Value} (h : Calls P f args p.val fun e w' => e = .returned v ∧ Below p.val.heap.size p.val w') :
    Calls P f args p.val fun e w'' => e = .returned v ∧ ∃ q : InW W, w'' = q.val :=
  h.mono fun _ _ ⟨he, hb⟩ => ⟨he, ⟨_, p.bel.trans (hb.mono p.bel.size)⟩, rfl⟩
end Go.Proofs.YtjijgoflbjbnfaaGreat

namespace Go.Proofs.YtjijgoflbjbnfaaGreat
open Go Go.RowKit

/-- Of the first n operations each one waits for earlier ones alone, and its guard is an earlier one's. -/
def backB (ops : Array Oper) (n : Nat) : Bool :=
  (List.range n).all fun i => match ops[i]? with
    | some o => (o.after.all fun e => decide (e.on < i)) && (match o.guard with | some (j, _) => decide (j < i) | none => true)
    | none => true
theorem backB_spec {ops : Array Oper} {n i : Nat} {o : Oper} (h : backB ops n = true) (hi : i < n) (ho : ops[i]? = some o) : (∀ e ∈ o.after, e.on < i) ∧ ∀ j b, o.guard = some (j, b) → j < i := by
  have h1 := List.all_eq_true.1 h i (List.mem_range.2 hi)
  simp only [ho, Bool.and_eq_true] at h1
  refine ⟨fun e he => ?_, fun j b hg => ?_⟩
  · have := Array.all_eq_true'.1 h1.1 e he
    simpa using this
  · have h2 := h1.2
    rw [hg] at h2
    simpa using h2

section
variable {P : Program} {ops oh : Array Oper} {C : World → Prop} {md : Region.Mode}

theorem wpAny_more {Q' : Exit → Act → World → Prop} : ∀ (f : Nat) (listed : Array Bool) (a : Act) (w : World), wpAny P md ops Q' f listed a w → wpAny P md ops Q' (f + 1) listed a w
  | 0, _, _, _, h => ⟨fun _ => h.2, fun i hi => by rw [h.1] at hi; cases hi⟩
  | f + 1, _, _, _, h => ⟨h.1, fun i hi => wpOp_mono (fun a' w' => wpAny_more f _ a' w') (h.2 i hi)⟩
theorem wpAny_add {Q' : Exit → Act → World → Prop} (f : Nat) {g : Nat} {listed : Array Bool} {a : Act} {w : World} (h : wpAny P md ops Q' g listed a w) : wpAny P md ops Q' (f + g) listed a w := by
  induction f with
  | zero => rw [Nat.zero_add]; exact h
  | succ f ih => rw [show f + 1 + g = f + g + 1 by omega]; exact wpAny_more _ _ _ _ ih
theorem yielded_head {n j : Nat} (hh : ∀ i, i < n → oh[i]? = ops[i]?) (hj : j < n) (tmps : Array Value) : yielded oh tmps j = yielded ops tmps j := by
  unfold yielded; rw [hh j hj]
theorem wanted_head {n i : Nat} {o : Oper} (hh : ∀ i, i < n → oh[i]? = ops[i]?) (hb : backB ops n = true) (hi : i < n) (ho : ops[i]? = some o) (tmps : Array Value) : Region.wanted o (yielded oh tmps) = Region.wanted o (yielded ops tmps) := by
  have h := (backB_spec hb hi ho).2
  unfold Region.wanted
  cases hg : o.guard with
  | none => rfl
  | some x =>
    obtain ⟨j, b⟩ := x
    have := h j b hg
    simp only [yielded_head hh (by omega : j < n)]

/-- The listing of the whole is that of the head, and nothing of the tail. -/
structure Both (md : Region.Mode) (ops : Array Oper) (n : Nat) (lh listed : Array Bool) : Prop where
  size : lh.size = n
  same : ∀ j, j < n → ∀ b, listed.getD j b = lh.getD j b
  inv : HeadInv md ops n listed
theorem ready_of_head {n i : Nat} {lh listed : Array Bool} (hh : ∀ i, i < n → oh[i]? = ops[i]?) (hb : backB ops n = true) (B : Both md ops n lh listed) (hi : i < n) : i ∈ Region.ready md oh lh ↔ i ∈ Region.ready md ops listed := by
  rw [mem_ready, mem_ready, hh i hi, B.same i hi]
  refine and_congr_right fun _ => ⟨fun ⟨o, ho, h⟩ => ⟨o, ho, fun e he hbe => ?_⟩, fun ⟨o, ho, h⟩ => ⟨o, ho, fun e he hbe => ?_⟩⟩
  · rw [B.same e.on (by have := (backB_spec hb hi ho).1 e he; omega)]; exact h e he hbe
  · rw [← B.same e.on (by have := (backB_spec hb hi ho).1 e he; omega)]; exact h e he hbe
/-- As long as one of the head is not listed, one of the head is ready. -/
theorem head_ready {n : Nat} {lh listed : Array Bool} (hh : ∀ i, i < n → oh[i]? = ops[i]?) (hn : n < ops.size) (hb : backB ops n = true) (B : Both md ops n lh listed) : ∀ i, i < n → lh.getD i true = false → ∃ j, j < n ∧ j ∈ Region.ready md oh lh := by
  intro i
  induction i using Nat.strongRecOn with
  | _ i ih =>
    intro hi hun
    by_cases h : ∃ j, j < i ∧ lh.getD j true = false
    · obtain ⟨j, hj, hju⟩ := h
      exact ih j hj (by omega) hju
    · refine ⟨i, hi, mem_ready.2 ⟨hun, ops[i]'(by omega), ?_, fun e he _ => ?_⟩⟩
      · rw [hh i hi]; exact Array.getElem?_eq_getElem (by omega)
      · have h1 := (backB_spec hb hi (Array.getElem?_eq_getElem (by omega))).1 e he
        cases h2 : lh.getD e.on false with
        | true => rfl
        | false => exact absurd ⟨e.on, h1, getD_in (by rw [B.size]; omega) h2⟩ h
theorem Both.set {n i : Nat} {lh listed : Array Bool} (B : Both md ops n lh listed) (hi : i < n) (hr : i ∈ Region.ready md ops listed) : Both md ops n (lh.setIfInBounds i true) (listed.setIfInBounds i true) := by
  refine ⟨by simp [B.size], fun j hj b => ?_, B.inv.set hr hi⟩
  by_cases hij : i = j
  · subst hij
    have h1 : i < lh.size := by rw [B.size]; exact hi
    have h2 : i < listed.size := by
      rw [B.inv.size]
      obtain ⟨_, o, ho, _⟩ := mem_ready.1 hr
      exact (Array.getElem?_eq_some_iff.1 ho).1
    simp [h1, h2]
  · rw [getD_set_ne b hij, getD_set_ne b hij]; exact B.same j hj b

theorem wpAny_of_qhead {n g : Nat} {Q : Act → World → Prop} {Q' : Exit → Act → World → Prop} (hh : ∀ i, i < n → oh[i]? = ops[i]?) (hsz : oh.size = n) (hn : n < ops.size) (hb : backB ops n = true) (hs : Region.sinkB md ops n = true) (hc : Region.chainB md ops n = true)
    (hQ : ∀ lh listed a w, C w → Both md ops n lh listed → (∀ i, i < n → lh.getD i true = true) → Q a w → wpAny P md ops Q' g listed a w) :
    ∀ (f : Nat) (lh listed : Array Bool) (a : Act) (w : World), C w → Both md ops n lh listed → wpAnyQ P md oh C (fun a' => ∀ w', C w' → Q a' w') f lh a → wpAny P md ops Q' (f + g) listed a w := by
  have hdone : ∀ (lh listed : Array Bool) (a : Act) (w : World) (f : Nat), C w → Both md ops n lh listed → Region.ready md oh lh = [] → (∀ w', C w' → Q a w') → wpAny P md ops Q' (f + g) listed a w := fun lh listed a w f hw B h0 h => by
    refine wpAny_add f (hQ lh listed a w hw B (fun i hi => ?_) (h w hw))
    cases hu : lh.getD i true with
    | true => rfl
    | false =>
      obtain ⟨j, _, hj⟩ := head_ready hh hn hb B i hi hu
      rw [h0] at hj; cases hj
  intro f
  induction f with
  | zero => intro lh listed a w hw B h; exact hdone lh listed a w 0 hw B h.1 h.2
  | succ f ih =>
    intro lh listed a w hw B h
    cases h0 : Region.ready md oh lh with
    | nil => exact hdone lh listed a w (f + 1) hw B h0 (h.1 h0)
    | cons i0 r0 =>
      have hi0 : i0 ∈ Region.ready md oh lh := by rw [h0]; exact List.mem_cons_self
      have hi0n : i0 < n := by
        obtain ⟨_, o, ho, _⟩ := mem_ready.1 hi0
        have := (Array.getElem?_eq_some_iff.1 ho).1
        omega
      have hun : listed.getD i0 true = false := by rw [B.same i0 hi0n]; exact (mem_ready.1 hi0).1
      rw [show f + 1 + g = f + g + 1 by omega]
      refine ⟨fun hnil => ?_, fun i hi => ?_⟩
      · have := (ready_of_head hh hb B hi0n).1 hi0
        rw [hnil] at this; cases this
      · have hin : i < n := by
          rcases Nat.lt_or_ge i n with hlt | hge
          · exact hlt
          · exact absurd hi (tail_waits hs hc hn B.inv _ i0 rfl hi0n hun i hge)
        have hih := (ready_of_head hh hb B hin).2 hi
        have hq := h.2 i hih
        obtain ⟨_, o, ho, _⟩ := mem_ready.1 hi
        have hoh : oh[i]? = some o := by rw [hh i hin]; exact ho
        unfold qOp at hq
        simp only [hoh] at hq
        unfold wpOp
        simp only [ho]
        rw [wanted_head hh hb hin ho] at hq
        split
        · rename_i hwt
          simp only [hwt, if_true] at hq
          exact .inl (Oper.wp_of_quiet hw (fun a' w' hw' h' => ih _ _ a' w' hw' (B.set hin hi) h') hq)
        · rename_i hwt
          simp only [hwt] at hq
          exact ih _ _ _ w hw (B.set hin hi) hq
end

theorem wp_region_quiet_tail {P : Program} {C : World → Prop} {id : Nat} {Q : Exit → Act → World → Prop} {a : Act} {w : World} {l : List Oper} (n : Nat) (hm : P.follows .mixedOrders = true) (hB : Region.lexB .any (l.take n).toArray = true)
    (hT : (decide (n < l.length) && (backB l.toArray n && (Region.sinkB .any l.toArray n && (Region.chainB .any l.toArray n && Region.seqB .any l.toArray (l.length - n) n (Array.replicate n true ++ Array.replicate (l.length - n) false))))) = true) (hC : C w.drew)
    (h : wpQuiet P (l.take n).toArray C (fun a' => ∀ w', C w' → wpList P l.toArray Q (l.drop n) a' w') (l.take n) a) : (Code.region id l.toArray true).wp P Q a w := by
  simp only [Bool.and_eq_true, decide_eq_true_eq] at hT
  obtain ⟨hn, hb, hs, hc, hq⟩ := hT
  simp only [Region.lexB, Bool.and_eq_true] at hB
  have htl : (l.take n).length = n := by rw [List.length_take]; omega
  have hdl : (l.drop n).length = l.length - n := by simp
  have hh : ∀ i, i < n → (l.take n).toArray[i]? = l.toArray[i]? := fun i hi => by simp [hi]
  have hlex := wpAnyQ_lex (C := C) (md := .any) hB.1 (l.take n) 0 (Array.replicate (l.take n).toArray.size false) a (by simp) (by simpa using hB.2) h
  refine wp_region_any hm ?_
  have := wpAny_of_qhead (P := P) (ops := l.toArray) (oh := (l.take n).toArray) (C := C) (md := .any) (n := n) (g := l.length - n) (Q := fun a' w' => wpList P l.toArray Q (l.drop n) a' w') (Q' := Q) hh (by simpa using htl) (by simpa using hn) hb hs hc (fun lh listed a' w' _ B hall hwp => by
    have e : listed = Array.replicate n true ++ Array.replicate (l.length - n) false := by
      have hls : listed.size = l.length := by simpa using B.inv.size
      apply Array.ext (by simp; omega)
      intro i h1 h2
      rcases Nat.lt_or_ge i n with hlt | hge
      · rw [Array.getElem_append_left (by simpa using hlt), Array.getElem_replicate]
        have := hall i hlt
        rw [← B.same i hlt] at this
        simpa [h1] using this
      · rw [Array.getElem_append_right (by simpa using hge), Array.getElem_replicate]
        have := B.inv.tail i hge (by simpa using (by omega : i < l.length))
        simpa [h1] using this
    have hs2 := wpAny_of_seq (md := .any) (Q' := Q) (l.drop n) n listed a' w' (fun j => by simp [List.getElem?_drop]) (by rw [hdl, e]; exact hq) hwp
    rwa [hdl] at hs2) (l.take n).length (Array.replicate (l.take n).toArray.size false) (Array.replicate l.length false) a w.drew hC
    ⟨by simpa using htl, fun j hj b => by
      have h1 : j < l.length := by omega
      have h2 : min n l.length = n := by omega
      simp [h1, hj, h2], ⟨by simp, fun j oj _ hl => (by rw [getD_replicate_false] at hl; cases hl), fun t _ ht => getD_in (by simpa using ht) (getD_replicate_false _ _)⟩⟩ hlex
  rw [htl, show n + (l.length - n) = l.length by omega] at this
  simpa using this
end Go.Proofs.YtjijgoflbjbnfaaGreat

namespace Go.Proofs.YtjijgoflbjbnfaaGreat.Sr
open Go.RowKit Fr

/-- Of what there was, blocks of T alone may have turned. -/
def Off (T : Nat → Prop) (w w' : World) : Prop := Below 0 w w' ∧ ∀ i, i < w.heap.size → ¬ T i → w'.heap[i]? = w.heap[i]?
theorem Off.refl (T : Nat → Prop) (w : World) : Off T w w := ⟨Below.refl _ _, fun _ _ _ => rfl⟩
theorem Off.trans {T T' : Nat → Prop} {a b c : World} (h : Off T a b) (k : Off T' b c) (hT : ∀ i, T' i → T i ∨ a.heap.size ≤ i) : Off T a c :=
  ⟨h.1.trans k.1, fun i hi hn => (k.2 i (Nat.lt_of_lt_of_le hi h.1.size) (fun h2 => (hT i h2).elim hn (fun h3 => by omega))).trans (h.2 i hi hn)⟩
theorem Off.of_below (T : Nat → Prop) {w w' : World} (h : Below w.heap.size w w') : Off T w w' := ⟨h.mono (Nat.zero_le _), fun i hi _ => h.block i hi⟩
theorem Off.of_grown {T : Nat → Prop} {w w' : World} {r : Option Nat} (h : w.grownBy w' r) (hT : ∀ i, r = some i → T i) : Off T w w' :=
  ⟨⟨h.os, h.tape, h.output, h.size, fun _k hk => absurd hk (Nat.not_lt_zero _)⟩, fun i hi hn => h.block i hi (fun e => hn (hT i e.symm))⟩
theorem Off.below {T : Nat → Prop} {w w' : World} {n0 : Nat} (h : Off T w w') (hT : ∀ i, T i → n0 ≤ i) (hn : n0 ≤ w.heap.size) : Below n0 w w' :=
  ⟨h.1.os, h.1.tape, h.1.output, h.1.size, fun k hk => h.2 k (by omega) (fun ht => by have := hT k ht; omega)⟩
theorem Off.drew {T : Nat → Prop} {w w' : World} (h : Off T w w') : Off T w w'.drew := ⟨h.1.drew, h.2⟩
theorem Off.mono {T T' : Nat → Prop} {w w' : World} (h : Off T w w') (hT : ∀ i, T i → T' i) : Off T' w w' := ⟨h.1, fun i hi hn => h.2 i hi (fun ht => hn (hT i ht))⟩

theorem MapO.kept {w w' : World} {mb : Option Nat} {L : List Fi} (h : MapO w mb L) (hb : ∀ b, mb = some b → w'.heap[b]? = w.heap[b]?) : MapO w' mb L := by
  cases mb with
  | none => exact h
  | some b =>
    obtain ⟨es, c, h1, h2⟩ := h
    exact ⟨es, c, (hb b rfl).trans h1, h2⟩
theorem MapO.lt {w : World} {b : Nat} {L : List Fi} (h : MapO w (some b) L) : b < w.heap.size := by
  obtain ⟨es, c, h1, _⟩ := h; exact (Array.getElem?_eq_some_iff.1 h1).1
theorem MapO.ne {w : World} {p b : Nat} {L : List Fi} {s : S} {mb : Option Nat} (h : MapO w (some b) L) (hp : w.heap[p]? = some (blk s mb)) : p ≠ b := by
  rintro rfl
  obtain ⟨es, c, h1, _⟩ := h
  rw [hp] at h1; cases h1

set_option maxRecDepth 100000 in
theorem clones_any (w : World) (s : ByteArray) (hs : s.size ≤ 281474976710656) : Calls Tryz.prog 69 #[.string s] w fun e w' => e = .returned (.string s) ∧ Below w.heap.size w w' := by
  have HC := Lib.hid (Tryz.stringslite_Clone s w hs)
  go_enter Tryz.func69, Tryz.ntmps69
  go_wp2_with (go_at_call 101; refine HC.out.mono ?_; rintro e w' ⟨rfl, hb⟩)
  go_ret
  exact ⟨rfl, hb⟩

/-- What put leaves. -/
def PutTo (w w' : World) (p : Nat) (s : S) (mb : Option Nat) (L : List Fi) (k : ByteArray) (v : Value) (bs : List Int) (n : Nat) : Prop :=
  ∃ b', w'.heap[p]? = some (blk { s with used := s.used + ((n : Int) - ((bytL L k).length : Int)) } (some b')) ∧ MapR w' b' (putL L k (v, bs)) ∧ (mb = some b' ∨ (mb = none ∧ w.heap.size ≤ b')) ∧ Off (fun i => i = p ∨ mb = some i) w w'

theorem MapO.below {w w' : World} {mb : Option Nat} {L : List Fi} (h : MapO w mb L) (hb : Below w.heap.size w w') : MapO w' mb L :=
  h.kept fun b e => hb.block b (by subst e; exact h.lt)
theorem look_in {w : World} {mb : Option Nat} {L : List Fi} (h : MapO w mb L) (k : ByteArray) (c : Bool) (p : InW w) :
    (Instr.lookup 56 (.map mb) (.string k) c).run Tryz.prog p.val = .ok (if c then .tuple #[valL L k, .bool (hasL L k)] else valL L k) p.val := lookup_run (h.below p.bel) k c

set_option maxRecDepth 100000 in
set_option maxHeartbeats 2000000 in
theorem put_some (w : World) (p b : Nat) (s : S) (L : List Fi) (k : ByteArray) (A A0 : Option Addr) (n c n0 cc : Nat) (bs : List Int) (h : w.heap[p]? = some (blk s (some b))) (hm : MapR w b L) (hk : k.size ≤ 12)
    (hv : valL L k = .slice A0 n0 cc) (hn0 : n0 = (bytL L k).length) (hb : 0 ≤ s.used ∧ s.used ≤ 4000000 ∧ n0 ≤ 4000000 ∧ n ≤ 4000000) :
    Calls Tryz.prog 44 #[.pointer (some ⟨p, 0, none⟩), .string k, .slice A n c] w fun e w' => e = .returned (.tuple #[]) ∧ PutTo w w' p s (some b) L k (.slice A n c) bs n := by
  have d5 := (blk_cells h).1.2.2.2.2.2
  obtain ⟨u, hu⟩ : ∃ u, u = s.used := ⟨_, rfl⟩
  have d4 := (blk_cells h).1.2.2.2.2.1
  have HW := Lib.hid h
  have HM := Lib.hid hm
  have hlk : ∀ q : InW w, (Instr.lookup 56 (.map (some b)) (.string k) false).run Tryz.prog q.val = .ok (.slice A0 n0 cc) q.val := fun q => by
    rw [← hv]; exact look_in (mb := some b) (L := L) hm k false q
  have hcl := fun W => clones_any W k (by omega)
  have qM : ∀ (w : World) (r : Option Nat), (binOp .eql 56 (.map r) (.map none)).run Tryz.prog w = .ok (.bool r.isNone) w := fun w r => run_eql_map_nil w 56 9 32 r mapT
  have HCL := Lib.hid hcl
  rw [← hu] at d4 hb
  obtain ⟨b0, b1, b2, b3⟩ := hb
  have c4 : ∀ q : InW w, q.val.cell? ⟨p, 4, none⟩ = some (.int .i64 u) := fun q => q.cell d4
  have c5 : ∀ q : InW w, q.val.cell? ⟨p, 5, none⟩ = some (.map (some b)) := fun q => q.cell d5
  have e0 : (0 : Int) ≤ (n : Int) := by omega
  have e1 : (0 : Int) ≤ (n0 : Int) := by omega
  have e2 : (n : Int) ≤ 4000000 := by omega
  have e3 : (n0 : Int) ≤ 4000000 := by omega
  have HU := Lib.hid hu
  have HN := Lib.hid hn0
  clear h hm hv hcl hu hn0 d4
  go_enter Tryz.func44, Tryz.ntmps44
  go_wp2_with fail
  clear d5
  refine wp_region_quiet_tail (C := fun w' => ∃ q : InW w, w' = q.val) 17 (by kernel_rfl) (by kernel_rfl) (by kernel_rfl) ⟨⟨w.drew, (Below.refl _ _).drew⟩, rfl⟩ ?_
  simp only [List.take_succ_cons, List.take_zero, List.drop_succ_cons, List.drop_zero]
  repeat (go_big_quiet_step (fail))
  refine wpQuiet_nil ?_
  rintro _ ⟨q0, rfl⟩
  obtain ⟨wq, hbq⟩ := q0
  try dsimp only
  have HB := Lib.hid hbq
  have hwp := block_kept HW.out hbq
  have f4 := (blk_cells hwp).2.2.2.2.2.1
  have c4q := (blk_cells hwp).1.2.2.2.2.1
  have HM2 : Hid (MapR wq b L) := MapO.below (mb := some b) HM.out hbq
  have HWP := Lib.hid hwp
  clear c4 c5 hlk hwp hbq
  go_upto_region 3 with fail
  generalize hW1 : wq.setCell ⟨p, 4, none⟩ (.int .i64 (u + ((n : Int) - (n0 : Int)))) = W1
  have HW1 : Hid (W1.heap[p]? = some (blk { s with used := u + ((n : Int) - (n0 : Int)) } (some b))) := by
    show _ = _
    rw [← hW1]; exact blk_set HWP.out 4 _ (by simp)
  have hne : p ≠ b := MapO.ne (mb := some b) HM2.out HWP.out
  have HM3 : Hid (MapR W1 b L) := by
    have := MapO.kept (mb := some b) (w' := W1) HM2.out (fun b' e => by cases e; rw [← hW1]; exact Below.heap_setCell _ _ _ _ (Ne.symm hne))
    exact this
  have HO : Hid (Off (fun i => i = p ∨ some b = some i) w W1) := by
    have h1 : Off (fun i => i = p ∨ some b = some i) w wq := Off.of_below _ HB.out
    exact h1.trans (T' := fun i => i = p) (by rw [← hW1]; exact Off.of_grown (grownBy_set _ _ _) (fun i e => (Option.some.inj e).symm)) (fun i e => .inl (.inl e))
  clear hW1 c4q f4
  have c5 : ∀ q : InW W1, q.val.cell? ⟨p, 5, none⟩ = some (.map (some b)) := fun q => q.cell (blk_cells HW1.out).1.2.2.2.2.2
  have hcl : ∀ q : InW W1, Calls Tryz.prog 69 #[.string k] q.val fun e w'' => e = .returned (.string k) ∧ ∃ q' : InW W1, w'' = q'.val := fun q => calls_in (HCL.out q.val)
  refine wp_region_quiet_tail (C := fun w' => ∃ q : InW W1, w' = q.val) 7 (by kernel_rfl) (by kernel_rfl) (by kernel_rfl) ⟨⟨W1.drew, (Below.refl _ _).drew⟩, rfl⟩ ?_
  simp only [List.take_succ_cons, List.take_zero, List.drop_succ_cons, List.drop_zero]
  repeat (go_big_quiet_step ((go_at_call 69; exact hcl _)))
  refine wpQuiet_nil ?_
  rintro _ ⟨q0, rfl⟩
  obtain ⟨w2, hb2⟩ := q0
  try dsimp only
  obtain ⟨w3, hr3, hm3, hg3, hs3⟩ := update_run (w := w2) (b := b) (L := L) (MapO.below (mb := some b) HM3.out hb2) k (.slice A n c) bs
  have HM4 := Lib.hid hm3
  have HG3 := Lib.hid hg3
  have HB2 := Lib.hid hb2
  clear c5 hcl hm3 hg3 hs3 hb2
  go_wp2
  go_end0
  refine ⟨rfl, b, ?_, HM4.out, .inl rfl, ?_⟩
  · rw [← HN.out, ← HU.out]
    exact block_grown (block_kept HW1.out HB2.out) HG3.out hne
  · have h1 : Off (fun i => i = p ∨ some b = some i) w w2 := HO.out.trans (T' := fun i => i = p) (Off.of_below _ HB2.out) (fun i e => .inl (.inl e))
    exact h1.trans (T' := fun i => i = b) (Off.of_grown HG3.out (fun i e => (Option.some.inj e).symm)) (fun i e => .inl (.inr (by rw [e])))
set_option maxRecDepth 100000 in
set_option maxHeartbeats 2000000 in
theorem put_none (w : World) (p : Nat) (s : S) (k : ByteArray) (A : Option Addr) (n c : Nat) (bs : List Int) (h : w.heap[p]? = some (blk s none)) (hk : k.size ≤ 12)
    (hb : 0 ≤ s.used ∧ s.used ≤ 4000000 ∧ n ≤ 4000000) :
    Calls Tryz.prog 44 #[.pointer (some ⟨p, 0, none⟩), .string k, .slice A n c] w fun e w' => e = .returned (.tuple #[]) ∧ PutTo w w' p s none [] k (.slice A n c) bs n := by
  have d5 := (blk_cells h).1.2.2.2.2.2
  have f5 := (blk_cells h).2.2.2.2.2.2
  obtain ⟨u, hu⟩ : ∃ u, u = s.used := ⟨_, rfl⟩
  have HWW := Lib.hid h
  have hcl := fun W => clones_any W k (by omega)
  have qM : ∀ (w : World) (r : Option Nat), (binOp .eql 56 (.map r) (.map none)).run Tryz.prog w = .ok (.bool r.isNone) w := fun w r => run_eql_map_nil w 56 9 32 r mapT
  have HCL := Lib.hid hcl
  rw [← hu] at hb
  obtain ⟨b0, b1, b3⟩ := hb
  have e0 : (0 : Int) ≤ (n : Int) := by omega
  have e2 : (n : Int) ≤ 4000000 := by omega
  have hplt : p < w.heap.size := (Array.getElem?_eq_some_iff.1 h).1
  obtain ⟨n0, hn0⟩ : ∃ n0 : Nat, n0 = 0 := ⟨_, rfl⟩
  have HU := Lib.hid hu
  have hmk := @run_makeMap Tryz.prog
  clear h hcl hu
  go_enter Tryz.func44, Tryz.ntmps44
  go_upto_region 2 with fail
  generalize hW0 : (w.setCell ⟨p, 5, none⟩ (.map (some w.heap.size))).alloc (.map #[] 0) = W0
  generalize hbb : w.heap.size = b
  have HBG : Hid (w.heap.size ≤ b) := by show _ ≤ _; omega
  have HW : Hid (W0.heap[p]? = some (blk s (some b))) := by
    show _ = _
    rw [← hW0, ← hbb]; exact block_old (blk_set HWW.out 5 _ (by simp)) _
  have HM : Hid (MapR W0 b []) := by
    refine ⟨#[], 0, ?_, Go.MapKept.stamped_empty 0, rfl⟩
    rw [← hW0, ← hbb]
    have := block_new (w.setCell ⟨p, 5, none⟩ (.map (some w.heap.size))) (.map #[] 0)
    rwa [show (w.setCell ⟨p, 5, none⟩ (.map (some w.heap.size))).heap.size = w.heap.size by simp [World.setCell]] at this
  have HO0 : Hid (Off (fun i => i = p ∨ (none : Option Nat) = some i) w W0) := by
    have h1 : Off (fun i => i = p ∨ (none : Option Nat) = some i) w (w.setCell ⟨p, 5, none⟩ (.map (some w.heap.size))) := Off.of_grown (grownBy_set _ _ _) (fun i e => .inl (Option.some.inj e).symm)
    exact h1.trans (T' := fun i => i = p) (by rw [← hW0]; exact Off.of_below _ ((Below.refl _ _).alloc (Nat.le_refl _) _)) (fun i e => .inl (.inl e))
  have HN : Hid (n0 = (bytL [] k).length) := hn0
  have hlk : ∀ q : InW W0, (Instr.lookup 56 (.map (some b)) (.string k) false).run Tryz.prog q.val = .ok (.slice none n0 0) q.val := fun q => by
    rw [hn0]; exact look_in (mb := some b) (L := []) HM.out k false q
  have e1 : (0 : Int) ≤ (n0 : Int) := by omega
  have e3 : (n0 : Int) ≤ 4000000 := by omega
  have b2 : n0 ≤ 4000000 := by omega
  have c4 : ∀ q : InW W0, q.val.cell? ⟨p, 4, none⟩ = some (.int .i64 u) := fun q => q.cell (by rw [HU.out]; exact (blk_cells HW.out).1.2.2.2.2.1)
  have c5 : ∀ q : InW W0, q.val.cell? ⟨p, 5, none⟩ = some (.map (some b)) := fun q => q.cell (blk_cells HW.out).1.2.2.2.2.2
  clear d5 f5 hW0 hbb hn0 hplt
  refine wp_region_quiet_tail (C := fun w' => ∃ q : InW W0, w' = q.val) 17 (by kernel_rfl) (by kernel_rfl) (by kernel_rfl) ⟨⟨W0.drew, (Below.refl _ _).drew⟩, rfl⟩ ?_
  simp only [List.take_succ_cons, List.take_zero, List.drop_succ_cons, List.drop_zero]
  repeat (go_big_quiet_step (fail))
  refine wpQuiet_nil ?_
  rintro _ ⟨q0, rfl⟩
  obtain ⟨wq, hbq⟩ := q0
  try dsimp only
  have HB := Lib.hid hbq
  have hwp := block_kept HW.out hbq
  have f4 := (blk_cells hwp).2.2.2.2.2.1
  have c4q := (blk_cells hwp).1.2.2.2.2.1
  have HM2 : Hid (MapR wq b []) := MapO.below (mb := some b) HM.out hbq
  have HWP := Lib.hid hwp
  clear c4 c5 hlk hwp hbq
  go_upto_region 3 with fail
  generalize hW1 : wq.setCell ⟨p, 4, none⟩ (.int .i64 (u + ((n : Int) - (n0 : Int)))) = W1
  have HW1 : Hid (W1.heap[p]? = some (blk { s with used := u + ((n : Int) - (n0 : Int)) } (some b))) := by
    show _ = _
    rw [← hW1]; exact blk_set HWP.out 4 _ (by simp)
  have hne : p ≠ b := MapO.ne (mb := some b) HM2.out HWP.out
  have HM3 : Hid (MapR W1 b []) := by
    have := MapO.kept (mb := some b) (w' := W1) HM2.out (fun b' e => by cases e; rw [← hW1]; exact Below.heap_setCell _ _ _ _ (Ne.symm hne))
    exact this
  have HO : Hid (Off (fun i => i = p ∨ (none : Option Nat) = some i) w W1) := by
    have h1 : Off (fun i => i = p ∨ (none : Option Nat) = some i) w wq := HO0.out.trans (T' := fun i => i = p) (Off.of_below _ HB.out) (fun i e => .inl (.inl e))
    exact h1.trans (T' := fun i => i = p) (by rw [← hW1]; exact Off.of_grown (grownBy_set _ _ _) (fun i e => (Option.some.inj e).symm)) (fun i e => .inl (.inl e))
  clear hW1 c4q f4
  have c5 : ∀ q : InW W1, q.val.cell? ⟨p, 5, none⟩ = some (.map (some b)) := fun q => q.cell (blk_cells HW1.out).1.2.2.2.2.2
  have hcl : ∀ q : InW W1, Calls Tryz.prog 69 #[.string k] q.val fun e w'' => e = .returned (.string k) ∧ ∃ q' : InW W1, w'' = q'.val := fun q => calls_in (HCL.out q.val)
  refine wp_region_quiet_tail (C := fun w' => ∃ q : InW W1, w' = q.val) 7 (by kernel_rfl) (by kernel_rfl) (by kernel_rfl) ⟨⟨W1.drew, (Below.refl _ _).drew⟩, rfl⟩ ?_
  simp only [List.take_succ_cons, List.take_zero, List.drop_succ_cons, List.drop_zero]
  repeat (go_big_quiet_step ((go_at_call 69; exact hcl _)))
  refine wpQuiet_nil ?_
  rintro _ ⟨q0, rfl⟩
  obtain ⟨w2, hb2⟩ := q0
  try dsimp only
  obtain ⟨w3, hr3, hm3, hg3, hs3⟩ := update_run (w := w2) (b := b) (L := []) (MapO.below (mb := some b) HM3.out hb2) k (.slice A n c) bs
  have HM4 := Lib.hid hm3
  have HG3 := Lib.hid hg3
  have HB2 := Lib.hid hb2
  clear c5 hcl hm3 hg3 hs3 hb2
  go_wp2
  go_end0
  refine ⟨rfl, b, ?_, HM4.out, .inr ⟨rfl, HBG.out⟩, ?_⟩
  · rw [← HN.out, ← HU.out]
    exact block_grown (block_kept HW1.out HB2.out) HG3.out hne
  · have h1 : Off (fun i => i = p ∨ (none : Option Nat) = some i) w w2 := HO.out.trans (T' := fun i => i = p) (Off.of_below _ HB2.out) (fun i e => .inl (.inl e))
    exact h1.trans (T' := fun i => i = b) (Off.of_grown HG3.out (fun i e => (Option.some.inj e).symm)) (fun i e => .inr (by rw [e]; exact HBG.out))
end Go.Proofs.YtjijgoflbjbnfaaGreat.Sr
