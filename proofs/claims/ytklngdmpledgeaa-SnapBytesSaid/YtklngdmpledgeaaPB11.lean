/-
  A store in memory; the contracts of arm, use, state, orDown, Down, Room, Used, Arm, Revive. Conditions: none.
-/
import Derived.Test.YtklngdmpledgeaaSMap
namespace Go.Proofs.Ytklngdmpledgeaa.Sr
open Go.RowKit Fr

/-- The store's own cells: armed, left, down, room, used. -/
structure S where
  a : Bool
  n : Int
  d : Bool
  room : Int
  used : Int
def blk (s : S) (mb : Option Nat) : Obj := .cells #[.bool s.a, .int .i64 s.n, .bool s.d, .int .i64 s.room, .int .i64 s.used, .map mb] 96 (0, 0)

theorem blk_cells {w : World} {p : Nat} {s : S} {mb : Option Nat} (h : w.heap[p]? = some (blk s mb)) :
    (w.cell? ⟨p, 0, none⟩ = some (.bool s.a) ∧ w.cell? ⟨p, 1, none⟩ = some (.int .i64 s.n) ∧ w.cell? ⟨p, 2, none⟩ = some (.bool s.d) ∧ w.cell? ⟨p, 3, none⟩ = some (.int .i64 s.room) ∧ w.cell? ⟨p, 4, none⟩ = some (.int .i64 s.used) ∧ w.cell? ⟨p, 5, none⟩ = some (.map mb)) ∧
    w.frozen? ⟨p, 0, none⟩ = false ∧ w.frozen? ⟨p, 1, none⟩ = false ∧ w.frozen? ⟨p, 2, none⟩ = false ∧ w.frozen? ⟨p, 3, none⟩ = false ∧ w.frozen? ⟨p, 4, none⟩ = false ∧ w.frozen? ⟨p, 5, none⟩ = false := by
  unfold blk at h
  exact ⟨⟨by simp [World.cell?, h], by simp [World.cell?, h], by simp [World.cell?, h], by simp [World.cell?, h], by simp [World.cell?, h], by simp [World.cell?, h]⟩, by simp [World.frozen?, h], by simp [World.frozen?, h], by simp [World.frozen?, h], by simp [World.frozen?, h], by simp [World.frozen?, h], by simp [World.frozen?, h]⟩
theorem blk_set {w : World} {p : Nat} {xs : Array Value} {t : TypeId} {fr : Nat × Nat} (h : w.heap[p]? = some (.cells xs t fr)) (i : Nat) (u : Value) (hi : i < xs.size) : (w.setCell ⟨p, i, none⟩ u).heap[p]? = some (.cells (xs.set i u hi) t fr) := by
  simp only [World.setCell, Array.getElem?_modify, if_true]; rw [h]
  simp [Array.setIfInBounds, hi]

/-- Behind a change of the store's own cells alone. -/
def Own (w w' : World) (p : Nat) (s' : S) (mb : Option Nat) : Prop := w'.heap[p]? = some (blk s' mb) ∧ w.grownBy w' (some p) ∧ w'.heap.size = w.heap.size
def armS (s : S) (n : Int) : S := { s with a := decide (0 ≤ n), n := n }
def useN (s : S) (n : Int) : Int := if s.a = true ∧ s.n < n then s.n else n
def useS (s : S) (n : Int) : S := if s.a = true then (if s.n < n then { s with n := 0, d := true } else { s with n := s.n - n }) else s
def dwn (s : S) : Int := if s.d = true then 14 else 0

set_option maxRecDepth 100000 in
theorem arm_any (w : World) (p : Nat) (s : S) (mb : Option Nat) (n : Int) (h : w.heap[p]? = some (blk s mb)) :
    Calls Try.prog 76 #[.pointer (some ⟨p, 0, none⟩), .int .i64 n] w fun e w' => e = .returned (.tuple #[]) ∧ Own w w' p (armS s n) mb := by
  obtain ⟨⟨c0, c1, c2, c3, c4, c5⟩, f0, f1, f2, f3, f4, f5⟩ := blk_cells h
  have HW := Lib.hid h
  clear h
  go_enter Try.func76, Try.ntmps76
  go_wp2
  go_end0
  refine ⟨rfl, ?_, ?_, ?_⟩
  · have h1 := blk_set HW.out 0 (.bool (decide (0 ≤ n))) (by simp)
    have h2 := blk_set h1 1 (.int .i64 n) (by simp)
    exact h2
  · exact grownBy_trans (grownBy_set _ _ _) (grownBy_set _ _ _)
  · simp [World.setCell]

set_option maxRecDepth 100000 in
theorem state_any (w : World) (p : Nat) (s : S) (mb : Option Nat) (h : w.heap[p]? = some (blk s mb)) :
    Calls Try.prog 63 #[.pointer (some ⟨p, 0, none⟩)] w fun e w' => e = .returned (.int .i64 (dwn s)) ∧ w = w' := by
  obtain ⟨⟨c0, c1, c2, c3, c4, c5⟩, _⟩ := blk_cells h
  obtain ⟨x, hx⟩ : ∃ x, x = s.d := ⟨_, rfl⟩
  rw [← hx] at c2
  unfold dwn
  rw [← hx]
  clear h hx c0 c1 c3 c4 c5
  cases x
  · go_enter Try.func63, Try.ntmps63
    go_wp2
    go_ret
    exact ⟨rfl, rfl⟩
  · go_enter Try.func63, Try.ntmps63
    go_wp2
    go_ret
    exact ⟨rfl, rfl⟩

set_option maxRecDepth 100000 in
set_option maxHeartbeats 1000000 in
theorem use_any (w : World) (p : Nat) (s : S) (mb : Option Nat) (n : Int) (h : w.heap[p]? = some (blk s mb)) (hn : 0 ≤ n ∧ n ≤ 4000000) (hs : s.a = true → 0 ≤ s.n ∧ s.n ≤ 9223372036854775807) :
    Calls Try.prog 61 #[.pointer (some ⟨p, 0, none⟩), .int .i64 n] w fun e w' => e = .returned (.int .i64 (useN s n)) ∧ Own w w' p (useS s n) mb := by
  obtain ⟨⟨c0, c1, c2, c3, c4, c5⟩, f0, f1, f2, f3, f4, f5⟩ := blk_cells h
  have HW := Lib.hid h
  obtain ⟨n0, n1⟩ := hn
  clear h
  cases ha : s.a with
  | false =>
    have hu : useN s n = n ∧ useS s n = s := by unfold useN useS; rw [ha]; simp
    rw [hu.1, hu.2]
    rw [ha] at c0
    have HA := Lib.hid ha
    clear hs hu ha
    go_enter Try.func61, Try.ntmps61
    go_wp2
    go_ret
    exact ⟨rfl, HW.out, grownBy_refl _ _, rfl⟩
  | true =>
    obtain ⟨m0, m1⟩ := hs ha
    rw [ha] at c0
    by_cases hlt : s.n < n
    · have hu : useN s n = s.n ∧ useS s n = { s with n := 0, d := true } := by unfold useN useS; rw [ha]; simp [hlt]
      rw [hu.1, hu.2]
      clear hs hu
      have HA := Lib.hid ha
      clear ha
      obtain ⟨m, hm⟩ : ∃ m, m = s.n := ⟨_, rfl⟩
      rw [← hm] at c1 m0 m1 hlt ⊢
      have HM := Lib.hid hm
      clear hm
      go_enter Try.func61, Try.ntmps61
      go_wp2
      go_ret
      refine ⟨rfl, ?_, ?_, ?_⟩
      · have h1 := blk_set HW.out 2 (.bool true) (by simp)
        have h2 := blk_set h1 1 (.int .i64 (m - m)) (by simp)
        have : m - m = 0 := by omega
        rw [this] at h2
        simpa [this, blk] using h2
      · exact grownBy_trans (grownBy_set _ _ _) (grownBy_set _ _ _)
      · simp [World.setCell]
    · have hu : useN s n = n ∧ useS s n = { s with n := s.n - n } := by unfold useN useS; rw [ha]; simp [hlt]
      rw [hu.1, hu.2]
      clear hs hu
      have HA := Lib.hid ha
      clear ha
      obtain ⟨m, hm⟩ : ∃ m, m = s.n := ⟨_, rfl⟩
      rw [← hm] at c1 m0 m1 hlt ⊢
      have HM := Lib.hid hm
      clear hm
      go_enter Try.func61, Try.ntmps61
      go_wp2
      go_ret
      refine ⟨rfl, ?_, ?_, ?_⟩
      · have h1 := blk_set HW.out 1 (.int .i64 (m - n)) (by simp)
        exact h1
      · exact grownBy_set _ _ _
      · simp [World.setCell]

set_option maxRecDepth 100000 in
theorem orDown_own (w : World) (p : Nat) : Calls Try.prog 75 #[.pointer (some ⟨p, 0, none⟩)] w fun e w' => e = .returned (.pointer (some ⟨p, 0, none⟩)) ∧ w = w' := by
  go_enter Try.func75, Try.ntmps75
  go_wp2
  go_ret
  exact ⟨rfl, rfl⟩
def nilS : S := ⟨false, 0, true, 0, 0⟩
set_option maxRecDepth 100000 in
theorem orDown_nil (w : World) : Calls Try.prog 75 #[.pointer none] w fun e w' => e = .returned (.pointer (some ⟨w.heap.size, 0, none⟩)) ∧ w' = w.alloc (blk nilS none) := by
  go_enter Try.func75, Try.ntmps75
  go_wp2
  go_ret
  exact ⟨rfl, rfl⟩
set_option maxRecDepth 100000 in
theorem down_own (w : World) (p : Nat) (s : S) (mb : Option Nat) (h : w.heap[p]? = some (blk s mb)) :
    Calls Try.prog 33 #[.pointer (some ⟨p, 0, none⟩)] w fun e w' => e = .returned (.bool s.d) ∧ w = w' := by
  have HO := Lib.hid (orDown_own w p)
  have hs := state_any w p s mb h
  unfold dwn at hs
  obtain ⟨x, hx⟩ : ∃ x, x = s.d := ⟨_, rfl⟩
  rw [← hx] at hs ⊢
  clear h hx
  cases x
  · rw [if_neg (by decide)] at hs
    have HS := Lib.hid hs
    clear hs
    go_enter Try.func33, Try.ntmps33
    go_wp2_with (first
      | (go_at_call 75; (with_reducible refine HO.out.mono ?_); rintro e w' ⟨rfl, rfl⟩)
      | (go_at_call 63; (with_reducible refine HS.out.mono ?_); rintro e w' ⟨rfl, rfl⟩))
    go_ret
    exact ⟨rfl, rfl⟩
  · rw [if_pos rfl] at hs
    have HS := Lib.hid hs
    clear hs
    go_enter Try.func33, Try.ntmps33
    go_wp2_with (first
      | (go_at_call 75; (with_reducible refine HO.out.mono ?_); rintro e w' ⟨rfl, rfl⟩)
      | (go_at_call 63; (with_reducible refine HS.out.mono ?_); rintro e w' ⟨rfl, rfl⟩))
    go_ret
    exact ⟨rfl, rfl⟩
set_option maxRecDepth 100000 in
theorem room_own (w : World) (p : Nat) (s : S) (mb : Option Nat) (h : w.heap[p]? = some (blk s mb)) :
    Calls Try.prog 30 #[.pointer (some ⟨p, 0, none⟩)] w fun e w' => e = .returned (.int .i64 s.room) ∧ w = w' := by
  have HO := Lib.hid (orDown_own w p)
  obtain ⟨⟨_, _, _, c3, _, _⟩, _⟩ := blk_cells h
  clear h
  go_enter Try.func30, Try.ntmps30
  go_wp2_with (go_at_call 75; (with_reducible refine HO.out.mono ?_); rintro e w' ⟨rfl, rfl⟩)
  go_ret
  exact ⟨rfl, rfl⟩
set_option maxRecDepth 100000 in
theorem used_own (w : World) (p : Nat) (s : S) (mb : Option Nat) (h : w.heap[p]? = some (blk s mb)) :
    Calls Try.prog 34 #[.pointer (some ⟨p, 0, none⟩)] w fun e w' => e = .returned (.int .i64 s.used) ∧ w = w' := by
  have HO := Lib.hid (orDown_own w p)
  obtain ⟨⟨_, _, _, _, c4, _⟩, _⟩ := blk_cells h
  clear h
  go_enter Try.func34, Try.ntmps34
  go_wp2_with (go_at_call 75; (with_reducible refine HO.out.mono ?_); rintro e w' ⟨rfl, rfl⟩)
  go_ret
  exact ⟨rfl, rfl⟩
set_option maxRecDepth 100000 in
theorem Arm_own (w : World) (p : Nat) (s : S) (mb : Option Nat) (n : Int) (h : w.heap[p]? = some (blk s mb)) :
    Calls Try.prog 25 #[.pointer (some ⟨p, 0, none⟩), .int .i64 n] w fun e w' => e = .returned (.tuple #[]) ∧ Own w w' p (armS s n) mb := by
  have HO := Lib.hid (orDown_own w p)
  have HA := Lib.hid (arm_any w p s mb n h)
  clear h
  go_enter Try.func25, Try.ntmps25
  go_wp2_with (first
      | (go_at_call 75; (with_reducible refine HO.out.mono ?_); rintro e w' ⟨rfl, rfl⟩)
      | (go_at_call 76; (with_reducible refine HA.out.mono ?_); rintro e w' ⟨rfl, h1⟩; have H1 := Lib.hid h1; clear h1))
  go_end0
  exact ⟨rfl, H1.out⟩
set_option maxRecDepth 100000 in
theorem Revive_own (w : World) (p : Nat) (s : S) (mb : Option Nat) (h : w.heap[p]? = some (blk s mb)) :
    Calls Try.prog 26 #[.pointer (some ⟨p, 0, none⟩)] w fun e w' => e = .returned (.tuple #[]) ∧ Own w w' p { s with a := false, n := 0, d := false } mb := by
  have HO := Lib.hid (orDown_own w p)
  obtain ⟨⟨c0, c1, c2, c3, c4, c5⟩, f0, f1, f2, f3, f4, f5⟩ := blk_cells h
  have HW := Lib.hid h
  clear h
  go_enter Try.func26, Try.ntmps26
  go_wp2_with (go_at_call 75; (with_reducible refine HO.out.mono ?_); rintro e w' ⟨rfl, rfl⟩)
  go_end0
  refine ⟨rfl, ?_, ?_, ?_⟩
  · have h1 := blk_set HW.out 0 (.bool false) (by simp)
    have h2 := blk_set h1 1 (.int .i64 0) (by simp)
    have h3 := blk_set h2 2 (.bool false) (by simp)
    exact h3
  · exact grownBy_trans (grownBy_trans (grownBy_set _ _ _) (grownBy_set _ _ _)) (grownBy_set _ _ _)
  · simp [World.setCell]
end Go.Proofs.Ytklngdmpledgeaa.Sr

namespace Go.Proofs.Ytklngdmpledgeaa.Sr
open Go.RowKit Fr

set_option maxRecDepth 100000 in
theorem new_ok (w : World) (n : Int) (h0 : 0 ≤ n) (h1 : n ≤ 1048576) :
    Calls Try.prog 14 #[.int .i64 n] w fun e w' => e = .returned (.tuple #[.pointer (some ⟨w.heap.size, 0, none⟩), .int .i64 0]) ∧ w' = w.alloc (blk ⟨false, 0, false, n, 0⟩ none) := by
  have a1 : ¬ n < 0 := by omega
  have a2 : ¬ 1048576 < n := by omega
  go_enter Try.func14, Try.ntmps14
  go_wp2
  go_ret2
  exact ⟨rfl, rfl⟩
set_option maxRecDepth 100000 in
theorem new_bad (w : World) (n : Int) (h : n < 0 ∨ 1048576 < n) :
    Calls Try.prog 14 #[.int .i64 n] w fun e w' => e = .returned (.tuple #[.pointer none, .int .i64 1]) ∧ w = w' := by
  rcases h with h | h
  · go_enter Try.func14, Try.ntmps14
    go_wp2
    go_ret2
    exact ⟨rfl, rfl⟩
  · have a1 : ¬ n < 0 := by omega
    go_enter Try.func14, Try.ntmps14
    go_wp2
    go_ret2
    exact ⟨rfl, rfl⟩

def okC (c : Int) : Bool := c == 46 || (decide (97 ≤ c) && decide (c ≤ 122))
def okN (s : ByteArray) : Bool := decide (0 < s.size) && decide (s.size ≤ 12) && (sb s).all okC
theorem okC_of {c : Int} : okC c = true ↔ (c = 46 ∨ (97 ≤ c ∧ c ≤ 122)) := by unfold okC; simp
theorem all_snoc {l : List Int} {k : Nat} (h : ∀ i, i < k → okC (l.getD i 0) = true) (h2 : okC (l.getD k 0) = true) : ∀ i, i < k + 1 → okC (l.getD i 0) = true := fun i hi => by
  by_cases e : i = k
  · rw [e]; exact h2
  · exact h i (by omega)
theorem all_of {l : List Int} (h : ∀ i, i < l.length → okC (l.getD i 0) = true) : l.all okC = true := by
  rw [List.all_eq_true]
  intro x hx
  obtain ⟨i, hi, rfl⟩ := List.mem_iff_getElem.1 hx
  have := h i hi
  rwa [show l.getD i 0 = l[i] by simp [List.getD, List.getElem?_eq_getElem hi]] at this
theorem all_not {l : List Int} {k : Nat} (hk : k < l.length) (h : okC (l.getD k 0) = false) : l.all okC = false := by
  cases ha : l.all okC with
  | false => rfl
  | true =>
    rw [List.all_eq_true] at ha
    have := ha (l[k]) (List.getElem_mem hk)
    rw [show l.getD k 0 = l[k] by simp [List.getD, List.getElem?_eq_getElem hk], this] at h
    cases h

set_option maxRecDepth 100000 in
set_option maxHeartbeats 2000000 in
theorem isName_any (w : World) (s : ByteArray) :
    Calls Try.prog 108 #[.string s] w fun e w' => e = .returned (.bool (okN s)) ∧ Below w.heap.size w w' := by
  by_cases hz : s.size = 0
  · have he := empty_yes hz
    have hr : okN s = false := by unfold okN; rw [hz]; rfl
    rw [hr]
    clear hr hz
    go_enter Try.func108, Try.ntmps108
    go_wp2
    go_ret
    exact ⟨rfl, Below.refl _ _⟩
  · have he := empty_no (s := s) (by omega)
    by_cases h12 : s.size ≤ 12
    · have h12a : ¬ (12 : Int) < (s.size : Int) := by omega
      obtain ⟨cv, cw, hcv, hcp⟩ := str_bytes s
      have HCP := Lib.hid (hcp w)
      have HZ := Lib.hid hz
      have hsz : Hid (okN s = (sb s).all okC) := by
        show _ = _
        unfold okN
        rw [show decide (0 < s.size) = true by simp; omega, show decide (s.size ≤ 12) = true by simp; omega]; rfl
      clear hcp hz
      go_enter Try.func108, Try.ntmps108
      go_wp2
      obtain ⟨W0, hW0⟩ : ∃ W0, W0 = cw w := ⟨_, rfl⟩
      rw [← hW0] at HCP ⊢
      clear hW0 hcv
      go_loopg [15] s.size (fun (g : Nat) si wx => W0 = wx ∧ ∃ k : Nat, g = s.size - k ∧ k ≤ s.size ∧ si = .int .i64 (k : Int) ∧ Hid (∀ i, i < k → okC ((sb s).getD i 0) = true))
      case atStart => exact ⟨rfl, 0, rfl, Nat.zero_le _, rfl, fun i hi => by omega⟩
      case round =>
        obtain ⟨rfl, k, rfl, hk, rfl, hall⟩ := hrel
        by_cases hlt : k < s.size
        · obtain ⟨d, hd⟩ : ∃ d, d = (sb s).getD k 0 := ⟨_, rfl⟩
          have hc := HCP.out.2.2 k hlt
          have hr := sb_range s k
          rw [← hd] at hc hr
          obtain ⟨r0, r1⟩ := hr
          have HD := Lib.hid hd
          clear hd
          by_cases g0 : d = 46
          · have HO : Hid (okC ((sb s).getD k 0) = true) := by show _ = _; rw [← HD.out, okC_of]; exact .inl g0
            have g1 : (d != 46) = false := by simp [g0]
            clear g0
            go_wp2
            go_roundg (s.size - (k + 1))
            case measure => omega
            case rel => exact ⟨rfl, k + 1, rfl, by omega, by go_num, all_snoc hall.out HO.out⟩
          · have g1 : (d != 46) = true := by simpa using g0
            by_cases g2 : d < 97
            · have HO : Hid (okN s = false) := by
                show _ = _
                rw [hsz.out]; refine all_not (k := k) (by rw [sb_len]; exact hlt) ?_
                rw [← HD.out]
                cases hq : okC d with
                | false => rfl
                | true => rcases okC_of.1 hq with h | h <;> omega
              go_wp2
              go_ret
              exact ⟨by rw [HO.out]; rfl, HCP.out.1⟩
            · by_cases g3 : 122 < d
              · have HO : Hid (okN s = false) := by
                  show _ = _
                  rw [hsz.out]; refine all_not (k := k) (by rw [sb_len]; exact hlt) ?_
                  rw [← HD.out]
                  cases hq : okC d with
                  | false => rfl
                  | true => rcases okC_of.1 hq with h | h <;> omega
                go_wp2
                go_ret
                exact ⟨by rw [HO.out]; rfl, HCP.out.1⟩
              · have HO : Hid (okC ((sb s).getD k 0) = true) := by show _ = _; rw [← HD.out, okC_of]; exact .inr ⟨by omega, by omega⟩
                go_wp2
                go_roundg (s.size - (k + 1))
                case measure => omega
                case rel => exact ⟨rfl, k + 1, rfl, by omega, by go_num, all_snoc hall.out HO.out⟩
        · obtain rfl : k = s.size := by omega
          have HR : Hid (okN s = true) := by
            show _ = _
            rw [hsz.out]; exact all_of (by rw [sb_len]; exact hall.out)
          have hx : decide ((s.size : Int) < (s.size : Int)) = false := by simp
          go_wp2
          go_ret
          exact ⟨by rw [HR.out]; rfl, HCP.out.1⟩
    · have hr : okN s = false := by unfold okN; simp [h12]
      rw [hr]
      have h12b : (12 : Int) < (s.size : Int) := by omega
      clear hr hz h12
      go_enter Try.func108, Try.ntmps108
      go_wp2
      go_ret
      exact ⟨rfl, Below.refl _ _⟩

/-- A row of strings. -/
def NRow (w : World) (g : Nat) (ns : List ByteArray) : Prop := g < w.heap.size ∧ ∀ j, j < ns.length → w.cell? ⟨g, j, none⟩ = some (.string (ns.getD j ByteArray.empty))
theorem NRow.kept {w w' : World} {g : Nat} {ns : List ByteArray} (h : NRow w g ns) (hb : Below w.heap.size w w') : NRow w' g ns :=
  ⟨Nat.lt_of_lt_of_le h.1 hb.size, fun j hj => (hb.cell (p := ⟨g, j, none⟩) h.1).trans (h.2 j hj)⟩
def rdy (d : Bool) (ns : List ByteArray) : Int := if d = true then 14 else if ns.all okN = true then 0 else 3

set_option maxRecDepth 100000 in
set_option maxHeartbeats 2000000 in
theorem ready_any (w : World) (p : Nat) (s : S) (mb : Option Nat) (g cap : Nat) (ns : List ByteArray) (h : w.heap[p]? = some (blk s mb)) (hn : NRow w g ns) (hl : ns.length ≤ 100) :
    Calls Try.prog 60 #[.pointer (some ⟨p, 0, none⟩), .slice (some ⟨g, 0, none⟩) ns.length cap] w fun e w' => e = .returned (.int .i64 (rdy s.d ns)) ∧ Below w.heap.size w w' := by
  have hd := down_own w p s mb h
  obtain ⟨x, hx⟩ : ∃ x, x = s.d := ⟨_, rfl⟩
  rw [← hx] at hd ⊢
  have HD := Lib.hid hd
  have HN := Lib.hid hn
  obtain ⟨n, hn2⟩ : ∃ n, n = ns.length := ⟨_, rfl⟩
  rw [← hn2] at hl ⊢
  have HL := Lib.hid hn2
  have e0 : (0 : Int) ≤ (n : Int) := by omega
  obtain ⟨r, hr⟩ : ∃ r, r = rdy x ns := ⟨_, rfl⟩
  rw [← hr]
  clear hd hx h hn hn2
  cases x
  · have HRR : Hid (r = if ns.all okN = true then 0 else 3) := hr
    clear hr
    go_enter Try.func60, Try.ntmps60
    go_wp2_with (go_at_call 33; (with_reducible refine HD.out.mono ?_); rintro e w' ⟨rfl, rfl⟩)
    go_loopg [11] n (fun (gh : Nat) si wx => ∃ k : Nat, gh = n - k ∧ k ≤ n ∧ si = .int .i64 (k : Int) ∧ Hid (Below w.heap.size w wx) ∧ Hid (∀ i, i < k → okN (ns.getD i ByteArray.empty) = true))
    case atStart => exact ⟨0, rfl, Nat.zero_le _, rfl, Below.refl _ _, fun i hi => by omega⟩
    case round =>
      obtain ⟨k, rfl, hk, rfl, hb, hall⟩ := hrel
      by_cases hlt : k < n
      · obtain ⟨nm, hnm⟩ : ∃ nm, nm = ns.getD k ByteArray.empty := ⟨_, rfl⟩
        have hc : wr.cell? ⟨g, k, none⟩ = some (.string nm) := by
          rw [hnm]; exact (hb.out.cell (p := ⟨g, k, none⟩) HN.out.1).trans (HN.out.2 k (by rw [← HL.out]; exact hlt))
        have hi := fun W => isName_any W nm
        obtain ⟨q, hq⟩ : ∃ q, q = okN nm := ⟨_, rfl⟩
        rw [← hq] at hi
        have HI := Lib.hid hi
        have HQ : Hid (okN (ns.getD k ByteArray.empty) = q) := by show _ = _; rw [← hnm, hq]
        clear hi hq hnm
        cases q
        · have HR : Hid (ns.all okN = false) := by
            show _ = _
            cases ha : ns.all okN with
            | false => rfl
            | true =>
              rw [List.all_eq_true] at ha
              have hkl : k < ns.length := by rw [← HL.out]; exact hlt
              have := ha (ns[k]) (List.getElem_mem hkl)
              have h2 := HQ.out
              rw [show ns.getD k ByteArray.empty = ns[k] by simp [List.getD, List.getElem?_eq_getElem hkl], this] at h2
              cases h2
          go_wp2_with (go_at_call 108; (with_reducible refine (HI.out _).mono ?_); rintro e w2 ⟨rfl, hb2⟩; have HB2 := Lib.hid hb2; clear hb2)
          go_ret
          exact ⟨ret_int (by rw [HRR.out, HR.out]; rfl), hb.out.trans (HB2.out.mono hb.out.size)⟩
        · go_wp2_with (go_at_call 108; (with_reducible refine (HI.out _).mono ?_); rintro e w2 ⟨rfl, hb2⟩; have HB2 := Lib.hid hb2; clear hb2)
          go_roundg (n - (k + 1))
          case measure => omega
          case rel =>
            refine ⟨k + 1, rfl, by omega, by go_num, hb.out.trans (HB2.out.mono hb.out.size), fun i hi => ?_⟩
            by_cases e : i = k
            · rw [e]; exact HQ.out
            · exact hall.out i (by omega)
      · obtain rfl : k = n := by omega
        have HR : Hid (ns.all okN = true) := by
          show _ = _
          rw [List.all_eq_true]
          intro x hx
          obtain ⟨i, hi, rfl⟩ := List.mem_iff_getElem.1 hx
          have := hall.out i (by rw [HL.out]; exact hi)
          rwa [show ns.getD i ByteArray.empty = ns[i] by simp [List.getD, List.getElem?_eq_getElem hi]] at this
        have hx : decide ((k : Int) < (k : Int)) = false := by simp
        go_wp2
        go_ret
        exact ⟨ret_int (by rw [HRR.out, HR.out]; rfl), hb.out⟩
  · have HRR : Hid (r = 14) := hr
    clear hr
    go_enter Try.func60, Try.ntmps60
    go_wp2_with (go_at_call 33; (with_reducible refine HD.out.mono ?_); rintro e w' ⟨rfl, rfl⟩)
    go_ret
    exact ⟨ret_int HRR.out.symm, Below.refl _ _⟩
end Go.Proofs.Ytklngdmpledgeaa.Sr
