/-
  The law IdentIsins answers true: its walk. Conditions: none.
-/
import Derived.Test.YtcidbmkmnlneiaaIKnown
namespace Go.Proofs.Ytcidbmkmnlneiaa.Id
open Go.RowKit

/-- One byte laid in memory reads as a string. -/
theorem bytes_one (w : World) (c : Int) : (convert 30 9 (.slice (some ⟨w.heap.size, 0, none⟩) 1 1)).run Try.prog (w.alloc (.cells #[.int .u8 c] 5)) = .ok (.string (one c)) (w.alloc (.cells #[.int .u8 c] 5)) := by
  rw [run_convert_bytes_string _ 30 9 5 _ _ _ Try.underlying30 Try.underlying5 Try.underlying9]
  refine run_bytesToString (w.alloc (.cells #[.int .u8 c] 5)) _ 1 1 [c] ?_
  have := run_loadCells_list (P := Try.prog) (w := w.alloc (.cells #[.int .u8 c] 5)) ⟨w.heap.size, 0, none⟩ [.int .u8 c] (fun j v hv => by
    match j, hv with
    | 0, hv => simp at hv; subst hv; simp [Addr.add]
    | j + 1, hv => simp at hv)
  exact this

set_option maxRecDepth 100000 in
set_option maxHeartbeats 4000000 in
theorem law_isins (w : World) (s0 : ByteArray) (hs0 : s0.size ≤ 9223372036854775807) :
    Calls Try.prog 3 #[.string s0] w fun e w' => e = .returned (.bool true) ∧ Below w.heap.size w w' := by
  obtain ⟨n, hn⟩ : ∃ n, n = min s0.size 40 := ⟨_, rfl⟩
  have n1 : n ≤ s0.size := by omega
  have n2 : n ≤ 40 := by omega
  have hsl := fun W => slice_to s0 n n1 W
  obtain ⟨t, ht⟩ : ∃ t, t = s0.extract 0 n := ⟨_, rfl⟩
  have htl : t.size ≤ 40 := by
    have h := sb_take s0 n
    rw [← sb_len, ht, h, List.length_take]
    omega
  rw [← ht] at hsl
  have hmin : (if (40 : Int) < (s0.size : Int) then 40 else (s0.size : Int)) = (n : Int) := by
    split <;> omega
  clear ht hn
  obtain ⟨v, hv⟩ : ∃ v, v = isinN (sb t) := ⟨_, rfl⟩
  have ci : ∀ W, Calls Try.prog 12 #[.string t] W fun e w' => e = .returned (.int .i64 v) ∧ Below W.heap.size W w' := fun W => by
    rw [hv]; exact isin_any W t (by omega)
  have cr : ∀ W, Calls Try.prog 13 #[.string t] W fun e w' => e = .returned (.int .i64 v) ∧ Below W.heap.size W w' := fun W => by
    rw [hv]; exact refIsin_any W t (by omega)
  have CI := Lib.hid ci
  have CR := Lib.hid cr
  clear ci cr hv
  cases hh : headB (sb t)
  · have C1 := Lib.hid (fun W => digit_no W t (by omega) hh)
    have C2 := Lib.hid (fun W => make_no W t (by omega) hh)
    have c3 : ∀ W, Calls Try.prog 10 #[.string t] W fun e w' => e = .returned (.int .i64 (-1)) ∧ Below W.heap.size W w' := fun W => by
      rw [← rd_no hh]; exact refDigit_any W t (by omega)
    have C3 := Lib.hid c3
    clear c3 hh
    go_enter Try.func3, Try.ntmps3
    go_wp2_with (first
      | (go_at_call 8; refine (C1.out _).mono ?_; rintro e w1 ⟨rfl, hb1⟩)
      | (go_at_call 9; refine (C2.out _).mono ?_; rintro e w2 ⟨rfl, hb2⟩)
      | (go_at_call 10; refine (C3.out _).mono ?_; rintro e w3 ⟨rfl, hb3⟩)
      | (go_at_call 11; refine (known_any _).mono ?_; rintro e w4 ⟨rfl, hb4⟩)
      | (go_at_call 12; refine (CI.out _).mono ?_; rintro e w5 ⟨rfl, hb5⟩)
      | (go_at_call 13; refine (CR.out _).mono ?_; rintro e w6 ⟨rfl, hb6⟩))
    go_ret
    have k2 := hb1.trans (hb2.mono hb1.size)
    have k3 := k2.trans (hb3.mono k2.size)
    have k4 := k3.trans (hb4.mono k3.size)
    have k5 := k4.trans (hb5.mono k4.size)
    exact ⟨rfl, k5.trans (hb6.mono k5.size)⟩
  · have hr := chkD_range (sb t)
    have hm : madeS t = t ++ one (48 + chkD (sb t)) := rfl
    have h0 : isinN (sb (madeS t)) = 0 := by rw [sb_made]; exact made_isin hh
    have hml : (madeS t).size ≤ 100000 := by rw [madeS_size]; omega
    obtain ⟨x, hx⟩ : ∃ x, x = chkD (sb t) := ⟨_, rfl⟩
    have C1 := Lib.hid (fun W => digit_yes W t (by omega) hh)
    have C2 := Lib.hid (fun W => make_yes W t (by omega) hh)
    have c3 : ∀ W, Calls Try.prog 10 #[.string t] W fun e w' => e = .returned (.int .i64 x) ∧ Below W.heap.size W w' := fun W => by
      rw [hx, ← rd_yes hh]; exact refDigit_any W t (by omega)
    have C3 := Lib.hid c3
    have c7 : ∀ W, Calls Try.prog 12 #[.string (madeS t)] W fun e w' => e = .returned (.int .i64 0) ∧ Below W.heap.size W w' := fun W => by
      rw [← h0]; exact isin_any W (madeS t) hml
    have C7 := Lib.hid c7
    rw [hm] at C2 C7
    rw [← hx] at C1 C2 C7 hr
    obtain ⟨x0, x1⟩ := hr
    have hno : ¬ 9223372036854775807 < t.size + (one (48 + x)).size := by
      have : (one (48 + x)).size = 1 := rfl
      omega
    have hb1s := fun W => bytes_one W (48 + x)
    clear c3 c7 hh hm h0 hml hx
    go_enter Try.func3, Try.ntmps3
    go_wp2_with (first
      | (go_at_call 8; refine (C1.out _).mono ?_; rintro e w1 ⟨rfl, hb1⟩)
      | (go_at_call 9; refine (C2.out _).mono ?_; rintro e w2 ⟨rfl, hb2⟩)
      | (go_at_call 10; refine (C3.out _).mono ?_; rintro e w3 ⟨rfl, hb3⟩)
      | (go_at_call 11; refine (known_any _).mono ?_; rintro e w4 ⟨rfl, hb4⟩)
      | (go_at_call 12; (with_reducible refine (CI.out _).mono ?_); rintro e w5 ⟨rfl, hb5⟩)
      | (go_at_call 12; (with_reducible refine (C7.out _).mono ?_); rintro e w7 ⟨rfl, hb7⟩)
      | (go_at_call 13; refine (CR.out _).mono ?_; rintro e w6 ⟨rfl, hb6⟩))
    go_ret
    have k2 := hb1.trans (hb2.mono hb1.size)
    have k3 := k2.trans (hb3.mono k2.size)
    have k4 := k3.trans (hb4.mono k3.size)
    have k5 := k4.trans (hb5.mono k4.size)
    have k6 := (k5.trans (hb6.mono k5.size)).alloc (k5.trans (hb6.mono k5.size)).size (.cells #[.int .u8 (48 + x)] 5)
    exact ⟨rfl, k6.trans (hb7.mono k6.size)⟩
end Go.Proofs.Ytcidbmkmnlneiaa.Id
