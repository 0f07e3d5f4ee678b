/-
  The law IdentNames answers true: its walk. Conditions: the types' own ranges.
-/
import Derived.Test.YtcidbmkmnlneiaaINode
import Derived.Test.YtcidbmkmnlneiaaIMember
namespace Go.Proofs.Ytcidbmkmnlneiaa.Id
open Go.RowKit

set_option maxRecDepth 100000 in
set_option maxHeartbeats 4000000 in
theorem law_names (w : World) (s0 : ByteArray) (a : Int) (hs0 : s0.size ≤ 9223372036854775807) :
    Calls Try.prog 5 #[.string s0, .int .i64 a] w fun e w' => e = .returned (.bool true) ∧ Below w.heap.size w w' := by
  obtain ⟨n, hn⟩ : ∃ n, n = min s0.size 20 := ⟨_, rfl⟩
  have n1 : n ≤ s0.size := by omega
  have n2 : n ≤ 20 := by omega
  have hsl := fun W => slice_to s0 n n1 W
  obtain ⟨t, ht⟩ : ∃ t, t = s0.extract 0 n := ⟨_, rfl⟩
  have htl : t.size ≤ 20 := by
    have h := sb_take s0 n
    rw [← sb_len, ht, h, List.length_take]
    omega
  rw [← ht] at hsl
  have hmin : (if (20 : Int) < (s0.size : Int) then 20 else (s0.size : Int)) = (n : Int) := by
    split <;> omega
  clear ht hn
  obtain ⟨v, hv⟩ : ∃ v, v = memE (sb t) := ⟨_, rfl⟩
  have c5 : ∀ W, Calls Try.prog 17 #[.string t] W fun e w' => e = .returned (.int .i64 v) ∧ Below W.heap.size W w' := fun W => by
    rw [hv]; exact member_any W t (by omega)
  have c6 : ∀ W, Calls Try.prog 18 #[.string t] W fun e w' => e = .returned (.int .i64 v) ∧ W = w' := fun W => by
    rw [hv]; exact refMember_any W t (by omega)
  obtain ⟨c, hc⟩ : ∃ c, c = nodeN (sb t) := ⟨_, rfl⟩
  have c3 : ∀ W, Calls Try.prog 16 #[.string t] W fun e w' => e = .returned (.int .i64 c) ∧ W = w' := fun W => by
    rw [hc]; exact refNode_any W t
  have hcr := node_range (sb t)
  rw [← hc] at hcr
  obtain ⟨c0, c1⟩ := hcr
  have C5 := Lib.hid c5
  have C6 := Lib.hid c6
  have C3 := Lib.hid c3
  have HC := Lib.hid hc
  clear hv c5 c6 c3 hc
  rcases (by omega : c = -1 ∨ 0 ≤ c) with rfl | k0
  · have C1 := Lib.hid (fun W => node_any (x := 0) (er := 5) W t (by omega) (.inr ⟨HC.out.symm, rfl, rfl⟩))
    rcases (by omega : a < 0 ∨ 2 < a ∨ (0 ≤ a ∧ a ≤ 2)) with ka | ka | ⟨ka, kb⟩
    · have C2 := Lib.hid (fun W => nodeName_no W a (.inl ka))
      go_enter Try.func5, Try.ntmps5
      go_wp2_with (first
        | (go_at_call 14; refine (C1.out _).mono ?_; rintro e w1 ⟨rfl, rfl⟩)
        | (go_at_call 15; refine (C2.out _).mono ?_; rintro e w2 ⟨rfl, rfl⟩)
        | (go_at_call 16; (with_reducible refine (C3.out _).mono ?_); rintro e w3 ⟨rfl, rfl⟩)
        | (go_at_call 11; refine (known_any _).mono ?_; rintro e w4 ⟨rfl, hb4⟩)
        | (go_at_call 17; refine (C5.out _).mono ?_; rintro e w5 ⟨rfl, hb5⟩)
        | (go_at_call 18; refine (C6.out _).mono ?_; rintro e w6 ⟨rfl, rfl⟩))
      go_ret
      exact ⟨rfl, hb4.trans (hb5.mono hb4.size)⟩
    · have C2 := Lib.hid (fun W => nodeName_no W a (.inr ka))
      go_enter Try.func5, Try.ntmps5
      go_wp2_with (first
        | (go_at_call 14; refine (C1.out _).mono ?_; rintro e w1 ⟨rfl, rfl⟩)
        | (go_at_call 15; refine (C2.out _).mono ?_; rintro e w2 ⟨rfl, rfl⟩)
        | (go_at_call 16; (with_reducible refine (C3.out _).mono ?_); rintro e w3 ⟨rfl, rfl⟩)
        | (go_at_call 11; refine (known_any _).mono ?_; rintro e w4 ⟨rfl, hb4⟩)
        | (go_at_call 17; refine (C5.out _).mono ?_; rintro e w5 ⟨rfl, hb5⟩)
        | (go_at_call 18; refine (C6.out _).mono ?_; rintro e w6 ⟨rfl, rfl⟩))
      go_ret
      exact ⟨rfl, hb4.trans (hb5.mono hb4.size)⟩
    · have C2 := Lib.hid (fun W => nodeName_yes W a ka kb)
      have c7 : ∀ W, Calls Try.prog 16 #[.string (one (65 + a))] W fun e w' => e = .returned (.int .i64 a) ∧ W = w' := fun W => by
        have h := refNode_any W (one (65 + a))
        rwa [sb_one (by omega) (by omega), node_one (by omega) (by omega), show (65 : Int) + a - 65 = a by omega] at h
      have C7 := Lib.hid c7
      clear c7
      go_enter Try.func5, Try.ntmps5
      go_wp2_with (first
        | (go_at_call 14; refine (C1.out _).mono ?_; rintro e w1 ⟨rfl, rfl⟩)
        | (go_at_call 15; refine (C2.out _).mono ?_; rintro e w2 ⟨rfl, rfl⟩)
        | (go_at_call 16; (with_reducible refine (C3.out _).mono ?_); rintro e w3 ⟨rfl, rfl⟩)
        | (go_at_call 16; (with_reducible refine (C7.out _).mono ?_); rintro e w7 ⟨rfl, rfl⟩)
        | (go_at_call 11; refine (known_any _).mono ?_; rintro e w4 ⟨rfl, hb4⟩)
        | (go_at_call 17; refine (C5.out _).mono ?_; rintro e w5 ⟨rfl, hb5⟩)
        | (go_at_call 18; refine (C6.out _).mono ?_; rintro e w6 ⟨rfl, rfl⟩))
      go_ret
      exact ⟨rfl, hb4.trans (hb5.mono hb4.size)⟩
  · have C1 := Lib.hid (fun W => node_any (x := c) (er := 0) W t (by omega) (.inl ⟨by rw [← HC.out]; exact k0, HC.out, rfl⟩))
    rcases (by omega : a < 0 ∨ 2 < a ∨ (0 ≤ a ∧ a ≤ 2)) with ka | ka | ⟨ka, kb⟩
    · have C2 := Lib.hid (fun W => nodeName_no W a (.inl ka))
      go_enter Try.func5, Try.ntmps5
      go_wp2_with (first
        | (go_at_call 14; refine (C1.out _).mono ?_; rintro e w1 ⟨rfl, rfl⟩)
        | (go_at_call 15; refine (C2.out _).mono ?_; rintro e w2 ⟨rfl, rfl⟩)
        | (go_at_call 16; (with_reducible refine (C3.out _).mono ?_); rintro e w3 ⟨rfl, rfl⟩)
        | (go_at_call 11; refine (known_any _).mono ?_; rintro e w4 ⟨rfl, hb4⟩)
        | (go_at_call 17; refine (C5.out _).mono ?_; rintro e w5 ⟨rfl, hb5⟩)
        | (go_at_call 18; refine (C6.out _).mono ?_; rintro e w6 ⟨rfl, rfl⟩))
      go_ret
      exact ⟨rfl, hb4.trans (hb5.mono hb4.size)⟩
    · have C2 := Lib.hid (fun W => nodeName_no W a (.inr ka))
      go_enter Try.func5, Try.ntmps5
      go_wp2_with (first
        | (go_at_call 14; refine (C1.out _).mono ?_; rintro e w1 ⟨rfl, rfl⟩)
        | (go_at_call 15; refine (C2.out _).mono ?_; rintro e w2 ⟨rfl, rfl⟩)
        | (go_at_call 16; (with_reducible refine (C3.out _).mono ?_); rintro e w3 ⟨rfl, rfl⟩)
        | (go_at_call 11; refine (known_any _).mono ?_; rintro e w4 ⟨rfl, hb4⟩)
        | (go_at_call 17; refine (C5.out _).mono ?_; rintro e w5 ⟨rfl, hb5⟩)
        | (go_at_call 18; refine (C6.out _).mono ?_; rintro e w6 ⟨rfl, rfl⟩))
      go_ret
      exact ⟨rfl, hb4.trans (hb5.mono hb4.size)⟩
    · have C2 := Lib.hid (fun W => nodeName_yes W a ka kb)
      have c7 : ∀ W, Calls Try.prog 16 #[.string (one (65 + a))] W fun e w' => e = .returned (.int .i64 a) ∧ W = w' := fun W => by
        have h := refNode_any W (one (65 + a))
        rwa [sb_one (by omega) (by omega), node_one (by omega) (by omega), show (65 : Int) + a - 65 = a by omega] at h
      have C7 := Lib.hid c7
      clear c7
      go_enter Try.func5, Try.ntmps5
      go_wp2_with (first
        | (go_at_call 14; refine (C1.out _).mono ?_; rintro e w1 ⟨rfl, rfl⟩)
        | (go_at_call 15; refine (C2.out _).mono ?_; rintro e w2 ⟨rfl, rfl⟩)
        | (go_at_call 16; (with_reducible refine (C3.out _).mono ?_); rintro e w3 ⟨rfl, rfl⟩)
        | (go_at_call 16; (with_reducible refine (C7.out _).mono ?_); rintro e w7 ⟨rfl, rfl⟩)
        | (go_at_call 11; refine (known_any _).mono ?_; rintro e w4 ⟨rfl, hb4⟩)
        | (go_at_call 17; refine (C5.out _).mono ?_; rintro e w5 ⟨rfl, hb5⟩)
        | (go_at_call 18; refine (C6.out _).mono ?_; rintro e w6 ⟨rfl, rfl⟩))
      go_ret
      exact ⟨rfl, hb4.trans (hb5.mono hb4.size)⟩
end Go.Proofs.Ytcidbmkmnlneiaa.Id
