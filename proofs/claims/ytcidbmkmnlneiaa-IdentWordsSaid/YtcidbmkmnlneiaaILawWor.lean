/-
  The law IdentWords answers true: its walk. Conditions: none.
-/
import Derived.Test.YtcidbmkmnlneiaaIRefWords
namespace Go.Proofs.Ytcidbmkmnlneiaa.Id
open Go.RowKit

theorem row_form {w : World} {base : Nat} {v : Value} {L : List ByteArray} (h : w.ownsRow base 9 1 v L.length (strV L)) :
    (L.length = 0 ∧ ∃ A c, v = .slice A 0 c) ∨ (0 < L.length ∧ ∃ g c, v = .slice (some ⟨g, 0, none⟩) L.length c ∧ g < w.heap.size ∧ StrRow w g L) := by
  rcases Nat.eq_zero_or_pos L.length with h0 | h0
  · refine .inl ⟨h0, ?_⟩
    rw [h0] at h
    rcases h.2 with ⟨rfl, _⟩ | ⟨g, cap, cur, rfl, _⟩
    · exact ⟨none, 0, rfl⟩
    · exact ⟨_, cap, rfl⟩
  · refine .inr ⟨h0, ?_⟩
    obtain ⟨g, cap, rfl, _, hlt⟩ := h.form h0
    refine ⟨g, cap, rfl, hlt, fun j hj => ?_⟩
    rw [h.cellAt j (by omega), strV, List.getElem?_map, List.getElem?_eq_getElem hj, List.getD_eq_getElem?_getD, List.getElem?_eq_getElem hj]
    rfl
theorem words_len (s : ByteArray) (hs : s.size ≤ 500) : (wordsOf s).length ≤ 501 := by
  have h1 := wst_le s s.size
  have h2 := cutW_len s (wst s s.size).1 s.size (wst s s.size).2
  unfold wordsOf
  omega

set_option maxRecDepth 100000 in
set_option maxHeartbeats 4000000 in
theorem law_words (w : World) (s0 : ByteArray) (hs0 : s0.size ≤ 9223372036854775807) :
    Calls Try.prog 7 #[.string s0] w fun e w' => e = .returned (.bool true) ∧ Below w.heap.size w w' := by
  obtain ⟨m, hm⟩ : ∃ m, m = min s0.size 500 := ⟨_, rfl⟩
  have n1 : m ≤ s0.size := by omega
  have n2 : m ≤ 500 := by omega
  have hsl := fun W => slice_to s0 m n1 W
  obtain ⟨t, ht⟩ : ∃ t, t = s0.extract 0 m := ⟨_, rfl⟩
  have htl : t.size ≤ 500 := by
    have h := sb_take s0 m
    rw [← sb_len, ht, h, List.length_take]
    omega
  rw [← ht] at hsl
  have hmin : (if (500 : Int) < (s0.size : Int) then 500 else (s0.size : Int)) = (m : Int) := by
    split <;> omega
  clear ht hm
  have c1 := fun W => words_any W t htl
  have c2 := fun W => refWords_any W t htl
  have hln := words_len t htl
  obtain ⟨L, hL⟩ : ∃ L, L = wordsOf t := ⟨_, rfl⟩
  rw [← hL] at c1 c2 hln
  have C1 := Lib.hid c1
  have C2 := Lib.hid c2
  clear hL c1 c2
  rcases Nat.eq_zero_or_pos L.length with h0 | h0
  · have c3 : ∀ W, Calls Try.prog 21 #[.string t] W fun e w' => ∃ A c, e = .returned (.slice A 0 c) ∧ Below W.heap.size W w' := fun W => by
      refine (C1.out W).mono ?_
      rintro e w' ⟨v, rfl, hr, hb⟩
      rcases row_form hr with ⟨_, A, c, rfl⟩ | ⟨h, _⟩
      · exact ⟨A, c, rfl, hb⟩
      · omega
    have c4 : ∀ W, Calls Try.prog 22 #[.string t] W fun e w' => ∃ A c, e = .returned (.slice A 0 c) ∧ Below W.heap.size W w' := fun W => by
      refine (C2.out W).mono ?_
      rintro e w' ⟨v, rfl, hr, hb⟩
      rcases row_form hr with ⟨_, A, c, rfl⟩ | ⟨h, _⟩
      · exact ⟨A, c, rfl, hb⟩
      · omega
    have C3 := Lib.hid c3
    have C4 := Lib.hid c4
    clear c3 c4 h0 hln C1 C2
    go_enter Try.func7, Try.ntmps7
    go_wp2_with (first
      | (go_at_call 21; refine (C3.out _).mono ?_; rintro e w1 ⟨A1, cp1, rfl, hb1⟩)
      | (go_at_call 22; refine (C4.out _).mono ?_; rintro e w2 ⟨A2, cp2, rfl, hb2⟩))
    refine wp_loop_rounds 1 ?_
    rw [rounds_succ]
    go_wp2_with (go_at_call 11; refine (known_any _).mono ?_; rintro e w3 ⟨rfl, hb3⟩)
    go_ret
    have k2 := hb1.trans (hb2.mono hb1.size)
    exact ⟨rfl, k2.trans (hb3.mono k2.size)⟩
  · obtain ⟨n, hn⟩ : ∃ n, n = L.length := ⟨_, rfl⟩
    have c3 : ∀ W, Calls Try.prog 21 #[.string t] W fun e w' => ∃ g c, e = .returned (.slice (some ⟨g, 0, none⟩) n c) ∧ Hid (g < w'.heap.size ∧ StrRow w' g L) ∧ Below W.heap.size W w' := fun W => by
      refine (C1.out W).mono ?_
      rintro e w' ⟨v, rfl, hr, hb⟩
      rcases row_form hr with ⟨h, _⟩ | ⟨_, g, c, rfl, h1, h2⟩
      · omega
      · exact ⟨g, c, by rw [hn], ⟨h1, h2⟩, hb⟩
    have c4 : ∀ W, Calls Try.prog 22 #[.string t] W fun e w' => ∃ g c, e = .returned (.slice (some ⟨g, 0, none⟩) n c) ∧ Hid (g < w'.heap.size ∧ StrRow w' g L) ∧ Below W.heap.size W w' := fun W => by
      refine (C2.out W).mono ?_
      rintro e w' ⟨v, rfl, hr, hb⟩
      rcases row_form hr with ⟨h, _⟩ | ⟨_, g, c, rfl, h1, h2⟩
      · omega
      · exact ⟨g, c, by rw [hn], ⟨h1, h2⟩, hb⟩
    have C3 := Lib.hid c3
    have C4 := Lib.hid c4
    have HN := Lib.hid hn
    have hn0 : 0 < n := by omega
    have hnl : n ≤ 501 := by omega
    clear c3 c4 h0 hln C1 C2 hn
    go_enter Try.func7, Try.ntmps7
    go_wp2_with (first
      | (go_at_call 21; refine (C3.out _).mono ?_; rintro e w1 ⟨g1, cp1, rfl, hr1, hb1⟩)
      | (go_at_call 22; refine (C4.out _).mono ?_; rintro e w2 ⟨g2, cp2, rfl, hr2, hb2⟩))
    have j0 : Hid (StrRow w2 g1 L ∧ StrRow w2 g2 L ∧ Below w.heap.size w w2) := ⟨hr1.out.2.below hb2 hr1.out.1, hr2.out.2, hb1.trans (hb2.mono hb1.size)⟩
    clear hr1 hr2 hb1 hb2 C3 C4
    go_loopg [5] n (fun (gh : Nat) si wx => ∃ k : Nat, gh = n - k ∧ k ≤ n ∧ si = .int .i64 (k : Int) ∧ Hid (StrRow wx g1 L ∧ StrRow wx g2 L ∧ Below w.heap.size w wx))
    case atStart => exact ⟨0, rfl, Nat.zero_le _, rfl, j0.out⟩
    case round =>
      obtain ⟨k, rfl, hk, rfl, hinv⟩ := hrel
      by_cases hlt : k < n
      · obtain ⟨u, hu⟩ : ∃ u, u = L.getD k ByteArray.empty := ⟨_, rfl⟩
        have hc1 := hinv.out.1 k (by rw [← HN.out]; exact hlt)
        have hc2 := hinv.out.2.1 k (by rw [← HN.out]; exact hlt)
        rw [← hu] at hc1 hc2
        have hnx : Hid (∀ q, StrRow (wr.drewN q) g1 L ∧ StrRow (wr.drewN q) g2 L ∧ Below w.heap.size w (wr.drewN q)) := fun q => ⟨hinv.out.1, hinv.out.2.1, below_drewN hinv.out.2.2 q⟩
        have hcmp : (u.toList != u.toList) = false := by simp
        clear hu hinv
        go_wp2_with fail
        go_quiet (fail)
        go_wp2
        go_roundg (n - (k + 1))
        case measure => omega
        case rel => exact ⟨k + 1, rfl, by omega, by go_num, hnx.out _⟩
      · obtain rfl : k = n := by omega
        have HB := Lib.hid hinv.out.2.2
        clear hinv
        go_wp2_with (go_at_call 11; refine (known_any _).mono ?_; rintro e w3 ⟨rfl, hb3⟩)
        go_ret
        exact ⟨rfl, HB.out.trans (hb3.mono HB.out.size)⟩
end Go.Proofs.Ytcidbmkmnlneiaa.Id
