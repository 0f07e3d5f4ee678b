/-
  The contract of ident's headed: has a text the form of an ISIN's first 11 bytes? Conditions: a text that fits memory.
-/
import Derived.Test.YtcidbmkmnlneiaaIBase
namespace Go.Proofs.Ytcidbmkmnlneiaa.Id
open Go.RowKit

theorem head_no_len {l : List Int} (h : l.length ≠ 11) : headB l = false := by
  cases hh : headB l
  · rfl
  · exact absurd (headB_len hh) h
theorem head_no_at {l : List Int} {k : Nat} (hk : k < 11) (h : okAt l k = false) : headB l = false := by
  cases hh : headB l
  · rfl
  · rw [((headB_iff l).1 hh).2 k hk] at h; cases h

set_option maxRecDepth 100000 in
set_option maxHeartbeats 1000000 in
theorem headed_any (w : World) (s : ByteArray) (hs : s.size ≤ 100000) :
    Calls Try.prog 23 #[.string s] w fun e w' => e = .returned (.bool (headB (sb s))) ∧ Below w.heap.size w w' := by
  by_cases h11 : s.size = 11
  · obtain ⟨cv, cw, hcv, hcp⟩ := str_bytes s
    have HCP := Lib.hid (hcp w)
    have H11 := Lib.hid h11
    have h11a : s.size ≤ 11 := by omega
    have h11b : 11 ≤ s.size := by omega
    have n11 : ((s.size : Int) != 11) = false := by simp; omega
    clear hcp h11
    go_enter Try.func23, Try.ntmps23
    go_wp2
    obtain ⟨W0, hW0⟩ : ∃ W0, W0 = cw w := ⟨_, rfl⟩
    rw [← hW0] at HCP ⊢
    clear hW0 hcv
    go_loopg [11] s.size (fun (g : Nat) si wx => W0 = wx ∧ ∃ k : Nat, g = s.size - k ∧ k ≤ s.size ∧ si = .int .i64 (k : Int) ∧ Hid (∀ i, i < k → okAt (sb s) i = true))
    case atStart => exact ⟨rfl, 0, rfl, Nat.zero_le _, rfl, fun i hi => by omega⟩
    case round =>
      obtain ⟨rfl, k, rfl, hk, rfl, hall⟩ := hrel
      by_cases hlt : k < s.size
      · obtain ⟨d, hd⟩ : ∃ d, d = (sb s).getD k 0 := ⟨_, rfl⟩
        have hc := HCP.out.2.2 k hlt
        have hr := sb_range s k
        rw [← hd] at hc hr
        obtain ⟨r0, r1⟩ := hr
        have HD := Lib.hid hd
        clear hd
        obtain ⟨g, hg⟩ : ∃ g, g = grB d := ⟨_, rfl⟩
        obtain ⟨q, hq⟩ : ∃ q, q = dgB d := ⟨_, rfl⟩
        have cg : ∀ w, Calls Try.prog 30 #[.int .u8 d] w fun e w' => e = .returned (.bool g) ∧ w = w' := fun w => by
          rw [hg]; exact isGreat_any d w r0 r1
        have cq : ∀ w, Calls Try.prog 27 #[.int .u8 d] w fun e w' => e = .returned (.bool q) ∧ w = w' := fun w => by
          rw [hq]; exact isDigit_any d w r0 r1
        have CG := Lib.hid cg
        have CQ := Lib.hid cq
        have hok : Hid (okAt (sb s) k = (g || (decide (2 ≤ k) && q))) := by
          show _ = _
          unfold okAt
          rw [← HD.out, hg, hq]
        clear cg cq hg hq
        have hbad : Hid (g = false → (k < 2 ∨ q = false) → headB (sb s) = false) := by
          intro e1 e2
          refine head_no_at (k := k) (by omega) ?_
          rw [hok.out, e1]
          rcases e2 with e2 | e2
          · rw [decide_eq_false (by omega)]; rfl
          · rw [e2]; simp
        have hgood : Hid ((g = true ∨ (2 ≤ k ∧ q = true)) → ∀ i, i < k + 1 → okAt (sb s) i = true) := by
          intro e i hi
          rcases Nat.lt_or_ge i k with h | h
          · exact hall.out i h
          · have : i = k := by omega
            subst this
            rw [hok.out]
            rcases e with e | ⟨e1, e2⟩
            · rw [e]; rfl
            · rw [e2, decide_eq_true e1]; simp
        cases g
        · by_cases h2 : k < 2
          · go_wp2_with (first | (go_at_call 30; refine (CG.out _).mono ?_; rintro e w' ⟨rfl, rfl⟩) | (go_at_call 27; refine (CQ.out _).mono ?_; rintro e w' ⟨rfl, rfl⟩))
            go_ret
            exact ⟨ret_bool (hbad.out (by trivial) (.inl h2)).symm, HCP.out.1⟩
          · have h2' : 2 ≤ k := by omega
            cases q
            · go_wp2_with (first | (go_at_call 30; refine (CG.out _).mono ?_; rintro e w' ⟨rfl, rfl⟩) | (go_at_call 27; refine (CQ.out _).mono ?_; rintro e w' ⟨rfl, rfl⟩))
              go_ret
              exact ⟨ret_bool (hbad.out (by trivial) (.inr (by trivial))).symm, HCP.out.1⟩
            · go_wp2_with (first | (go_at_call 30; refine (CG.out _).mono ?_; rintro e w' ⟨rfl, rfl⟩) | (go_at_call 27; refine (CQ.out _).mono ?_; rintro e w' ⟨rfl, rfl⟩))
              go_roundg (s.size - (k + 1))
              case measure => omega
              case rel => exact ⟨rfl, k + 1, rfl, by omega, by go_num, hgood.out (.inr ⟨h2', by trivial⟩)⟩
        · go_wp2_with (first | (go_at_call 30; refine (CG.out _).mono ?_; rintro e w' ⟨rfl, rfl⟩) | (go_at_call 27; refine (CQ.out _).mono ?_; rintro e w' ⟨rfl, rfl⟩))
          go_roundg (s.size - (k + 1))
          case measure => omega
          case rel => exact ⟨rfl, k + 1, rfl, by omega, by go_num, hgood.out (.inl (by trivial))⟩
      · have hks : k = s.size := by omega
        have hgood : Hid (headB (sb s) = true) := (headB_iff _).2 ⟨by rw [sb_len]; exact H11.out, fun i hi => hall.out i (by omega)⟩
        clear hks
        go_wp2
        go_ret
        exact ⟨ret_bool hgood.out.symm, HCP.out.1⟩
  · have h : Hid (headB (sb s) = false) := head_no_len (by rw [sb_len]; exact h11)
    have h11' : ((s.size : Int) == 11) = false := by simp; omega
    have h12' : ((s.size : Int) != 11) = true := by simp; omega
    clear h11
    go_enter Try.func23, Try.ntmps23
    go_wp2
    go_ret
    exact ⟨ret_bool h.out.symm, Below.refl _ _⟩
end Go.Proofs.Ytcidbmkmnlneiaa.Id
