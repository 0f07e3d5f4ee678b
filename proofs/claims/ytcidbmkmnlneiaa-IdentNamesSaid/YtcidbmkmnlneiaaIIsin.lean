/-
  The contract of ident's Isin. Conditions: a text of at most 100000 bytes.
-/
import Derived.Deep.RegionHeld3
import Derived.Test.YtcidbmkmnlneiaaIMake
namespace Go.Proofs.Ytcidbmkmnlneiaa.Id
open Go.RowKit

theorem isin_len {l : List Int} (h : l.length ≠ 12) : isinN l = 3 := by unfold isinN; rw [if_neg (fun k => h k.1)]
theorem isin_head {l : List Int} (h : headB (l.take 11) = false) : isinN l = 3 := by unfold isinN; rw [if_neg (fun k => by rw [h] at k; cases k.2.1)]
theorem isin_digit {l : List Int} (h : dgB (l.getD 11 0) = false) : isinN l = 3 := by unfold isinN; rw [if_neg (fun k => by rw [h] at k; cases k.2.2)]
theorem isin_sum {l : List Int} (h0 : l.length = 12) (h1 : headB (l.take 11) = true) (h2 : dgB (l.getD 11 0) = true) : isinN l = if l.getD 11 0 = 48 + chkD (l.take 11) then 0 else 11 := by unfold isinN; rw [if_pos ⟨h0, h1, h2⟩]

theorem slice_11 (s : ByteArray) (h : 11 ≤ s.size) (w : World) : (Instr.slice 9 (.string s) none (some (.int .i64 11)) none).run Try.prog w = .ok (.string (s.extract 0 11)) w := slice_to s 11 h w

set_option maxRecDepth 100000 in
set_option maxHeartbeats 2000000 in
theorem isin_any (w : World) (s : ByteArray) (hs : s.size ≤ 100000) :
    Calls Try.prog 12 #[.string s] w fun e w' => e = .returned (.int .i64 (isinN (sb s))) ∧ Below w.heap.size w w' := by
  by_cases h12 : s.size = 12
  · have n12 : ((s.size : Int) != 12) = false := by simp; omega
    have s0 : 12 ≤ s.size := by omega
    have s1 : s.size ≤ 12 := by omega
    have hlt : 11 < s.size := by omega
    have H12 := Lib.hid h12
    have hsl := fun W => slice_11 s (by omega) W
    obtain ⟨t, ht⟩ : ∃ t, t = s.extract 0 11 := ⟨_, rfl⟩
    have htb : sb t = (sb s).take 11 := by rw [ht]; exact sb_take s 11
    rw [← ht] at hsl
    have htl : t.size = 11 := by rw [← sb_len, htb, List.length_take, sb_len]; omega
    have htl' : t.size ≤ 100000 := by omega
    obtain ⟨c, hc⟩ : ∃ c, c = ((s[11]'hlt).toNat : Int) := ⟨_, rfl⟩
    have hcb : c = (sb s).getD 11 0 := by rw [hc]; exact sb_get s 11 (by omega)
    have hcr := sb_range s 11
    rw [← hcb] at hcr
    obtain ⟨c0, c1⟩ := hcr
    have HTB := Lib.hid htb
    have HCB := Lib.hid hcb
    have HC := Lib.hid hc
    clear ht htb htl h12 hcb
    obtain ⟨g, hg⟩ : ∃ g, g = headB (sb t) := ⟨_, rfl⟩
    obtain ⟨q, hq⟩ : ∃ q, q = dgB c := ⟨_, rfl⟩
    have cg : ∀ w, Calls Try.prog 23 #[.string t] w fun e w' => e = .returned (.bool g) ∧ Below w.heap.size w w' := fun w => by
      rw [hg]; exact headed_any w t htl'
    have cq : ∀ w, Calls Try.prog 27 #[.int .u8 ((s[11]'hlt).toNat : Int)] w fun e w' => e = .returned (.bool q) ∧ w = w' := fun w => by
      rw [hq, ← hc]; exact isDigit_any c w c0 c1
    have CG := Lib.hid cg
    have CQ := Lib.hid cq
    have HG := Lib.hid hg
    have HQ := Lib.hid hq
    clear cg cq hg hq hc
    cases g
    · have hres : Hid (isinN (sb s) = 3) := isin_head (by rw [← HTB.out]; exact HG.out.symm)
      go_enter Try.func12, Try.ntmps12
      go_wp2_with (go_at_call 23; refine (CG.out _).mono ?_; rintro e w1 ⟨rfl, hb1⟩)
      go_ret
      exact ⟨ret_int hres.out.symm, hb1⟩
    · cases q
      · have hres : Hid (isinN (sb s) = 3) := isin_digit (by rw [← HCB.out]; exact HQ.out.symm)
        go_enter Try.func12, Try.ntmps12
        go_wp2_with (first | (go_at_call 23; refine (CG.out _).mono ?_; rintro e w1 ⟨rfl, hb1⟩) | (go_at_call 27; refine (CQ.out _).mono ?_; rintro e w' ⟨rfl, rfl⟩))
        go_ret
        exact ⟨ret_int hres.out.symm, hb1⟩
      · have hres : Hid (isinN (sb s) = if c = 48 + chkD (sb t) then 0 else 11) := by
          show _ = _
          rw [isin_sum (by rw [sb_len]; exact H12.out) (by rw [← HTB.out]; exact HG.out.symm) (by rw [← HCB.out]; exact HQ.out.symm), ← HCB.out, ← HTB.out]
        have cc : ∀ w, Calls Try.prog 24 #[.string t] w fun e w' => e = .returned (.int .u8 (48 + chkD (sb t))) ∧ Below w.heap.size w w' := fun w => check_any w t HG.out.symm
        have hr := chkD_range (sb t)
        obtain ⟨x, hx⟩ : ∃ x, x = 48 + chkD (sb t) := ⟨_, rfl⟩
        rw [← hx] at cc hres
        have CC := Lib.hid cc
        have hc := HC.out
        obtain ⟨b, hb⟩ : ∃ b, b = (((s[11]'hlt).toNat : Int) != x) := ⟨_, rfl⟩
        have hres2 : Hid (isinN (sb s) = if b then 11 else 0) := by
          show _ = _
          rw [hres.out, hb, ← hc]
          by_cases e : c = x
          · simp [e]
          · simp [e]
        have HB := Lib.hid hb
        clear cc hc hx hr hb
        go_enter Try.func12, Try.ntmps12
        go_wp2_with (first | (go_at_call 23; refine (CG.out _).mono ?_; rintro e w1 ⟨rfl, hb1⟩) | (go_at_call 27; refine (CQ.out _).mono ?_; rintro e w' ⟨rfl, rfl⟩))
        have S0 : w.heap.size ≤ w1.heap.size := hb1.size
        go_region_held3 (fun w' => w.heap.size ≤ w'.heap.size) (first | assumption | (simp [go_sem]; done))
          (first
            | (go_at_call 24; refine (CC.out _).mono ?_; rintro e w2 ⟨rfl, hb2⟩; have hw2 : w.heap.size ≤ w2.heap.size := Nat.le_trans S0 hb2.size))
        all_goals
          rw [← HB.out]
          have hb3 : Below w.heap.size w w2 := (below_drewN hb1 1).trans (hb2.mono hb1.size)
          cases b
          · go_wp2
            go_ret
            exact ⟨ret_int (by rw [hres2.out]; rfl), hb3⟩
          · go_wp2
            go_ret
            exact ⟨ret_int (by rw [hres2.out]; rfl), hb3⟩
  · have h : Hid (isinN (sb s) = 3) := isin_len (by rw [sb_len]; exact h12)
    have h12' : ((s.size : Int) != 12) = true := by simp; omega
    clear h12
    go_enter Try.func12, Try.ntmps12
    go_wp2
    go_ret
    exact ⟨ret_int h.out.symm, Below.refl _ _⟩
end Go.Proofs.Ytcidbmkmnlneiaa.Id
