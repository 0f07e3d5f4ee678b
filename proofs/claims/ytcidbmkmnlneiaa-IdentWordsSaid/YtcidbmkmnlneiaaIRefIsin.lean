/-
  The contract of the reference's Isin. Conditions: a text of at most 100000 bytes.
-/
import Derived.Test.YtcidbmkmnlneiaaIRef
namespace Go.Proofs.Ytcidbmkmnlneiaa.Id
open Go.RowKit

theorem rd_range (l : List Int) : -1 ≤ rdN l ∧ rdN l ≤ 9 := by
  unfold rdN
  have := chkD_range l
  split <;> omega

set_option maxRecDepth 100000 in
set_option maxHeartbeats 2000000 in
theorem refIsin_any (w : World) (s : ByteArray) (hs : s.size ≤ 100000) :
    Calls Try.prog 13 #[.string s] w fun e w' => e = .returned (.int .i64 (isinN (sb s))) ∧ Below w.heap.size w w' := by
  by_cases h12 : s.size = 12
  · have n12 : ((s.size : Int) != 12) = false := by simp; omega
    have s0 : 12 ≤ s.size := by omega
    have s1 : s.size ≤ 12 := by omega
    have hlt : 11 < s.size := by omega
    have H12 := Lib.hid h12
    have hsl := fun W => slice_11 s (by omega) W
    obtain ⟨t, ht⟩ : ∃ t, t = s.extract 0 11 := ⟨_, rfl⟩
    have htb : sb t = (sb s).take 11 := by rw [ht]; exact sb_take s 11
    rw [← ht] at hsl
    have htl : t.size = 11 := by rw [← sb_len, htb, List.length_take, sb_len]; omega
    have htl' : t.size ≤ 100000 := by omega
    have hcr := sb_range s 11
    obtain ⟨c, hc⟩ : ∃ c, c = (sb s).getD 11 0 := ⟨_, rfl⟩
    have hget : ((s[11]'hlt).toNat : Int) = c := by rw [hc]; exact sb_get s 11 hlt
    rw [← hc] at hcr
    obtain ⟨c0, c1⟩ := hcr
    have HTB := Lib.hid htb
    have HCB := Lib.hid hc
    clear ht htb htl h12 hc
    obtain ⟨q, hq⟩ : ∃ q, q = dgB c := ⟨_, rfl⟩
    obtain ⟨x, hx⟩ : ∃ x, x = rdN (sb t) := ⟨_, rfl⟩
    have hxr := rd_range (sb t)
    have cg : ∀ w, Calls Try.prog 10 #[.string t] w fun e w' => e = .returned (.int .i64 x) ∧ Below w.heap.size w w' := fun w => by
      rw [hx]; exact refDigit_any w t htl'
    rw [← hx] at hxr
    obtain ⟨x0, x1⟩ := hxr
    have cq : ∀ w, Calls Try.prog 26 #[.int .u8 c] w fun e w' => e = .returned (.bool q) ∧ w = w' := fun w => by
      rw [hq]; exact digit_any c w c0 c1
    have CG := Lib.hid cg
    have CQ := Lib.hid cq
    have HX := Lib.hid hx
    have HQ := Lib.hid hq
    clear cg cq hq hx
    cases q
    · have hres : Hid (isinN (sb s) = 3) := isin_digit (by rw [← HCB.out]; exact HQ.out.symm)
      go_enter Try.func13, Try.ntmps13
      go_wp2_with (go_at_call 26; refine (CQ.out _).mono ?_; rintro e w' ⟨rfl, rfl⟩)
      go_ret
      exact ⟨ret_int hres.out.symm, Below.refl _ _⟩
    · by_cases hxn : x < 0
      · have hres : Hid (isinN (sb s) = 3) := isin_head (by
          rw [← HTB.out]
          cases hh : headB (sb t)
          · rfl
          · have e := HX.out
            rw [rd_yes hh] at e
            have := chkD_range (sb t)
            omega)
        go_enter Try.func13, Try.ntmps13
        go_wp2_with (first
          | (go_at_call 10; refine (CG.out _).mono ?_; rintro e w1 ⟨rfl, hb1⟩)
          | (go_at_call 26; refine (CQ.out _).mono ?_; rintro e w' ⟨rfl, rfl⟩))
        go_ret
        exact ⟨ret_int hres.out.symm, hb1⟩
      · have hh : headB (sb t) = true := by
          cases hh : headB (sb t)
          · have e := HX.out
            rw [rd_no hh] at e
            omega
          · rfl
        obtain ⟨b, hb⟩ : ∃ b, b = (x != c - 48) := ⟨_, rfl⟩
        have hres : Hid (isinN (sb s) = if b then 11 else 0) := by
          show _ = _
          rw [isin_sum (by rw [sb_len]; exact H12.out) (by rw [← HTB.out]; exact hh) (by rw [← HCB.out]; exact HQ.out.symm), ← HCB.out, ← HTB.out]
          have e := HX.out
          rw [rd_yes hh] at e
          rw [← e, hb]
          by_cases e2 : c = 48 + x
          · have : x = c - 48 := by omega
            rw [if_pos e2, ← this]; simp
          · have : (x != c - 48) = true := by simp; omega
            rw [if_neg e2, this]; rfl
        have HB := Lib.hid hb
        clear hb hh
        have x0' : 0 ≤ x := by omega
        go_enter Try.func13, Try.ntmps13
        go_wp2_with (first
          | (go_at_call 10; refine (CG.out _).mono ?_; rintro e w1 ⟨rfl, hb1⟩)
          | (go_at_call 26; refine (CQ.out _).mono ?_; rintro e w' ⟨rfl, rfl⟩))
        have S0 : w.heap.size ≤ w1.heap.size := hb1.size
        have ec : IntKind.i64.wrap c = c := IntWalk.i64_in _ (by omega)
        have e48 : IntKind.i64.wrap (c - 48) = c - 48 := IntWalk.i64_in _ (by omega)
        go_region_held3 (fun w' => w.heap.size ≤ w'.heap.size) (first | assumption | (simp [go_sem]; done))
          (first
            | (go_at_call 10; refine (CG.out _).mono ?_; rintro e w2 ⟨rfl, hb2⟩; have hw2 : w.heap.size ≤ w2.heap.size := Nat.le_trans S0 hb2.size))
        all_goals
          try rw [ec]
          try rw [e48]
          rw [← HB.out]
          have hb3 : Below w.heap.size w w2 := (below_drewN hb1 1).trans (hb2.mono hb1.size)
          clear e48 ec
          cases b
          · go_wp2
            go_ret
            exact ⟨ret_int (by rw [hres.out]; rfl), hb3⟩
          · go_wp2
            go_ret
            exact ⟨ret_int (by rw [hres.out]; rfl), hb3⟩
  · have h : Hid (isinN (sb s) = 3) := isin_len (by rw [sb_len]; exact h12)
    have h12' : ((s.size : Int) != 12) = true := by simp; omega
    clear h12
    go_enter Try.func13, Try.ntmps13
    go_wp2
    go_ret
    exact ⟨ret_int h.out.symm, Below.refl _ _⟩
end Go.Proofs.Ytcidbmkmnlneiaa.Id
