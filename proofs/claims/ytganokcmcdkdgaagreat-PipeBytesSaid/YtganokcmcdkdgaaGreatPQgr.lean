/-
  The reference's groups. Conditions: at most two million bytes.
-/
import Derived.Test.YtganokcmcdkdgaaGreatPZ13
namespace Go.Proofs.YtganokcmcdkdgaaGreat.Sp
open Go.RowKit Fr
attribute [local go_sem] Oper.semAt_some

set_option maxRecDepth 100000 in
set_option maxHeartbeats 8000000 in
theorem qgroups_any {w : World} {b m : Nat} {D : List Int} (h : Qd w b m 0 D) :
    Calls Tryz.prog 59 #[.pointer (some ⟨b, 0, none⟩), .int .i64 (m : Int)] w fun e w' => e = .returned (.int .u64 ((Oc.rg (D.drop m)).2.1 : Int)) ∧ QTo b w (if (Oc.rg (D.drop m)).1 = 0 then D.length - (Oc.rg (D.drop m)).2.2.length else m) (Oc.rg (D.drop m)).1 D w' := by
  obtain ⟨F, hF⟩ : ∃ F, F = Oc.rg (D.drop m) := ⟨_, rfl⟩
  rw [← hF]
  have HF := Lib.hid hF
  have HH := Lib.hid h
  obtain ⟨A, n, c, h1, h2, h3, h4, h5, h6⟩ := h
  have hln := h2.len
  obtain ⟨⟨c0, c1, c2⟩, _⟩ := three h1
  have HBA := Lib.hid h2
  have HBK := Lib.hid h4
  have HM : Hid (m ≤ D.length ∧ D.length = n ∧ n ≤ 2000000 ∧ n ≤ c) := ⟨h6, hln.1, by omega, hln.2⟩
  have HB0 : Hid (b < w.heap.size) := (Array.getElem?_eq_some_iff.1 h1).1
  have HC := Lib.hid (And.intro c0 (And.intro c1 c2))
  have hI0 : QI D m 0 0 := ⟨by rw [Nat.add_zero]; rfl, by decide⟩
  have HI0 := Lib.hid hI0
  clear hF h1 h2 h3 h4 h5 h6 hln hI0
  go_enter Tryz.func59, Tryz.ntmps59
  go_wp2
  clear c0 c1 c2
  go_loopg [5, 6, 7] 10 (fun (gh : Nat) s5 s6 s7 wx => ∃ (i acc P : Nat), gh = 10 - i ∧ i ≤ 9 ∧ s5 = .int .u64 (acc : Int) ∧ s6 = .int .u64 (P : Int) ∧ s7 = .int .i64 (i : Int) ∧ Hid (P = 128 ^ i) ∧ Hid (QI D m i acc) ∧ Hid (Below w.heap.size w wx))
  case atStart => exact ⟨0, 0, 1, rfl, by decide, rfl, rfl, rfl, rfl, HI0.out, Below.refl _ _⟩
  case round =>
    obtain ⟨i, acc, P, rfl, hi, rfl, rfl, rfl, HP, HQ, HB⟩ := hrel
    have fz : wr.frozen? ⟨b, 1, none⟩ = false := by
      obtain ⟨_, _, _, h1, _⟩ := HH.out.below HB.out
      exact (three h1).2.2.1
    have c0 : wr.cell? ⟨b, 0, none⟩ = some (.slice A n c) := (HB.out.cell (p := ⟨b, 0, none⟩) HB0.out).trans HC.out.1
    have c1 : wr.cell? ⟨b, 1, none⟩ = some (.int .i64 (m : Int)) := (HB.out.cell (p := ⟨b, 1, none⟩) HB0.out).trans HC.out.2.1
    have c2 : wr.cell? ⟨b, 2, none⟩ = some (.int .i64 0) := (HB.out.cell (p := ⟨b, 2, none⟩) HB0.out).trans HC.out.2.2
    obtain ⟨s, hs⟩ : ∃ s, s = m + i := ⟨_, rfl⟩
    have hw1 : IntKind.i64.wrap ((m : Int) + (i : Int)) = (s : Int) := by have := HM.out; rw [IntKind.wrap_i64]; omega
    have HS := Lib.hid hs
    have HDN : Hid (∀ nq, Qd (wr.drewN nq) b m 0 D ∧ w.grownBy (wr.drewN nq) (some b)) := Lib.hid (fun nq => ⟨HH.out.below (Oc.below_drewN HB.out nq), grownBy_of_below _ (Oc.below_drewN HB.out nq)⟩)
    by_cases t1 : (n : Int) ≤ (s : Int)
    · have hFe : F = (12, 0, []) := by
        have h7 := HQ.out.eq
        have h8 : D.drop (m + i) = [] := List.drop_eq_nil_of_le (by have := HM.out; omega)
        rw [h8, ← HF.out, show 10 - i = (9 - i) + 1 by omega, Oc.rgF_end] at h7
        exact h7.symm
      subst hFe
      clear hs
      go_wp2_with fail
      go_quiet (fail)
      go_wp2_with (go_at_call 58; (with_reducible refine (qfail_yes (HDN.out _).1 12 m HM.out.1).mono ?_); rintro e w3 ⟨rfl, hq3⟩; have HQ3 := Lib.hid (QTo.trans (HDN.out _).2 hq3); clear hq3)
      go_ret
      exact ⟨rfl, HQ3.out⟩
    · have hlt : s < n := by omega
      have t0 : (0 : Int) ≤ (s : Int) := by omega
      have t2 : (s : Int) < (n : Int) := by omega
      obtain ⟨x, hx⟩ : ∃ x, x = D.getD s 0 := ⟨_, rfl⟩
      have hlen : s < D.length := by have := HM.out; omega
      have hdr : D.drop (m + i) = x :: D.drop (m + i + 1) := by
        rw [← hs, List.drop_eq_getElem_cons hlen, hx]
        simp [List.getD, List.getElem?_eq_getElem hlen]
      have hxb : 0 ≤ x ∧ x < 256 := by
        have e : x = D[s] := by rw [hx]; simp [List.getD, List.getElem?_eq_getElem hlen]
        rw [e]; exact HBK.out _ (List.getElem_mem hlen)
      obtain ⟨A', cp, eA, _, hcl⟩ := id HBA.out
      simp only [Value.slice.injEq] at eA
      obtain ⟨rfl, _, _⟩ := eA
      obtain ⟨g, o, rfl, hg, hcell⟩ := hcl (by omega)
      have cx : wr.cell? ⟨g, o + s, none⟩ = some (.int .u8 x) := by rw [hx]; exact (HB.out.cell (p := ⟨g, o + s, none⟩) hg).trans (hcell s hlen)
      have hE := HQ.out.eq
      rw [hdr, ← HF.out] at hE
      obtain ⟨r, hr⟩ : ∃ r, r = D.drop (m + i + 1) := ⟨_, rfl⟩
      rw [← hr] at hE
      have HE := Lib.hid hE
      have HR : Hid (r = D.drop (m + i + 1) ∧ D.length - r.length = s + 1) := ⟨hr, by rw [hr, List.length_drop]; omega⟩
      obtain ⟨x0, x1⟩ := hxb
      clear hcl hcell hdr hx hE hr hs
      go_wp2_with fail
      go_quiet (fail)
      go_wp2_with fail
      go_quiet (fail)
      obtain ⟨y, hy⟩ : ∃ y, y = (x % 128).toNat := ⟨_, rfl⟩
      have hwA : x.tmod 128 = (y : Int) := by rw [Int.tmod_eq_emod_of_nonneg x0]; omega
      have hy1 : y ≤ 127 := by omega
      have hP9 := pow_le hi
      rw [← HP.out] at hP9
      have hacc : acc < P := by have := HQ.out.lt; rw [← HP.out] at this; exact this
      obtain ⟨z, hz⟩ : ∃ z, z = y * P := ⟨_, rfl⟩
      have hP8 : i < 9 → P ≤ 72057594037927936 := fun h => by
        rw [HP.out]
        have : (128 : Nat) ^ i ≤ 128 ^ 8 := Nat.pow_le_pow_right (by decide) (by omega)
        have e8 : (128 : Nat) ^ 8 = 72057594037927936 := by decide
        omega
      by_cases hbad : i = 9 ∧ 1 < x
      · obtain ⟨rfl, tx⟩ := hbad
        have hFe : F.1 = 3 ∧ F.2.1 = 0 := by
          rw [← HE.out]
          by_cases h128 : 128 ≤ x
          · rw [Oc.rgF_more h128]; exact ⟨rfl, rfl⟩
          · rw [Oc.rgF_bad (by omega) (.inr ⟨rfl, by omega⟩)]; exact ⟨rfl, rfl⟩
        obtain ⟨f1, f2, f3⟩ := F
        obtain ⟨rfl, rfl⟩ := hFe
        clear hy hz hP8
        go_wp2_with (go_at_call 58; (with_reducible refine (qfail_yes (HDN.out _).1 3 m HM.out.1).mono ?_); rintro e w3 ⟨rfl, hq3⟩; have HQ3 := Lib.hid (QTo.trans (HDN.out _).2 hq3); clear hq3)
        go_ret
        exact ⟨rfl, HQ3.out⟩
      · have hz2 : z < 9223372036854775809 := by
          rw [hz]
          by_cases h9 : i = 9
          · have hy2 : y ≤ 1 := by omega
            have := Nat.mul_le_mul_right P hy2
            omega
          · have h8 := hP8 (by omega)
            have := Nat.mul_le_mul_right P hy1
            omega
        have hwB : IntKind.u64.wrap (y : Int) = (y : Int) := by rw [IntKind.wrap_u64]; omega
        have hwC : IntKind.u64.wrap ((y : Int) * (P : Int)) = (z : Int) := by rw [← Int.natCast_mul, ← hz, IntKind.wrap_u64]; omega
        obtain ⟨acc2, hacc2⟩ : ∃ a, a = acc + z := ⟨_, rfl⟩
        have hwD : IntKind.u64.wrap ((acc : Int) + (z : Int)) = (acc2 : Int) := by rw [IntKind.wrap_u64]; omega
        obtain ⟨P2, hP2⟩ : ∃ a, a = P * 128 % 18446744073709551616 := ⟨_, rfl⟩
        have hwE : IntKind.u64.wrap ((P : Int) * 128) = (P2 : Int) := by rw [IntKind.wrap_u64]; omega
        obtain ⟨s2, hs2⟩ : ∃ a, a = s + 1 := ⟨_, rfl⟩
        have hwF : IntKind.i64.wrap ((s : Int) + 1) = (s2 : Int) := by have := HM.out; rw [IntKind.wrap_i64]; omega
        have HV : Hid (y = (x % 128).toNat ∧ z = y * P ∧ acc2 = acc + z ∧ P2 = P * 128 % 18446744073709551616 ∧ s2 = s + 1 ∧ (i < 9 → P ≤ 72057594037927936) ∧ y ≤ 127 ∧ acc < P) := ⟨hy, hz, hacc2, hP2, hs2, hP8, hy1, hacc⟩
        clear hy hz hz2 hacc2 hP2 hs2 hP8 hy1 hacc hP9
        have t9 : ((i : Int) = 9 ∧ ¬ (1 : Int) < x) ∨ ¬ (i : Int) = 9 := by omega
        by_cases h128 : x < 128
        · by_cases hz0 : x = 0 ∧ 0 < i
          · obtain ⟨rfl, hip⟩ := hz0
            have t4 : (0 : Int) < (i : Int) := by omega
            have hFe : F.1 = 3 ∧ F.2.1 = 0 := by
              rw [← HE.out, show 10 - i = (9 - i) + 1 by omega, Oc.rgF_bad (by omega) (.inl ⟨hip, rfl⟩)]; exact ⟨rfl, rfl⟩
            obtain ⟨f1, f2, f3⟩ := F
            obtain ⟨rfl, rfl⟩ := hFe
            rcases t9 with ⟨t5, t6⟩ | t5
            all_goals
              go_wp2_with (go_at_call 58; (with_reducible refine (qfail_yes (HDN.out _).1 3 m HM.out.1).mono ?_); rintro e w3 ⟨rfl, hq3⟩; have HQ3 := Lib.hid (QTo.trans (HDN.out _).2 hq3); clear hq3)
              go_ret
              exact ⟨rfl, HQ3.out⟩
          · have hFe : F = (0, acc2, r) := by
              rw [← HE.out, show 10 - i = (9 - i) + 1 by omega, Oc.rgF_good h128 (by omega)]
              have e1 : x.toNat = y := by have := HV.out.1; omega
              rw [e1, ← HP.out, ← HV.out.2.1, ← HV.out.2.2.1]
            subst hFe
            have hs3 : D.length - r.length = s2 := by have := HR.out.2; have := HV.out.2.2.2.2.1; omega
            have HS3 : Hid (D.length - r.length = s2 ∧ s2 ≤ D.length) := ⟨hs3, by omega⟩
            have t9' : ((i : Int) = 9 ∧ ¬ (1 : Int) < x ∧ IntKind.i64.wrap ((m : Int) + 9) = (s : Int) ∧ ¬ x = 0) ∨ (¬ (i : Int) = 9 ∧ ¬ x = 0) ∨ (x = 0 ∧ i = 0) := by
              by_cases hx0 : x = 0
              · exact .inr (.inr ⟨hx0, by omega⟩)
              · rcases t9 with ⟨a, b⟩ | a
                · exact .inl ⟨a, b, by rw [← a]; exact hw1, hx0⟩
                · exact .inr (.inl ⟨a, hx0⟩)
            have hwG : x = 0 → IntKind.u64.wrap (acc : Int) = (acc2 : Int) := fun e => by
              have hv := HV.out
              have e1 : y = 0 := by rw [hv.1, e]; rfl
              have e2 : z = 0 := by rw [hv.2.1, e1, Nat.zero_mul]
              have e3 : acc2 = acc := by rw [hv.2.2.1, e2]; rfl
              rw [e2, ← e3] at hwD
              rw [← e3]
              simpa using hwD
            have hw00 : i = 0 → IntKind.i64.wrap (m : Int) = (s : Int) := fun e => by
              have h8 := hw1
              rw [e] at h8
              simpa using h8
            clear t9 hs3 hz0
            rcases t9' with ⟨t5, t6, hw9, t7⟩ | ⟨t5, t7⟩ | ⟨t7, t8⟩
            rotate_left 2
            · have hwG0 := hwG t7
              have hw01 := hw00 t8
              subst t7 t8
              clear hwG hw00
              go_wp2
              go_ret
              exact ⟨rfl, by rw [HS3.out.1]; exact ⟨((HDN.out _).1.set1 s2 HS3.out.2).1, grownBy_trans (HDN.out _).2 ((HDN.out _).1.set1 s2 HS3.out.2).2⟩⟩
            all_goals clear hwG hw00
            all_goals
              go_wp2
              go_ret
              exact ⟨rfl, by rw [HS3.out.1]; exact ⟨((HDN.out _).1.set1 s2 HS3.out.2).1, grownBy_trans (HDN.out _).2 ((HDN.out _).1.set1 s2 HS3.out.2).2⟩⟩
        · have hi9 : i < 9 := by omega
          have t5 : ¬ (i : Int) = 9 := by omega
          have HNX : Hid (P2 = 128 ^ (i + 1) ∧ QI D m (i + 1) acc2) := by
            have hv := HV.out
            have h8 := hv.2.2.2.2.2.1 hi9
            refine ⟨?_, ?_, ?_⟩
            · rw [Nat.pow_succ, ← HP.out, hv.2.2.2.1]; omega
            · have e2 := HE.out
              rw [show 10 - i = (10 - (i + 1)) + 1 by omega, Oc.rgF_more (by omega)] at e2
              have e1 : (x - 128).toNat = y := by omega
              rw [e1, ← HP.out, ← hv.2.1, ← hv.2.2.1, HR.out.1] at e2
              rw [← HF.out, ← e2]
              rfl
            · rw [Nat.pow_succ, ← HP.out, hv.2.2.1, hv.2.1]
              have := Nat.mul_le_mul_right P hv.2.2.2.2.2.2.1
              have := hv.2.2.2.2.2.2.2
              omega
          clear t9
          go_wp2
          go_roundg (10 - (i + 1))
          case measure => omega
          case rel => exact ⟨i + 1, acc2, P2, rfl, by omega, rfl, rfl, by go_num, HNX.out.1, HNX.out.2, Oc.below_drewN HB.out _⟩
end Go.Proofs.YtganokcmcdkdgaaGreat.Sp
