/-
  The reference's groups. Conditions: at most two million bytes.
-/
import Derived.Test.YtjijgoflbjbnfaaGreatVM35
import Derived.Test.YtjijgoflbjbnfaaGreatVM34
import Derived.Test.YtjijgoflbjbnfaaGreatVM19
import Derived.Deep.RegionHeld3
import Derived.Test.YtjijgoflbjbnfaaGreatVM18
namespace Go.Proofs.YtjijgoflbjbnfaaGreat.Sp
open Go.RowKit Fr
attribute [local go_sem] Oper.semAt_some

set_option maxRecDepth 100000 in
set_option maxHeartbeats 8000000 in
theorem qgroups_any {w : World} {b m : Nat} {D : List Int} (h : Qd w b m 0 D) :
    Calls Tryz.prog 104 #[.pointer (some ⟨b, 0, none⟩), .int .i64 (m : Int)] w fun e w' => e = .returned (.int .u64 ((Oc.rg (D.drop m)).2.1 : Int)) ∧ QTo b w (if (Oc.rg (D.drop m)).1 = 0 then D.length - (Oc.rg (D.drop m)).2.2.length else m) (Oc.rg (D.drop m)).1 D w' := by
  obtain ⟨F, hF⟩ : ∃ F, F = Oc.rg (D.drop m) := ⟨_, rfl⟩
  rw [← hF]
  have HF := Lib.hid hF
  have HH := Lib.hid h
  obtain ⟨A, n, c, h1, h2, h3, h4, h5, h6⟩ := h
  have hln := h2.len
  obtain ⟨⟨c0, c1, c2⟩, _⟩ := three h1
  have HBA := Lib.hid h2
  have HBK := Lib.hid h4
  have HM : Hid (m ≤ D.length ∧ D.length = n ∧ n ≤ 2000000 ∧ n ≤ c) := ⟨h6, hln.1, by omega, hln.2⟩
  have HB0 : Hid (b < w.heap.size) := (Array.getElem?_eq_some_iff.1 h1).1
  have HC := Lib.hid (And.intro c0 (And.intro c1 c2))
  have hI0 : QI D m 0 0 := ⟨by rw [Nat.add_zero]; rfl, by decide⟩
  have HI0 := Lib.hid hI0
  clear hF h1 h2 h3 h4 h5 h6 hln hI0
  go_enter Tryz.func104, Tryz.ntmps104
  go_wp2
  clear c0 c1 c2
  go_loopg [5, 6, 7] 10 (fun (gh : Nat) s5 s6 s7 wx => ∃ (i acc P : Nat), gh = 10 - i ∧ i ≤ 9 ∧ s5 = .int .u64 (acc : Int) ∧ s6 = .int .u64 (P : Int) ∧ s7 = .int .i64 (i : Int) ∧ Hid (P = 128 ^ i) ∧ Hid (QI D m i acc) ∧ Hid (Below w.heap.size w wx))
  case atStart => exact ⟨0, 0, 1, rfl, by decide, rfl, rfl, rfl, rfl, HI0.out, Below.refl _ _⟩
  case round =>
    obtain ⟨i, acc, P, rfl, hi, rfl, rfl, rfl, HP, HQ, HB⟩ := hrel
    have fz : wr.frozen? ⟨b, 1, none⟩ = false := by
      obtain ⟨_, _, _, h1, _⟩ := HH.out.below HB.out
      exact (three h1).2.2.1
    have c0 : wr.cell? ⟨b, 0, none⟩ = some (.slice A n c) := (HB.out.cell (p := ⟨b, 0, none⟩) HB0.out).trans HC.out.1
    have c1 : wr.cell? ⟨b, 1, none⟩ = some (.int .i64 (m : Int)) := (HB.out.cell (p := ⟨b, 1, none⟩) HB0.out).trans HC.out.2.1
    have c2 : wr.cell? ⟨b, 2, none⟩ = some (.int .i64 0) := (HB.out.cell (p := ⟨b, 2, none⟩) HB0.out).trans HC.out.2.2
    obtain ⟨s, hs⟩ : ∃ s, s = m + i := ⟨_, rfl⟩
    have hw1 : IntKind.i64.wrap ((m : Int) + (i : Int)) = (s : Int) := by have := HM.out; rw [IntKind.wrap_i64]; omega
    have HS := Lib.hid hs
    have HDN : Hid (∀ nq, Qd (wr.drewN nq) b m 0 D ∧ w.grownBy (wr.drewN nq) (some b)) := Lib.hid (fun nq => ⟨HH.out.below (Oc.below_drewN HB.out nq), grownBy_of_below _ (Oc.below_drewN HB.out nq)⟩)
    by_cases t1 : (n : Int) ≤ (s : Int)
    · have hFe : F = (12, 0, []) := by
        have h7 := HQ.out.eq
        have h8 : D.drop (m + i) = [] := List.drop_eq_nil_of_le (by have := HM.out; omega)
        rw [h8, ← HF.out, show 10 - i = (9 - i) + 1 by omega, Oc.rgF_end] at h7
        exact h7.symm
      subst hFe
      clear hs
      go_wp2_with fail
      go_quiet (fail)
      go_wp2_with (go_at_call 105; (with_reducible refine (qfail_yes (HDN.out _).1 12 m HM.out.1).mono ?_); rintro e w3 ⟨rfl, hq3⟩; have HQ3 := Lib.hid (QTo.trans (HDN.out _).2 hq3); clear hq3)
      go_ret
      exact ⟨rfl, HQ3.out⟩
    · have hlt : s < n := by omega
      have t0 : (0 : Int) ≤ (s : Int) := by omega
      have t2 : (s : Int) < (n : Int) := by omega
      obtain ⟨x, hx⟩ : ∃ x, x = D.getD s 0 := ⟨_, rfl⟩
      have hlen : s < D.length := by have := HM.out; omega
      have hdr : D.drop (m + i) = x :: D.drop (m + i + 1) := by
        rw [← hs, List.drop_eq_getElem_cons hlen, hx]
        simp [List.getD, List.getElem?_eq_getElem hlen]
      have hxb : 0 ≤ x ∧ x < 256 := by
        have e : x = D[s] := by rw [hx]; simp [List.getD, List.getElem?_eq_getElem hlen]
        rw [e]; exact HBK.out _ (List.getElem_mem hlen)
      obtain ⟨A', cp, eA, _, hcl⟩ := id HBA.out
      simp only [Value.slice.injEq] at eA
      obtain ⟨rfl, _, _⟩ := eA
      obtain ⟨g, o, rfl, hg, hcell⟩ := hcl (by omega)
      have cx : wr.cell? ⟨g, o + s, none⟩ = some (.int .u8 x) := by rw [hx]; exact (HB.out.cell (p := ⟨g, o + s, none⟩) hg).trans (hcell s hlen)
      have hE := HQ.out.eq
      rw [hdr, ← HF.out] at hE
      obtain ⟨r, hr⟩ : ∃ r, r = D.drop (m + i + 1) := ⟨_, rfl⟩
      rw [← hr] at hE
      have HE := Lib.hid hE
      have HR : Hid (r = D.drop (m + i + 1) ∧ D.length - r.length = s + 1) := ⟨hr, by rw [hr, List.length_drop]; omega⟩
      obtain ⟨x0, x1⟩ := hxb
      clear hcl hcell hdr hx hE hr hs
      go_wp2_with fail
      go_quiet (fail)
      go_wp2_with fail
      go_quiet (fail)
      obtain ⟨y, hy⟩ : ∃ y, y = (x % 128).toNat := ⟨_, rfl⟩
      have hwA : x.tmod 128 = (y : Int) := by rw [Int.tmod_eq_emod_of_nonneg x0]; omega
      have hy1 : y ≤ 127 := by omega
      have hP9 := pow_le hi
      rw [← HP.out] at hP9
      have hacc : acc < P := by have := HQ.out.lt; rw [← HP.out] at this; exact this
      obtain ⟨z, hz⟩ : ∃ z, z = y * P := ⟨_, rfl⟩
      have hP8 : i < 9 → P ≤ 72057594037927936 := fun h => by
        rw [HP.out]
        have : (128 : Nat) ^ i ≤ 128 ^ 8 := Nat.pow_le_pow_right (by decide) (by omega)
        have e8 : (128 : Nat) ^ 8 = 72057594037927936 := by decide
        omega
      by_cases hbad : i = 9 ∧ 1 < x
      · obtain ⟨rfl, tx⟩ := hbad
        have hFe : F.1 = 3 ∧ F.2.1 = 0 := by
          rw [← HE.out]
          by_cases h128 : 128 ≤ x
          · rw [Oc.rgF_more h128]; exact ⟨rfl, rfl⟩
          · rw [Oc.rgF_bad (by omega) (.inr ⟨rfl, by omega⟩)]; exact ⟨rfl, rfl⟩
        obtain ⟨f1, f2, f3⟩ := F
        obtain ⟨rfl, rfl⟩ := hFe
        clear hy hz hP8
        go_wp2_with (go_at_call 105; (with_reducible refine (qfail_yes (HDN.out _).1 3 m HM.out.1).mono ?_); rintro e w3 ⟨rfl, hq3⟩; have HQ3 := Lib.hid (QTo.trans (HDN.out _).2 hq3); clear hq3)
        go_ret
        exact ⟨rfl, HQ3.out⟩
      · have hz2 : z < 9223372036854775809 := by
          rw [hz]
          by_cases h9 : i = 9
          · have hy2 : y ≤ 1 := by omega
            have := Nat.mul_le_mul_right P hy2
            omega
          · have h8 := hP8 (by omega)
            have := Nat.mul_le_mul_right P hy1
            omega
        have hwB : IntKind.u64.wrap (y : Int) = (y : Int) := by rw [IntKind.wrap_u64]; omega
        have hwC : IntKind.u64.wrap ((y : Int) * (P : Int)) = (z : Int) := by rw [← Int.natCast_mul, ← hz, IntKind.wrap_u64]; omega
        obtain ⟨acc2, hacc2⟩ : ∃ a, a = acc + z := ⟨_, rfl⟩
        have hwD : IntKind.u64.wrap ((acc : Int) + (z : Int)) = (acc2 : Int) := by rw [IntKind.wrap_u64]; omega
        obtain ⟨P2, hP2⟩ : ∃ a, a = P * 128 % 18446744073709551616 := ⟨_, rfl⟩
        have hwE : IntKind.u64.wrap ((P : Int) * 128) = (P2 : Int) := by rw [IntKind.wrap_u64]; omega
        obtain ⟨s2, hs2⟩ : ∃ a, a = s + 1 := ⟨_, rfl⟩
        have hwF : IntKind.i64.wrap ((s : Int) + 1) = (s2 : Int) := by have := HM.out; rw [IntKind.wrap_i64]; omega
        have HV : Hid (y = (x % 128).toNat ∧ z = y * P ∧ acc2 = acc + z ∧ P2 = P * 128 % 18446744073709551616 ∧ s2 = s + 1 ∧ (i < 9 → P ≤ 72057594037927936) ∧ y ≤ 127 ∧ acc < P) := ⟨hy, hz, hacc2, hP2, hs2, hP8, hy1, hacc⟩
        clear hy hz hz2 hacc2 hP2 hs2 hP8 hy1 hacc hP9
        have t9 : ((i : Int) = 9 ∧ ¬ (1 : Int) < x) ∨ ¬ (i : Int) = 9 := by omega
        by_cases h128 : x < 128
        · by_cases hz0 : x = 0 ∧ 0 < i
          · obtain ⟨rfl, hip⟩ := hz0
            have t4 : (0 : Int) < (i : Int) := by omega
            have hFe : F.1 = 3 ∧ F.2.1 = 0 := by
              rw [← HE.out, show 10 - i = (9 - i) + 1 by omega, Oc.rgF_bad (by omega) (.inl ⟨hip, rfl⟩)]; exact ⟨rfl, rfl⟩
            obtain ⟨f1, f2, f3⟩ := F
            obtain ⟨rfl, rfl⟩ := hFe
            rcases t9 with ⟨t5, t6⟩ | t5
            all_goals
              go_wp2_with (go_at_call 105; (with_reducible refine (qfail_yes (HDN.out _).1 3 m HM.out.1).mono ?_); rintro e w3 ⟨rfl, hq3⟩; have HQ3 := Lib.hid (QTo.trans (HDN.out _).2 hq3); clear hq3)
              go_ret
              exact ⟨rfl, HQ3.out⟩
          · have hFe : F = (0, acc2, r) := by
              rw [← HE.out, show 10 - i = (9 - i) + 1 by omega, Oc.rgF_good h128 (by omega)]
              have e1 : x.toNat = y := by have := HV.out.1; omega
              rw [e1, ← HP.out, ← HV.out.2.1, ← HV.out.2.2.1]
            subst hFe
            have hs3 : D.length - r.length = s2 := by have := HR.out.2; have := HV.out.2.2.2.2.1; omega
            have HS3 : Hid (D.length - r.length = s2 ∧ s2 ≤ D.length) := ⟨hs3, by omega⟩
            have t9' : ((i : Int) = 9 ∧ ¬ (1 : Int) < x ∧ IntKind.i64.wrap ((m : Int) + 9) = (s : Int) ∧ ¬ x = 0) ∨ (¬ (i : Int) = 9 ∧ ¬ x = 0) ∨ (x = 0 ∧ i = 0) := by
              by_cases hx0 : x = 0
              · exact .inr (.inr ⟨hx0, by omega⟩)
              · rcases t9 with ⟨a, b⟩ | a
                · exact .inl ⟨a, b, by rw [← a]; exact hw1, hx0⟩
                · exact .inr (.inl ⟨a, hx0⟩)
            have hwG : x = 0 → IntKind.u64.wrap (acc : Int) = (acc2 : Int) := fun e => by
              have hv := HV.out
              have e1 : y = 0 := by rw [hv.1, e]; rfl
              have e2 : z = 0 := by rw [hv.2.1, e1, Nat.zero_mul]
              have e3 : acc2 = acc := by rw [hv.2.2.1, e2]; rfl
              rw [e2, ← e3] at hwD
              rw [← e3]
              simpa using hwD
            have hw00 : i = 0 → IntKind.i64.wrap (m : Int) = (s : Int) := fun e => by
              have h8 := hw1
              rw [e] at h8
              simpa using h8
            clear t9 hs3 hz0
            rcases t9' with ⟨t5, t6, hw9, t7⟩ | ⟨t5, t7⟩ | ⟨t7, t8⟩
            rotate_left 2
            · have hwG0 := hwG t7
              have hw01 := hw00 t8
              subst t7 t8
              clear hwG hw00
              go_wp2
              go_ret
              exact ⟨rfl, by rw [HS3.out.1]; exact ⟨((HDN.out _).1.set1 s2 HS3.out.2).1, grownBy_trans (HDN.out _).2 ((HDN.out _).1.set1 s2 HS3.out.2).2⟩⟩
            all_goals clear hwG hw00
            all_goals
              go_wp2
              go_ret
              exact ⟨rfl, by rw [HS3.out.1]; exact ⟨((HDN.out _).1.set1 s2 HS3.out.2).1, grownBy_trans (HDN.out _).2 ((HDN.out _).1.set1 s2 HS3.out.2).2⟩⟩
        · have hi9 : i < 9 := by omega
          have t5 : ¬ (i : Int) = 9 := by omega
          have HNX : Hid (P2 = 128 ^ (i + 1) ∧ QI D m (i + 1) acc2) := by
            have hv := HV.out
            have h8 := hv.2.2.2.2.2.1 hi9
            refine ⟨?_, ?_, ?_⟩
            · rw [Nat.pow_succ, ← HP.out, hv.2.2.2.1]; omega
            · have e2 := HE.out
              rw [show 10 - i = (10 - (i + 1)) + 1 by omega, Oc.rgF_more (by omega)] at e2
              have e1 : (x - 128).toNat = y := by omega
              rw [e1, ← HP.out, ← hv.2.1, ← hv.2.2.1, HR.out.1] at e2
              rw [← HF.out, ← e2]
              rfl
            · rw [Nat.pow_succ, ← HP.out, hv.2.2.1, hv.2.1]
              have := Nat.mul_le_mul_right P hv.2.2.2.2.2.2.1
              have := hv.2.2.2.2.2.2.2
              omega
          clear t9
          go_wp2
          go_roundg (10 - (i + 1))
          case measure => omega
          case rel => exact ⟨i + 1, acc2, P2, rfl, by omega, rfl, rfl, by go_num, HNX.out.1, HNX.out.2, Oc.below_drewN HB.out _⟩
end Go.Proofs.YtjijgoflbjbnfaaGreat.Sp

namespace Go.Proofs.YtjijgoflbjbnfaaGreat.Sp
open Go.RowKit Fr
attribute [local go_sem] Oper.semAt_some

/-- A count of at most so many. -/
def qcnt (most : Int) (l : List Int) : Int × Nat × List Int :=
  if (Oc.rg l).1 ≠ 0 then ((Oc.rg l).1, 0, l)
  else if ¬ ((Oc.rg l).2.1 : Int) ≤ most then (Oc.longE (Oc.rg l).2.1, 0, l)
  else (0, (Oc.rg l).2.1, (Oc.rg l).2.2)
theorem qd_cells {w : World} {b m : Nat} {er : Int} {D : List Int} (h : Qd w b m er D) : w.cell? ⟨b, 1, none⟩ = some (.int .i64 (m : Int)) ∧ w.cell? ⟨b, 2, none⟩ = some (.int .i64 er) ∧ w.frozen? ⟨b, 1, none⟩ = false := by
  obtain ⟨A, n, c, h1, _⟩ := h
  obtain ⟨⟨c0, c1, c2⟩, f0, f1, f2⟩ := three h1
  exact ⟨c1, c2, f1⟩
theorem QTo.st {b m : Nat} {w w' : World} {er : Int} {D : List Int} (h : QTo b w m er D w') : Qd w' b m er D := h.1
theorem QTo.gr {b m : Nat} {w w' : World} {er : Int} {D : List Int} (h : QTo b w m er D w') : w.grownBy w' (some b) := h.2
theorem qd_at {w : World} {b m : Nat} {er : Int} {D : List Int} (h : Qd w b m er D) : bok D ∧ m ≤ D.length ∧ D.length ≤ 2000000 := by
  obtain ⟨_, _, _, _, _, _, h1, h2, h3⟩ := h
  exact ⟨h1, h3, h2⟩
theorem drop_rest {D r p : List Int} {m : Nat} (h : D.drop m = p ++ r) (hm : m ≤ D.length) : D.length - r.length ≤ D.length ∧ D.drop (D.length - r.length) = r := by
  refine ⟨by omega, ?_⟩
  have hl : (D.drop m).length = p.length + r.length := by rw [h, List.length_append]
  rw [List.length_drop] at hl
  have e : D.length - r.length = m + p.length := by omega
  rw [e, ← List.drop_drop, h, List.drop_left' rfl]
theorem rg_drop {D : List Int} {m : Nat} (hb : bok D) (hm : m ≤ D.length) (h0 : (Oc.rg (D.drop m)).1 = 0) : D.length - (Oc.rg (D.drop m)).2.2.length ≤ D.length ∧ D.drop (D.length - (Oc.rg (D.drop m)).2.2.length) = (Oc.rg (D.drop m)).2.2 := by
  have e1 : Oc.rg (D.drop m) = (0, (Oc.rg (D.drop m)).2.1, (Oc.rg (D.drop m)).2.2) := by rw [← h0]
  exact drop_rest (Oc.rg_inv (fun x hx => hb x (List.mem_of_mem_drop hx)) e1).2 hm
/-- Where a count leaves the reader. -/
theorem qcnt_drop {D : List Int} {m : Nat} {most : Int} (hb : bok D) (hm : m ≤ D.length) : (if (qcnt most (D.drop m)).1 = 0 then D.length - (qcnt most (D.drop m)).2.2.length else m) ≤ D.length ∧ D.drop (if (qcnt most (D.drop m)).1 = 0 then D.length - (qcnt most (D.drop m)).2.2.length else m) = (qcnt most (D.drop m)).2.2 := by
  by_cases h0 : (Oc.rg (D.drop m)).1 = 0
  · by_cases h1 : ((Oc.rg (D.drop m)).2.1 : Int) ≤ most
    · have e : qcnt most (D.drop m) = (0, (Oc.rg (D.drop m)).2.1, (Oc.rg (D.drop m)).2.2) := by unfold qcnt; rw [if_neg (fun h => h h0), if_neg (fun h => h h1)]
      rw [e, if_pos rfl]
      exact rg_drop hb hm h0
    · have e : qcnt most (D.drop m) = (Oc.longE (Oc.rg (D.drop m)).2.1, 0, D.drop m) := by unfold qcnt; rw [if_neg (fun h => h h0), if_pos h1]
      rw [e, if_neg (Oc.longE_ne _)]
      exact ⟨hm, rfl⟩
  · have e : qcnt most (D.drop m) = ((Oc.rg (D.drop m)).1, 0, D.drop m) := by unfold qcnt; rw [if_pos h0]
    rw [e, if_neg h0]
    exact ⟨hm, rfl⟩
set_option maxRecDepth 100000 in
set_option maxHeartbeats 4000000 in
theorem qcount_any {w : World} {b m : Nat} {D : List Int} (h : Qd w b m 0 D) (most : Int) (hm1 : most < 9223372036854775808) :
    Calls Tryz.prog 71 #[.pointer (some ⟨b, 0, none⟩), .int .i64 most] w fun e w' => e = .returned (.int .i64 ((qcnt most (D.drop m)).2.1 : Int)) ∧ QTo b w (if (qcnt most (D.drop m)).1 = 0 then D.length - (qcnt most (D.drop m)).2.2.length else m) (qcnt most (D.drop m)).1 D w' := by
  have hg := qgroups_any h
  obtain ⟨hbk, hmD, hlD⟩ := qd_at h
  have hrd := rg_drop (m := m) hbk hmD
  have hN : (Oc.rg (D.drop m)).1 = 0 → (Oc.rg (D.drop m)).2.1 < 18446744073709551616 := fun h0 => by
    have e1 : Oc.rg (D.drop m) = (0, (Oc.rg (D.drop m)).2.1, (Oc.rg (D.drop m)).2.2) := by rw [← h0]
    exact (Oc.rg_inv (fun x hx => hbk x (List.mem_of_mem_drop hx)) e1).1
  have hN0 : ¬ (Oc.rg (D.drop m)).1 = 0 → (Oc.rg (D.drop m)).2.1 = 0 := fun h0 => Oc.rgF_err 10 0 0 _ h0
  unfold qcnt
  obtain ⟨⟨E, N, R⟩, hF⟩ : ∃ F, F = Oc.rg (D.drop m) := ⟨_, rfl⟩
  rw [← hF] at hg hrd hN hN0 ⊢
  dsimp only at hg hrd hN hN0 ⊢
  obtain ⟨c1, c2, f1⟩ := qd_cells h
  have HG := Lib.hid hg
  have HH := Lib.hid h
  have HM : Hid (m ≤ D.length) := hmD
  clear hF hg h c2 f1 hmD hbk
  by_cases hE : E = 0
  · subst hE
    have hN1 := hN rfl
    have HR := Lib.hid (hrd rfl)
    obtain ⟨m2, hm2⟩ : ∃ m2, m2 = D.length - R.length := ⟨_, rfl⟩
    rw [if_pos rfl, ← hm2] at HG
    rw [if_neg (fun h => h rfl)]
    clear hN hN0 hrd
    by_cases hbig : (9223372036854775807 : Int) < (N : Int)
    · have e : ¬ (N : Int) ≤ most := by omega
      have e3 : Oc.longE N = 3 := by unfold Oc.longE; rw [if_neg (by omega)]
      rw [if_pos e, e3]
      dsimp only
      rw [if_neg (by decide)]
      clear hm2 e e3
      go_enter Tryz.func71, Tryz.ntmps71
      go_wp2_with (first
        | (go_at_call 105; (with_reducible refine (qfail_yes HQ2.out.st 3 m HM.out).mono ?_); rintro e w3 ⟨rfl, hq3⟩
           obtain ⟨d1, d2, _⟩ := qd_cells hq3.st
           have HQ3 := Lib.hid (QTo.trans HQ2.out.gr hq3)
           clear hq3)
        | (go_at_call 104; (with_reducible refine HG.out.mono ?_); rintro e w2 ⟨rfl, hq2⟩
           obtain ⟨c4, c5, _⟩ := qd_cells hq2.st
           have HQ2 := Lib.hid hq2
           clear hq2))
      go_ret
      exact ⟨rfl, HQ3.out⟩
    · have td1 : decide ((9223372036854775807 : Int) < (N : Int)) = false := decide_eq_false hbig
      have hwN : IntKind.i64.wrap (N : Int) = (N : Int) := by rw [IntKind.wrap_i64]; omega
      by_cases hlong : most < (N : Int)
      · have e : ¬ (N : Int) ≤ most := by omega
        have e3 : Oc.longE N = 2 := by unfold Oc.longE; rw [if_pos (by omega)]
        rw [if_pos e, e3]
        dsimp only
        rw [if_neg (by decide)]
        clear hm2 e e3
        go_enter Tryz.func71, Tryz.ntmps71
        go_wp2_with (first
          | (go_at_call 105; (with_reducible refine (qfail_yes HQ2.out.st 2 m HM.out).mono ?_); rintro e w3 ⟨rfl, hq3⟩
             obtain ⟨d1, d2, _⟩ := qd_cells hq3.st
             have HQ3 := Lib.hid (QTo.trans HQ2.out.gr hq3)
             clear hq3)
          | (go_at_call 104; (with_reducible refine HG.out.mono ?_); rintro e w2 ⟨rfl, hq2⟩
             obtain ⟨c4, c5, _⟩ := qd_cells hq2.st
             have HQ2 := Lib.hid hq2
             clear hq2))
        go_ret
        exact ⟨rfl, HQ3.out⟩
      · have td2 : decide (most < (N : Int)) = false := decide_eq_false hlong
        have e : ¬ ¬ (N : Int) ≤ most := by omega
        rw [if_neg e]
        dsimp only
        rw [if_pos rfl, ← hm2]
        clear hm2 e
        go_enter Tryz.func71, Tryz.ntmps71
        go_wp2_with (first
          | (go_at_call 104; (with_reducible refine HG.out.mono ?_); rintro e w2 ⟨rfl, hq2⟩
             obtain ⟨c4, c5, _⟩ := qd_cells hq2.st
             have HQ2 := Lib.hid hq2
             clear hq2))
        go_ret
        exact ⟨rfl, HQ2.out⟩
  · have hn0 := hN0 hE
    subst hn0
    rw [if_neg hE] at HG
    rw [if_pos hE]
    dsimp only
    rw [if_neg hE]
    clear hN hN0 hrd
    go_enter Tryz.func71, Tryz.ntmps71
    go_wp2_with (first
      | (go_at_call 104; (with_reducible refine HG.out.mono ?_); rintro e w2 ⟨rfl, hq2⟩
         obtain ⟨c4, c5, _⟩ := qd_cells hq2.st
         have HQ2 := Lib.hid hq2
         clear hq2))
    go_ret
    exact ⟨rfl, HQ2.out⟩
theorem slice_midG (A : Option Addr) (n cap q r : Nat) (h : q ≤ r) (h2 : r ≤ cap) : ∃ A' : Option Addr, (q < r → ∀ g o, A = some ⟨g, o, none⟩ → A' = some ⟨g, o + q, none⟩) ∧ ∀ W : World, (Instr.slice 32 (.slice A n cap) (some (.int .i64 (q : Int))) (some (.int .i64 (r : Int))) none).run Tryz.prog W = .ok (.slice A' (r - q) (cap - q)) W := by
  obtain ⟨i0, hi0, hz0, hz1, hz2⟩ := info_parts u8Inf
  cases A with
  | none =>
    refine ⟨none, fun _ g o e => (by cases e), fun W => ?_⟩
    simp [Instr.slice, Instr.sliceBounds, Instr.sliceBound, asIntOf, run_underlying Tryz.underlying32, h, h2]
  | some a =>
    by_cases hq : cap = q
    · refine ⟨some a, fun hlt => by omega, fun W => ?_⟩
      have h3 : r = q := by omega
      subst hq h3
      simp [Instr.slice, Instr.sliceBounds, Instr.sliceBound, asIntOf, run_underlying Tryz.underlying32, Go.sizeOf, typeInfo, hi0]
    · refine ⟨some (a.add q), fun _ g o e => ?_, fun W => ?_⟩
      · cases e
        unfold Addr.add; split <;> simp_all
      · simp [Instr.slice, Instr.sliceBounds, Instr.sliceBound, asIntOf, run_underlying Tryz.underlying32, h, h2, Go.sizeOf, typeInfo, hi0, hz1, hq]
theorem bat_midG {w : World} {A A' : Option Addr} {n cap : Nat} {l : List Int} (h : BAt w (.slice A n cap) l) (q r : Nat) (hA : q < r → ∀ g o, A = some ⟨g, o, none⟩ → A' = some ⟨g, o + q, none⟩) (hq : q ≤ r) (hr : r ≤ n) : BAt w (.slice A' (r - q) (cap - q)) ((l.drop q).take (r - q)) := by
  obtain ⟨A2, cap', h1, h2, h3⟩ := h
  cases h1
  have hl : ((l.drop q).take (r - q)).length = r - q := by rw [List.length_take, List.length_drop]; omega
  refine ⟨A', cap - q, by rw [hl], by rw [hl]; omega, fun hp => ?_⟩
  rw [hl] at hp ⊢
  obtain ⟨g', o', h4, h5, h6⟩ := h3 (by omega)
  refine ⟨g', o' + q, hA (by omega) g' o' h4, h5, fun i hi => ?_⟩
  rw [getD_take hi, getD_drop, Nat.add_assoc]
  exact h6 (q + i) (by omega)
end Go.Proofs.YtjijgoflbjbnfaaGreat.Sp

namespace Go.Proofs.YtjijgoflbjbnfaaGreat.Jo
open Go.RowKit Fr Sr
attribute [local go_sem] Oper.semAt_some

theorem pos_frs : ∀ (k p : Nat) (l : List Int) (i : Nat) (x : Fr), (Fr.frs k p l)[i]? = some x → x.1 = p + whF ((Fr.frs k p l).take i)
  | 0, _, _, i, x, h => by simp [Fr.frs] at h
  | k + 1, p, l, i, x, h => by
    unfold Fr.frs at h ⊢
    split at h
    · rename_i hn
      rw [if_pos hn]
      cases i with
      | zero => simp at h; subst h; simp [whF]
      | succ i =>
        rw [List.getElem?_cons_succ] at h
        have h1 := pos_frs k (p + nxN l) (l.drop (nxN l)) i x h
        have h2 := (nxN_ok hn).1
        rw [h1, List.take_succ_cons]
        simp only [whF, List.map_cons, List.sum_cons]
        omega
    · simp at h
/-- The first i frames are counted. -/
structure CQ (L : List Int) (i : Nat) (cs : List Rc) : Prop where
  len : cs.length = i
  eq : cnt L = cs ++ cntF (nxt cs) ((allF L).drop i)
  pos : whole cs = whF ((allF L).take i)
  le : ∀ r ∈ recs cs, r.1 ≤ 4611686018427387903
theorem CQ.nil (L : List Int) : CQ L 0 [] := ⟨rfl, by simp [cnt, nxt], rfl, fun r hr => by cases hr⟩
theorem whF_pos {xs : List Fr} (h : 0 < xs.length) : 0 < whF xs := by
  cases xs with
  | nil => cases h
  | cons x r => simp only [whF, List.map_cons, List.sum_cons]; omega
theorem CQ.fin {L : List Int} {i : Nat} {cs : List Rc} (h : CQ L i cs) (hi : (allF L).length ≤ i) : cnt L = cs := by
  rw [h.eq, List.drop_eq_nil_of_le hi]
  simp [cntF]
theorem drop_get {α : Type} {l : List α} {i : Nat} {x : α} (h : l[i]? = some x) : l.drop i = x :: l.drop (i + 1) := by
  obtain ⟨hi, e⟩ := List.getElem?_eq_some_iff.1 h
  rw [List.drop_eq_getElem_cons hi, e]
theorem CQ.none {L : List Int} {i : Nat} {cs : List Rc} {x : Fr} (h : CQ L i cs) (hx : (allF L)[i]? = some x) (hd : dec x.2 = none) : cnt L = cs := by
  rw [h.eq, drop_get hx, cntF_none hd, List.append_nil]
theorem CQ.pos0 {L : List Int} {i : Nat} {cs : List Rc} {x : Fr} (h : CQ L i cs) (hx : (allF L)[i]? = some x) : x.1 = whole cs ∧ (0 < x.1 ↔ 0 < i) := by
  have h1 := pos_frs _ _ _ i x hx
  have h2 : x.1 = whole cs := by rw [h.pos, h1]; unfold allF; omega
  have hi := (List.getElem?_eq_some_iff.1 hx).1
  refine ⟨h2, fun h0 => ?_, fun h0 => ?_⟩
  · rcases Nat.eq_zero_or_pos i with e | e
    · subst e
      rw [h1] at h0
      simp [whF] at h0
    · exact e
  · rw [h1]
    have := whF_pos (xs := (Fr.frs (L.length + 1) 0 L).take i) (by unfold allF at hi; rw [List.length_take]; omega)
    omega
theorem CQ.bad {L : List Int} {i : Nat} {cs : List Rc} {x : Fr} {y : Nat × List Int} (h : CQ L i cs) (hx : (allF L)[i]? = some x) (hd : dec x.2 = some y) (hi : 0 < i) (hn : y.1 ≠ nxt cs) : cnt L = cs := by
  rw [h.eq, drop_get hx, cntF_bad hd ⟨(h.pos0 hx).2.2 hi, hn⟩, List.append_nil]
theorem CQ.next {L : List Int} {i : Nat} {cs : List Rc} {x : Fr} {y : Nat × List Int} (h : CQ L i cs) (hx : (allF L)[i]? = some x) (hd : dec x.2 = some y) (hn : i = 0 ∨ y.1 = nxt cs) : CQ L (i + 1) (cs ++ [(x.1 + x.2.length + 8, y)]) := by
  have hp := h.pos0 hx
  refine ⟨by rw [List.length_append, h.len]; rfl, ?_, ?_, fun r hr => ?_⟩
  · rw [nxt_snoc, h.eq, drop_get hx, cntF_good hd (fun h2 => ?_)]
    · simp
    · rcases hn with e | e
      · have := hp.2.1 h2.1; omega
      · exact h2.2 e
  · rw [whole_snoc]
    obtain ⟨hi, e⟩ := List.getElem?_eq_some_iff.1 hx
    rw [List.take_succ_eq_append_getElem hi, e, whF_snoc, ← h.pos, ← hp.1]
    show x.1 + x.2.length + 8 = _
    omega
  · rw [recs_snoc] at hr
    rcases List.mem_append.1 hr with h1 | h1
    · exact h.le r h1
    · simp at h1; subst h1; exact dec_le hd
theorem dec_qcnt (l : List Int) : (Sp.qcnt 4611686018427387903 l).1 = 0 ↔ dec l ≠ none := by
  unfold Sp.qcnt dec
  by_cases h0 : (Oc.rg l).1 = 0
  · by_cases h1 : (Oc.rg l).2.1 ≤ 4611686018427387903
    · rw [if_neg (fun h => h h0), if_neg (fun h => h (by omega)), if_pos ⟨h0, h1⟩]; simp
    · rw [if_neg (fun h => h h0), if_pos (by omega), if_neg (fun h => h1 h.2)]
      simp [Oc.longE_ne]
  · rw [if_pos h0, if_neg (fun h => h0 h.1)]
    simp [h0]
theorem dec_some {l : List Int} {y : Nat × List Int} (h : dec l = some y) : Sp.qcnt 4611686018427387903 l = (0, y.1, y.2) := by
  unfold dec at h
  split at h
  · rename_i hc
    have h2 := Option.some.inj h
    unfold Sp.qcnt
    rw [if_neg (fun h => h hc.1), if_neg (fun h => h (by have := hc.2; omega)), ← h2]
  · cases h
end Go.Proofs.YtjijgoflbjbnfaaGreat.Jo

namespace Go.Proofs.YtjijgoflbjbnfaaGreat.Jo
open Go.RowKit Fr Sr
attribute [local go_sem] Oper.semAt_some

/-- What All has gathered. -/
structure RaB (w0 w : World) (L : List Int) (pre : List Fr) (us : List Value) (v4 v5 : Value) (q : Nat) (wx : World) : Prop where
  at' : AtP L pre q
  len : us.length = pre.length
  ints : wx.ownsRow w.heap.size 3 1 v4 pre.length (ivs pre)
  rows : wx.ownsRow w.heap.size 32 1 v5 pre.length us
  bat : ∀ j u, us[j]? = some u → BAt w0 u (pre.getD j (0, [])).2
  bel : Below w.heap.size w wx
theorem RaB.kept {w0 w wx wx' : World} {L : List Int} {pre : List Fr} {us : List Value} {v4 v5 : Value} {q : Nat} (h : RaB w0 w L pre us v4 v5 q wx) (hb : Below wx.heap.size wx wx') : RaB w0 w L pre us v4 v5 q wx' :=
  ⟨h.at', h.len, own_same h.ints hb, own_same h.rows hb, h.bat, h.bel.trans (hb.mono h.bel.size)⟩
/-- Both rows are one longer. -/
theorem RaB.next {w0 w wx w1 w2 : World} {L : List Int} {pre : List Fr} {us : List Value} {v4 v5 v4' v5' u : Value} {q q' : Nat} {x : Fr} {o1 o2 : Obj} (h : RaB w0 w L pre us v4 v5 q wx) (hat : AtP L (pre ++ [x]) q') (hu : BAt w0 u x.2)
    (h1 : w1.ownsRow w.heap.size 3 1 v4' (pre.length + 1) (ivs pre ++ [.int .i64 (x.1 : Int)])) (g1 : (wx.alloc o1).grownBy w1 v4.ownBlock) (h2 : w2.ownsRow w.heap.size 32 1 v5' (pre.length + 1) (us ++ [u])) (g2 : (w1.alloc o2).grownBy w2 v5.ownBlock) :
    RaB w0 w L (pre ++ [x]) (us ++ [u]) v4' v5' q' w2 := by
  have r1 : w1.ownsRow w.heap.size 32 1 v5 pre.length us := row_other h.ints h.rows tys_ne2 g1
  have b1 : Below w.heap.size w w1 := (h.bel.alloc h.bel.size _).grown g1 (Nat.le_trans h.bel.size (by simp)) (fun j hj => (h.ints.lt j hj).1)
  refine ⟨hat, by rw [List.length_append, List.length_append, h.len]; rfl, ?_, ?_, fun j u' hu' => ?_, (b1.alloc b1.size _).grown g2 (Nat.le_trans b1.size (by simp)) (fun j hj => (r1.lt j hj).1)⟩
  · rw [List.length_append, ivs_snoc]
    exact row_other r1 h1 (fun e => tys_ne2 e.symm) g2
  · rw [List.length_append]
    exact h2
  · rcases Nat.lt_or_ge j us.length with hj | hj
    · rw [List.getElem?_append_left hj] at hu'
      have e : (pre ++ [x]).getD j (0, []) = pre.getD j (0, []) := by
        simp only [List.getD]
        rw [List.getElem?_append_left (by rw [← h.len]; exact hj)]
      rw [e]
      exact h.bat j u' hu'
    · rw [List.getElem?_append_right hj] at hu'
      have h0 : j - us.length = 0 := by
        rcases Nat.eq_zero_or_pos (j - us.length) with h0 | h0
        · exact h0
        · rw [List.getElem?_eq_none (by simp; omega)] at hu'; cases hu'
      rw [h0] at hu'
      have hj2 : j = pre.length := by have := h.len; omega
      subst hj2
      have hu2 : u = u' := by simpa using hu'
      have e : (pre ++ [x]).getD pre.length (0, []) = x := by simp [List.getD]
      rw [e, ← hu2]
      exact hu

set_option maxRecDepth 100000 in
set_option maxHeartbeats 8000000 in
theorem rall0 (w0 w : World) (h0 : Below w0.heap.size w0 w) (A : Option Addr) (m cap : Nat) (L : List Int) (hL : BAt w0 (.slice A m cap) L) (hb : bok L) (hm : m ≤ 1000) :
    Calls Tryz.prog 74 #[.slice A m cap] w fun e w' => ∃ v1 v2 us q, e = .returned (.tuple #[v1, v2]) ∧ RaB w0 w L (allF L) us v1 v2 q w' := by
  obtain ⟨i4, hi4, hz40, hz41, hz42⟩ := info_parts intInf
  obtain ⟨i5, hi5, hz50, hz51, hz52⟩ := info_parts byInf
  have hlm := hL.len.1
  have hcap := hL.len.2
  have hBK : BK (fun k => k < w0.heap.size) (.slice A m cap) L := fun hp a n c ha => by
    obtain ⟨A', c', h1, h2, h3⟩ := hL
    obtain ⟨g, o, h4, h5, _⟩ := h3 hp
    cases ha; cases h1; cases h4
    exact h5
  have HL := Lib.hid hL
  have H0 := Lib.hid h0
  have HD : Hid (bok L ∧ L.length = m ∧ BK (fun k => k < w0.heap.size) (.slice A m cap) L) := ⟨hb, hlm, hBK⟩
  clear hL hb hlm hBK h0
  go_enter Tryz.func74, Tryz.ntmps74
  go_wp2
  go_loopg [4, 5, 6] 1001 (fun (gh : Nat) s4 s5 s6 wx => ∃ (q : Nat) (pre : List Fr) (us : List Value), gh = 1001 - q ∧ q ≤ m ∧ s6 = .int .i64 (q : Int) ∧ Hid (RaB w0 w L pre us s4 s5 q wx))
  case atStart => exact ⟨0, [], [], rfl, Nat.zero_le _, rfl, AtP.start L, rfl, World.ownsRow_nil _ _ _ _, World.ownsRow_nil _ _ _ _, fun j u hu => by simp at hu, Below.refl _ _⟩
  case round =>
    obtain ⟨q, pre, us, rfl, hq, rfl, hI⟩ := hrel
    obtain ⟨A', hA', hs⟩ := slice_from A m cap q hq hcap
    have hBr : BAt wr (.slice A' (m - q) (cap - q)) (L.drop q) := (HL.out.kept (H0.out.trans (hI.out.bel.mono H0.out.size))).from q hA' hq
    have hBKr : BK (fun k => k < w0.heap.size) (.slice A' (m - q) (cap - q)) (L.drop q) := fun hp a n c ha => by
      have h1 : q < m := by rw [List.length_drop] at hp; have := HD.out.2.1; omega
      obtain ⟨A2, c', h2, h3, h4⟩ := HL.out
      obtain ⟨g, o, h5, h6, _⟩ := h4 (by have := HD.out.2.1; omega)
      cases h2
      rw [hA' h1 g o h5] at ha
      cases ha
      exact h6
    obtain ⟨B, k, N, E, hR⟩ := nx_some (L.drop q)
    have HF := Lib.hid (rnext_kt _ wr _ (L.drop q) B k N E hBr (bok_drop HD.out.1 q) (by rw [List.length_drop]; have := HD.out.2.1; omega) hBKr hR)
    have HR := Lib.hid hR
    obtain ⟨r1, hr1⟩ : ∃ r1, r1 = m - q := ⟨_, rfl⟩
    obtain ⟨r2, hr2⟩ : ∃ r2, r2 = cap - q := ⟨_, rfl⟩
    rw [← hr1, ← hr2] at hs HF
    have hm9 : q ≤ 1000 := by omega
    clear hBr hR hA' hr1 hr2 hBKr
    by_cases hE : E = 0
    · have hN : N ≤ 1000 ∧ 8 ≤ N ∧ q + N ≤ m := by
        have h1 : nxE (L.drop q) = 0 := by rw [HR.out.e]; exact hE
        have h2 := nxN_ok h1
        rw [List.length_drop, HR.out.n, HD.out.2.1] at h2
        omega
      have HX : Hid (AtP L (pre ++ [(q, B)]) (q + N)) := by
        have h1 : nxE (L.drop q) = 0 := by rw [HR.out.e]; exact hE
        have h2 := hI.out.at'.step h1
        rw [HR.out.b, HR.out.n] at h2
        exact h2.1
      have hpl : pre.length ≤ 1000 := by
        have h1 := hI.out.at'
        obtain ⟨kk, h2, _⟩ := h1
        have h3 := allF_len L
        rw [h2, List.length_append, HD.out.2.1] at h3
        omega
      subst hE
      have hn1 : N ≤ 1000 := hN.1
      have HN := Lib.hid hN
      have hz0 := hI.out.bel.size
      clear hN
      go_wp2_with (first
        | (at_builtin; refine wpList_append_lies _ rfl _ _ 31 rfl w.heap.size 32 i5 _ 1 24 Tryz.underlying31 hi5 hz50 hz51 hz52 rfl (by decide) _ _ _ rfl (HR5.out.alloc _) ⟨w2.heap.size, 0, none⟩ 1 1 [.slice A1 k c1] rfl rfl (World.news_of_block (cs := #[.slice A1 k c1]) (t := 32) (fr := (0, 0)) (heap_alloc_new _ _)) (by simp [Value.oneCell']) (by decide) (by unfold maxLen; omega) (by omega) (by simp; omega) _ rfl ?_; intro gg5 cp5 w3 hown5 hgrow5 hat5 hlt5
           have S3 := Lib.hid (HI1.out.next HX.out HU.out HO4.out HG4.out hown5 hgrow5)
           clear hown5 hgrow5 hat5 hlt5)
        | (at_builtin; refine wpList_append_lies _ rfl _ _ 129 rfl w.heap.size 3 i4 _ 1 8 Tryz.underlying129 hi4 hz40 hz41 hz42 rfl (by decide) _ _ _ rfl (HI1.out.ints.alloc _) ⟨w1.heap.size, 0, none⟩ 1 1 [.int .i64 (q : Int)] rfl rfl (World.news_of_block (cs := #[.int .i64 (q : Int)]) (t := 3) (fr := (0, 0)) (heap_alloc_new _ _)) (by simp [Value.oneCell']) (by decide) (by unfold maxLen; omega) (by omega) (by simp; omega) _ rfl ?_; intro gg4 cp4 w2 hown4 hgrow4 hat4 hlt4
           have HO4 := Lib.hid hown4
           have HG4 := Lib.hid hgrow4
           have HR5 := Lib.hid (row_other HI1.out.ints HI1.out.rows tys_ne2 hgrow4)
           have hz2 : w.heap.size ≤ w2.heap.size := (by have h1 := hgrow4.size; simp at h1; omega)
           clear hown4 hgrow4 hat4 hlt4)
        | (go_at_call 70; refine HF.out.mono ?_; rintro e w1 ⟨A1, c1, rfl, ha1, hk1, b1⟩
           have HI1 := Lib.hid (hI.out.kept b1)
           have HU := Lib.hid (ha1.back hk1 (H0.out.trans (HI1.out.bel.mono H0.out.size)))
           have hz1 : w.heap.size ≤ w1.heap.size := HI1.out.bel.size
           clear ha1 hk1 b1))
      have hq2 : q + N ≤ 1000 := by have := HN.out; omega
      go_roundg (1001 - (q + N))
      case measure => have := HN.out; omega
      case rel => exact ⟨q + N, _, _, rfl, by have := HN.out; omega, by go_num, S3⟩
    · have HE : Hid (allF L = pre) := hI.out.at'.done (by rw [HR.out.e]; exact hE)
      go_wp2_with (go_at_call 70; refine HF.out.mono ?_; rintro e w1 ⟨A1, c1, rfl, ha1, hk1, b1⟩
                   have HI1 := Lib.hid (hI.out.kept b1)
                   clear ha1 hk1 b1)
      go_ret2
      refine ⟨u4, u5, us, q, rfl, ?_⟩
      rw [HE.out]
      exact HI1.out
end Go.Proofs.YtjijgoflbjbnfaaGreat.Jo
