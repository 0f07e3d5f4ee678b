/-
  The reference's Count, Bytes, Text, Done. Conditions: at most two million bytes.
-/
import Derived.Test.YtganokcmcdkdgaaGreatPQgr
namespace Go.Proofs.YtganokcmcdkdgaaGreat.Sp
open Go.RowKit Fr
attribute [local go_sem] Oper.semAt_some

/-- A count of at most so many. -/
def qcnt (most : Int) (l : List Int) : Int × Nat × List Int :=
  if (Oc.rg l).1 ≠ 0 then ((Oc.rg l).1, 0, l)
  else if ¬ ((Oc.rg l).2.1 : Int) ≤ most then (Oc.longE (Oc.rg l).2.1, 0, l)
  else (0, (Oc.rg l).2.1, (Oc.rg l).2.2)
theorem qd_cells {w : World} {b m : Nat} {er : Int} {D : List Int} (h : Qd w b m er D) : w.cell? ⟨b, 1, none⟩ = some (.int .i64 (m : Int)) ∧ w.cell? ⟨b, 2, none⟩ = some (.int .i64 er) ∧ w.frozen? ⟨b, 1, none⟩ = false := by
  obtain ⟨A, n, c, h1, _⟩ := h
  obtain ⟨⟨c0, c1, c2⟩, f0, f1, f2⟩ := three h1
  exact ⟨c1, c2, f1⟩
theorem QTo.st {b m : Nat} {w w' : World} {er : Int} {D : List Int} (h : QTo b w m er D w') : Qd w' b m er D := h.1
theorem QTo.gr {b m : Nat} {w w' : World} {er : Int} {D : List Int} (h : QTo b w m er D w') : w.grownBy w' (some b) := h.2
theorem qd_at {w : World} {b m : Nat} {er : Int} {D : List Int} (h : Qd w b m er D) : bok D ∧ m ≤ D.length ∧ D.length ≤ 2000000 := by
  obtain ⟨_, _, _, _, _, _, h1, h2, h3⟩ := h
  exact ⟨h1, h3, h2⟩
theorem drop_rest {D r p : List Int} {m : Nat} (h : D.drop m = p ++ r) (hm : m ≤ D.length) : D.length - r.length ≤ D.length ∧ D.drop (D.length - r.length) = r := by
  refine ⟨by omega, ?_⟩
  have hl : (D.drop m).length = p.length + r.length := by rw [h, List.length_append]
  rw [List.length_drop] at hl
  have e : D.length - r.length = m + p.length := by omega
  rw [e, ← List.drop_drop, h, List.drop_left' rfl]
theorem rg_drop {D : List Int} {m : Nat} (hb : bok D) (hm : m ≤ D.length) (h0 : (Oc.rg (D.drop m)).1 = 0) : D.length - (Oc.rg (D.drop m)).2.2.length ≤ D.length ∧ D.drop (D.length - (Oc.rg (D.drop m)).2.2.length) = (Oc.rg (D.drop m)).2.2 := by
  have e1 : Oc.rg (D.drop m) = (0, (Oc.rg (D.drop m)).2.1, (Oc.rg (D.drop m)).2.2) := by rw [← h0]
  exact drop_rest (Oc.rg_inv (fun x hx => hb x (List.mem_of_mem_drop hx)) e1).2 hm
/-- Where a count leaves the reader. -/
theorem qcnt_drop {D : List Int} {m : Nat} {most : Int} (hb : bok D) (hm : m ≤ D.length) : (if (qcnt most (D.drop m)).1 = 0 then D.length - (qcnt most (D.drop m)).2.2.length else m) ≤ D.length ∧ D.drop (if (qcnt most (D.drop m)).1 = 0 then D.length - (qcnt most (D.drop m)).2.2.length else m) = (qcnt most (D.drop m)).2.2 := by
  by_cases h0 : (Oc.rg (D.drop m)).1 = 0
  · by_cases h1 : ((Oc.rg (D.drop m)).2.1 : Int) ≤ most
    · have e : qcnt most (D.drop m) = (0, (Oc.rg (D.drop m)).2.1, (Oc.rg (D.drop m)).2.2) := by unfold qcnt; rw [if_neg (fun h => h h0), if_neg (fun h => h h1)]
      rw [e, if_pos rfl]
      exact rg_drop hb hm h0
    · have e : qcnt most (D.drop m) = (Oc.longE (Oc.rg (D.drop m)).2.1, 0, D.drop m) := by unfold qcnt; rw [if_neg (fun h => h h0), if_pos h1]
      rw [e, if_neg (Oc.longE_ne _)]
      exact ⟨hm, rfl⟩
  · have e : qcnt most (D.drop m) = ((Oc.rg (D.drop m)).1, 0, D.drop m) := by unfold qcnt; rw [if_pos h0]
    rw [e, if_neg h0]
    exact ⟨hm, rfl⟩
set_option maxRecDepth 100000 in
set_option maxHeartbeats 4000000 in
theorem qcount_any {w : World} {b m : Nat} {D : List Int} (h : Qd w b m 0 D) (most : Int) (hm1 : most < 9223372036854775808) :
    Calls Tryz.prog 28 #[.pointer (some ⟨b, 0, none⟩), .int .i64 most] w fun e w' => e = .returned (.int .i64 ((qcnt most (D.drop m)).2.1 : Int)) ∧ QTo b w (if (qcnt most (D.drop m)).1 = 0 then D.length - (qcnt most (D.drop m)).2.2.length else m) (qcnt most (D.drop m)).1 D w' := by
  have hg := qgroups_any h
  obtain ⟨hbk, hmD, hlD⟩ := qd_at h
  have hrd := rg_drop (m := m) hbk hmD
  have hN : (Oc.rg (D.drop m)).1 = 0 → (Oc.rg (D.drop m)).2.1 < 18446744073709551616 := fun h0 => by
    have e1 : Oc.rg (D.drop m) = (0, (Oc.rg (D.drop m)).2.1, (Oc.rg (D.drop m)).2.2) := by rw [← h0]
    exact (Oc.rg_inv (fun x hx => hbk x (List.mem_of_mem_drop hx)) e1).1
  have hN0 : ¬ (Oc.rg (D.drop m)).1 = 0 → (Oc.rg (D.drop m)).2.1 = 0 := fun h0 => Oc.rgF_err 10 0 0 _ h0
  unfold qcnt
  obtain ⟨⟨E, N, R⟩, hF⟩ : ∃ F, F = Oc.rg (D.drop m) := ⟨_, rfl⟩
  rw [← hF] at hg hrd hN hN0 ⊢
  dsimp only at hg hrd hN hN0 ⊢
  obtain ⟨c1, c2, f1⟩ := qd_cells h
  have HG := Lib.hid hg
  have HH := Lib.hid h
  have HM : Hid (m ≤ D.length) := hmD
  clear hF hg h c2 f1 hmD hbk
  by_cases hE : E = 0
  · subst hE
    have hN1 := hN rfl
    have HR := Lib.hid (hrd rfl)
    obtain ⟨m2, hm2⟩ : ∃ m2, m2 = D.length - R.length := ⟨_, rfl⟩
    rw [if_pos rfl, ← hm2] at HG
    rw [if_neg (fun h => h rfl)]
    clear hN hN0 hrd
    by_cases hbig : (9223372036854775807 : Int) < (N : Int)
    · have e : ¬ (N : Int) ≤ most := by omega
      have e3 : Oc.longE N = 3 := by unfold Oc.longE; rw [if_neg (by omega)]
      rw [if_pos e, e3]
      dsimp only
      rw [if_neg (by decide)]
      clear hm2 e e3
      go_enter Tryz.func28, Tryz.ntmps28
      go_wp2_with (first
        | (go_at_call 58; (with_reducible refine (qfail_yes HQ2.out.st 3 m HM.out).mono ?_); rintro e w3 ⟨rfl, hq3⟩
           obtain ⟨d1, d2, _⟩ := qd_cells hq3.st
           have HQ3 := Lib.hid (QTo.trans HQ2.out.gr hq3)
           clear hq3)
        | (go_at_call 59; (with_reducible refine HG.out.mono ?_); rintro e w2 ⟨rfl, hq2⟩
           obtain ⟨c4, c5, _⟩ := qd_cells hq2.st
           have HQ2 := Lib.hid hq2
           clear hq2))
      go_ret
      exact ⟨rfl, HQ3.out⟩
    · have td1 : decide ((9223372036854775807 : Int) < (N : Int)) = false := decide_eq_false hbig
      have hwN : IntKind.i64.wrap (N : Int) = (N : Int) := by rw [IntKind.wrap_i64]; omega
      by_cases hlong : most < (N : Int)
      · have e : ¬ (N : Int) ≤ most := by omega
        have e3 : Oc.longE N = 2 := by unfold Oc.longE; rw [if_pos (by omega)]
        rw [if_pos e, e3]
        dsimp only
        rw [if_neg (by decide)]
        clear hm2 e e3
        go_enter Tryz.func28, Tryz.ntmps28
        go_wp2_with (first
          | (go_at_call 58; (with_reducible refine (qfail_yes HQ2.out.st 2 m HM.out).mono ?_); rintro e w3 ⟨rfl, hq3⟩
             obtain ⟨d1, d2, _⟩ := qd_cells hq3.st
             have HQ3 := Lib.hid (QTo.trans HQ2.out.gr hq3)
             clear hq3)
          | (go_at_call 59; (with_reducible refine HG.out.mono ?_); rintro e w2 ⟨rfl, hq2⟩
             obtain ⟨c4, c5, _⟩ := qd_cells hq2.st
             have HQ2 := Lib.hid hq2
             clear hq2))
        go_ret
        exact ⟨rfl, HQ3.out⟩
      · have td2 : decide (most < (N : Int)) = false := decide_eq_false hlong
        have e : ¬ ¬ (N : Int) ≤ most := by omega
        rw [if_neg e]
        dsimp only
        rw [if_pos rfl, ← hm2]
        clear hm2 e
        go_enter Tryz.func28, Tryz.ntmps28
        go_wp2_with (first
          | (go_at_call 59; (with_reducible refine HG.out.mono ?_); rintro e w2 ⟨rfl, hq2⟩
             obtain ⟨c4, c5, _⟩ := qd_cells hq2.st
             have HQ2 := Lib.hid hq2
             clear hq2))
        go_ret
        exact ⟨rfl, HQ2.out⟩
  · have hn0 := hN0 hE
    subst hn0
    rw [if_neg hE] at HG
    rw [if_pos hE]
    dsimp only
    rw [if_neg hE]
    clear hN hN0 hrd
    go_enter Tryz.func28, Tryz.ntmps28
    go_wp2_with (first
      | (go_at_call 59; (with_reducible refine HG.out.mono ?_); rintro e w2 ⟨rfl, hq2⟩
         obtain ⟨c4, c5, _⟩ := qd_cells hq2.st
         have HQ2 := Lib.hid hq2
         clear hq2))
    go_ret
    exact ⟨rfl, HQ2.out⟩
theorem slice_midG (A : Option Addr) (n cap q r : Nat) (h : q ≤ r) (h2 : r ≤ cap) : ∃ A' : Option Addr, (q < r → ∀ g o, A = some ⟨g, o, none⟩ → A' = some ⟨g, o + q, none⟩) ∧ ∀ W : World, (Instr.slice 22 (.slice A n cap) (some (.int .i64 (q : Int))) (some (.int .i64 (r : Int))) none).run Tryz.prog W = .ok (.slice A' (r - q) (cap - q)) W := by
  obtain ⟨i0, hi0, hz0, hz1, hz2⟩ := info_parts u8Inf
  cases A with
  | none =>
    refine ⟨none, fun _ g o e => (by cases e), fun W => ?_⟩
    simp [Instr.slice, Instr.sliceBounds, Instr.sliceBound, asIntOf, run_underlying Tryz.underlying22, h, h2]
  | some a =>
    by_cases hq : cap = q
    · refine ⟨some a, fun hlt => by omega, fun W => ?_⟩
      have h3 : r = q := by omega
      subst hq h3
      simp [Instr.slice, Instr.sliceBounds, Instr.sliceBound, asIntOf, run_underlying Tryz.underlying22, Go.sizeOf, typeInfo, hi0]
    · refine ⟨some (a.add q), fun _ g o e => ?_, fun W => ?_⟩
      · cases e
        unfold Addr.add; split <;> simp_all
      · simp [Instr.slice, Instr.sliceBounds, Instr.sliceBound, asIntOf, run_underlying Tryz.underlying22, h, h2, Go.sizeOf, typeInfo, hi0, hz1, hq]
theorem bat_midG {w : World} {A A' : Option Addr} {n cap : Nat} {l : List Int} (h : BAt w (.slice A n cap) l) (q r : Nat) (hA : q < r → ∀ g o, A = some ⟨g, o, none⟩ → A' = some ⟨g, o + q, none⟩) (hq : q ≤ r) (hr : r ≤ n) : BAt w (.slice A' (r - q) (cap - q)) ((l.drop q).take (r - q)) := by
  obtain ⟨A2, cap', h1, h2, h3⟩ := h
  cases h1
  have hl : ((l.drop q).take (r - q)).length = r - q := by rw [List.length_take, List.length_drop]; omega
  refine ⟨A', cap - q, by rw [hl], by rw [hl]; omega, fun hp => ?_⟩
  rw [hl] at hp ⊢
  obtain ⟨g', o', h4, h5, h6⟩ := h3 (by omega)
  refine ⟨g', o' + q, hA (by omega) g' o' h4, h5, fun i hi => ?_⟩
  rw [getD_take hi, getD_drop, Nat.add_assoc]
  exact h6 (q + i) (by omega)
end Go.Proofs.YtganokcmcdkdgaaGreat.Sp
