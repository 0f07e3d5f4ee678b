/-
  The reference's Count, Bytes, Text, Done. Conditions: at most two million bytes.
-/
import Derived.Test.YtklngdmpledgeaaGreatJZ28
import Derived.Test.YtklngdmpledgeaaGreatJZ26
import Derived.Test.YtklngdmpledgeaaGreatJZ20
import Derived.Test.YtklngdmpledgeaaGreatJZ27
import Derived.Deep.RegionHeld3
import Derived.Test.YtklngdmpledgeaaGreatJTrim
import Derived.Test.YtklngdmpledgeaaGreatJZ18
import Derived.Test.YtklngdmpledgeaaGreatJZ8
namespace Go.Proofs.YtklngdmpledgeaaGreat.Sp
open Go.RowKit Fr
attribute [local go_sem] Oper.semAt_some

/-- A count of at most so many. -/
def qcnt (most : Int) (l : List Int) : Int × Nat × List Int :=
  if (Oc.rg l).1 ≠ 0 then ((Oc.rg l).1, 0, l)
  else if ¬ ((Oc.rg l).2.1 : Int) ≤ most then (Oc.longE (Oc.rg l).2.1, 0, l)
  else (0, (Oc.rg l).2.1, (Oc.rg l).2.2)
theorem qd_cells {w : World} {b m : Nat} {er : Int} {D : List Int} (h : Qd w b m er D) : w.cell? ⟨b, 1, none⟩ = some (.int .i64 (m : Int)) ∧ w.cell? ⟨b, 2, none⟩ = some (.int .i64 er) ∧ w.frozen? ⟨b, 1, none⟩ = false := by
  obtain ⟨A, n, c, h1, _⟩ := h
  obtain ⟨⟨c0, c1, c2⟩, f0, f1, f2⟩ := three h1
  exact ⟨c1, c2, f1⟩
theorem QTo.st {b m : Nat} {w w' : World} {er : Int} {D : List Int} (h : QTo b w m er D w') : Qd w' b m er D := h.1
theorem QTo.gr {b m : Nat} {w w' : World} {er : Int} {D : List Int} (h : QTo b w m er D w') : w.grownBy w' (some b) := h.2
theorem qd_at {w : World} {b m : Nat} {er : Int} {D : List Int} (h : Qd w b m er D) : bok D ∧ m ≤ D.length ∧ D.length ≤ 2000000 := by
  obtain ⟨_, _, _, _, _, _, h1, h2, h3⟩ := h
  exact ⟨h1, h3, h2⟩
theorem drop_rest {D r p : List Int} {m : Nat} (h : D.drop m = p ++ r) (hm : m ≤ D.length) : D.length - r.length ≤ D.length ∧ D.drop (D.length - r.length) = r := by
  refine ⟨by omega, ?_⟩
  have hl : (D.drop m).length = p.length + r.length := by rw [h, List.length_append]
  rw [List.length_drop] at hl
  have e : D.length - r.length = m + p.length := by omega
  rw [e, ← List.drop_drop, h, List.drop_left' rfl]
theorem rg_drop {D : List Int} {m : Nat} (hb : bok D) (hm : m ≤ D.length) (h0 : (Oc.rg (D.drop m)).1 = 0) : D.length - (Oc.rg (D.drop m)).2.2.length ≤ D.length ∧ D.drop (D.length - (Oc.rg (D.drop m)).2.2.length) = (Oc.rg (D.drop m)).2.2 := by
  have e1 : Oc.rg (D.drop m) = (0, (Oc.rg (D.drop m)).2.1, (Oc.rg (D.drop m)).2.2) := by rw [← h0]
  exact drop_rest (Oc.rg_inv (fun x hx => hb x (List.mem_of_mem_drop hx)) e1).2 hm
/-- Where a count leaves the reader. -/
theorem qcnt_drop {D : List Int} {m : Nat} {most : Int} (hb : bok D) (hm : m ≤ D.length) : (if (qcnt most (D.drop m)).1 = 0 then D.length - (qcnt most (D.drop m)).2.2.length else m) ≤ D.length ∧ D.drop (if (qcnt most (D.drop m)).1 = 0 then D.length - (qcnt most (D.drop m)).2.2.length else m) = (qcnt most (D.drop m)).2.2 := by
  by_cases h0 : (Oc.rg (D.drop m)).1 = 0
  · by_cases h1 : ((Oc.rg (D.drop m)).2.1 : Int) ≤ most
    · have e : qcnt most (D.drop m) = (0, (Oc.rg (D.drop m)).2.1, (Oc.rg (D.drop m)).2.2) := by unfold qcnt; rw [if_neg (fun h => h h0), if_neg (fun h => h h1)]
      rw [e, if_pos rfl]
      exact rg_drop hb hm h0
    · have e : qcnt most (D.drop m) = (Oc.longE (Oc.rg (D.drop m)).2.1, 0, D.drop m) := by unfold qcnt; rw [if_neg (fun h => h h0), if_pos h1]
      rw [e, if_neg (Oc.longE_ne _)]
      exact ⟨hm, rfl⟩
  · have e : qcnt most (D.drop m) = ((Oc.rg (D.drop m)).1, 0, D.drop m) := by unfold qcnt; rw [if_pos h0]
    rw [e, if_neg h0]
    exact ⟨hm, rfl⟩
set_option maxRecDepth 100000 in
set_option maxHeartbeats 4000000 in
theorem qcount_any {w : World} {b m : Nat} {D : List Int} (h : Qd w b m 0 D) (most : Int) (hm1 : most < 9223372036854775808) :
    Calls Tryz.prog 21 #[.pointer (some ⟨b, 0, none⟩), .int .i64 most] w fun e w' => e = .returned (.int .i64 ((qcnt most (D.drop m)).2.1 : Int)) ∧ QTo b w (if (qcnt most (D.drop m)).1 = 0 then D.length - (qcnt most (D.drop m)).2.2.length else m) (qcnt most (D.drop m)).1 D w' := by
  have hg := qgroups_any h
  obtain ⟨hbk, hmD, hlD⟩ := qd_at h
  have hrd := rg_drop (m := m) hbk hmD
  have hN : (Oc.rg (D.drop m)).1 = 0 → (Oc.rg (D.drop m)).2.1 < 18446744073709551616 := fun h0 => by
    have e1 : Oc.rg (D.drop m) = (0, (Oc.rg (D.drop m)).2.1, (Oc.rg (D.drop m)).2.2) := by rw [← h0]
    exact (Oc.rg_inv (fun x hx => hbk x (List.mem_of_mem_drop hx)) e1).1
  have hN0 : ¬ (Oc.rg (D.drop m)).1 = 0 → (Oc.rg (D.drop m)).2.1 = 0 := fun h0 => Oc.rgF_err 10 0 0 _ h0
  unfold qcnt
  obtain ⟨⟨E, N, R⟩, hF⟩ : ∃ F, F = Oc.rg (D.drop m) := ⟨_, rfl⟩
  rw [← hF] at hg hrd hN hN0 ⊢
  dsimp only at hg hrd hN hN0 ⊢
  obtain ⟨c1, c2, f1⟩ := qd_cells h
  have HG := Lib.hid hg
  have HH := Lib.hid h
  have HM : Hid (m ≤ D.length) := hmD
  clear hF hg h c2 f1 hmD hbk
  by_cases hE : E = 0
  · subst hE
    have hN1 := hN rfl
    have HR := Lib.hid (hrd rfl)
    obtain ⟨m2, hm2⟩ : ∃ m2, m2 = D.length - R.length := ⟨_, rfl⟩
    rw [if_pos rfl, ← hm2] at HG
    rw [if_neg (fun h => h rfl)]
    clear hN hN0 hrd
    by_cases hbig : (9223372036854775807 : Int) < (N : Int)
    · have e : ¬ (N : Int) ≤ most := by omega
      have e3 : Oc.longE N = 3 := by unfold Oc.longE; rw [if_neg (by omega)]
      rw [if_pos e, e3]
      dsimp only
      rw [if_neg (by decide)]
      clear hm2 e e3
      go_enter Tryz.func21, Tryz.ntmps21
      go_wp2_with (first
        | (go_at_call 42; (with_reducible refine (qfail_yes HQ2.out.st 3 m HM.out).mono ?_); rintro e w3 ⟨rfl, hq3⟩
           obtain ⟨d1, d2, _⟩ := qd_cells hq3.st
           have HQ3 := Lib.hid (QTo.trans HQ2.out.gr hq3)
           clear hq3)
        | (go_at_call 41; (with_reducible refine HG.out.mono ?_); rintro e w2 ⟨rfl, hq2⟩
           obtain ⟨c4, c5, _⟩ := qd_cells hq2.st
           have HQ2 := Lib.hid hq2
           clear hq2))
      go_ret
      exact ⟨rfl, HQ3.out⟩
    · have td1 : decide ((9223372036854775807 : Int) < (N : Int)) = false := decide_eq_false hbig
      have hwN : IntKind.i64.wrap (N : Int) = (N : Int) := by rw [IntKind.wrap_i64]; omega
      by_cases hlong : most < (N : Int)
      · have e : ¬ (N : Int) ≤ most := by omega
        have e3 : Oc.longE N = 2 := by unfold Oc.longE; rw [if_pos (by omega)]
        rw [if_pos e, e3]
        dsimp only
        rw [if_neg (by decide)]
        clear hm2 e e3
        go_enter Tryz.func21, Tryz.ntmps21
        go_wp2_with (first
          | (go_at_call 42; (with_reducible refine (qfail_yes HQ2.out.st 2 m HM.out).mono ?_); rintro e w3 ⟨rfl, hq3⟩
             obtain ⟨d1, d2, _⟩ := qd_cells hq3.st
             have HQ3 := Lib.hid (QTo.trans HQ2.out.gr hq3)
             clear hq3)
          | (go_at_call 41; (with_reducible refine HG.out.mono ?_); rintro e w2 ⟨rfl, hq2⟩
             obtain ⟨c4, c5, _⟩ := qd_cells hq2.st
             have HQ2 := Lib.hid hq2
             clear hq2))
        go_ret
        exact ⟨rfl, HQ3.out⟩
      · have td2 : decide (most < (N : Int)) = false := decide_eq_false hlong
        have e : ¬ ¬ (N : Int) ≤ most := by omega
        rw [if_neg e]
        dsimp only
        rw [if_pos rfl, ← hm2]
        clear hm2 e
        go_enter Tryz.func21, Tryz.ntmps21
        go_wp2_with (first
          | (go_at_call 41; (with_reducible refine HG.out.mono ?_); rintro e w2 ⟨rfl, hq2⟩
             obtain ⟨c4, c5, _⟩ := qd_cells hq2.st
             have HQ2 := Lib.hid hq2
             clear hq2))
        go_ret
        exact ⟨rfl, HQ2.out⟩
  · have hn0 := hN0 hE
    subst hn0
    rw [if_neg hE] at HG
    rw [if_pos hE]
    dsimp only
    rw [if_neg hE]
    clear hN hN0 hrd
    go_enter Tryz.func21, Tryz.ntmps21
    go_wp2_with (first
      | (go_at_call 41; (with_reducible refine HG.out.mono ?_); rintro e w2 ⟨rfl, hq2⟩
         obtain ⟨c4, c5, _⟩ := qd_cells hq2.st
         have HQ2 := Lib.hid hq2
         clear hq2))
    go_ret
    exact ⟨rfl, HQ2.out⟩
theorem slice_midG (A : Option Addr) (n cap q r : Nat) (h : q ≤ r) (h2 : r ≤ cap) : ∃ A' : Option Addr, (q < r → ∀ g o, A = some ⟨g, o, none⟩ → A' = some ⟨g, o + q, none⟩) ∧ ∀ W : World, (Instr.slice 22 (.slice A n cap) (some (.int .i64 (q : Int))) (some (.int .i64 (r : Int))) none).run Tryz.prog W = .ok (.slice A' (r - q) (cap - q)) W := by
  obtain ⟨i0, hi0, hz0, hz1, hz2⟩ := info_parts u8Inf
  cases A with
  | none =>
    refine ⟨none, fun _ g o e => (by cases e), fun W => ?_⟩
    simp [Instr.slice, Instr.sliceBounds, Instr.sliceBound, asIntOf, run_underlying Tryz.underlying22, h, h2]
  | some a =>
    by_cases hq : cap = q
    · refine ⟨some a, fun hlt => by omega, fun W => ?_⟩
      have h3 : r = q := by omega
      subst hq h3
      simp [Instr.slice, Instr.sliceBounds, Instr.sliceBound, asIntOf, run_underlying Tryz.underlying22, Go.sizeOf, typeInfo, hi0]
    · refine ⟨some (a.add q), fun _ g o e => ?_, fun W => ?_⟩
      · cases e
        unfold Addr.add; split <;> simp_all
      · simp [Instr.slice, Instr.sliceBounds, Instr.sliceBound, asIntOf, run_underlying Tryz.underlying22, h, h2, Go.sizeOf, typeInfo, hi0, hz1, hq]
theorem bat_midG {w : World} {A A' : Option Addr} {n cap : Nat} {l : List Int} (h : BAt w (.slice A n cap) l) (q r : Nat) (hA : q < r → ∀ g o, A = some ⟨g, o, none⟩ → A' = some ⟨g, o + q, none⟩) (hq : q ≤ r) (hr : r ≤ n) : BAt w (.slice A' (r - q) (cap - q)) ((l.drop q).take (r - q)) := by
  obtain ⟨A2, cap', h1, h2, h3⟩ := h
  cases h1
  have hl : ((l.drop q).take (r - q)).length = r - q := by rw [List.length_take, List.length_drop]; omega
  refine ⟨A', cap - q, by rw [hl], by rw [hl]; omega, fun hp => ?_⟩
  rw [hl] at hp ⊢
  obtain ⟨g', o', h4, h5, h6⟩ := h3 (by omega)
  refine ⟨g', o' + q, hA (by omega) g' o' h4, h5, fun i hi => ?_⟩
  rw [getD_take hi, getD_drop, Nat.add_assoc]
  exact h6 (q + i) (by omega)
end Go.Proofs.YtklngdmpledgeaaGreat.Sp

namespace Go.Proofs.YtklngdmpledgeaaGreat.Jo
open Go.RowKit Fr Sr
attribute [local go_sem] Oper.semAt_some

theorem pos_frs : ∀ (k p : Nat) (l : List Int) (i : Nat) (x : Fr), (Fr.frs k p l)[i]? = some x → x.1 = p + whF ((Fr.frs k p l).take i)
  | 0, _, _, i, x, h => by simp [Fr.frs] at h
  | k + 1, p, l, i, x, h => by
    unfold Fr.frs at h ⊢
    split at h
    · rename_i hn
      rw [if_pos hn]
      cases i with
      | zero => simp at h; subst h; simp [whF]
      | succ i =>
        rw [List.getElem?_cons_succ] at h
        have h1 := pos_frs k (p + nxN l) (l.drop (nxN l)) i x h
        have h2 := (nxN_ok hn).1
        rw [h1, List.take_succ_cons]
        simp only [whF, List.map_cons, List.sum_cons]
        omega
    · simp at h
/-- The first i frames are counted. -/
structure CQ (L : List Int) (i : Nat) (cs : List Rc) : Prop where
  len : cs.length = i
  eq : cnt L = cs ++ cntF (nxt cs) ((allF L).drop i)
  pos : whole cs = whF ((allF L).take i)
  le : ∀ r ∈ recs cs, r.1 ≤ 4611686018427387903
theorem CQ.nil (L : List Int) : CQ L 0 [] := ⟨rfl, by simp [cnt, nxt], rfl, fun r hr => by cases hr⟩
theorem whF_pos {xs : List Fr} (h : 0 < xs.length) : 0 < whF xs := by
  cases xs with
  | nil => cases h
  | cons x r => simp only [whF, List.map_cons, List.sum_cons]; omega
theorem CQ.fin {L : List Int} {i : Nat} {cs : List Rc} (h : CQ L i cs) (hi : (allF L).length ≤ i) : cnt L = cs := by
  rw [h.eq, List.drop_eq_nil_of_le hi]
  simp [cntF]
theorem drop_get {α : Type} {l : List α} {i : Nat} {x : α} (h : l[i]? = some x) : l.drop i = x :: l.drop (i + 1) := by
  obtain ⟨hi, e⟩ := List.getElem?_eq_some_iff.1 h
  rw [List.drop_eq_getElem_cons hi, e]
theorem CQ.none {L : List Int} {i : Nat} {cs : List Rc} {x : Fr} (h : CQ L i cs) (hx : (allF L)[i]? = some x) (hd : dec x.2 = none) : cnt L = cs := by
  rw [h.eq, drop_get hx, cntF_none hd, List.append_nil]
theorem CQ.pos0 {L : List Int} {i : Nat} {cs : List Rc} {x : Fr} (h : CQ L i cs) (hx : (allF L)[i]? = some x) : x.1 = whole cs ∧ (0 < x.1 ↔ 0 < i) := by
  have h1 := pos_frs _ _ _ i x hx
  have h2 : x.1 = whole cs := by rw [h.pos, h1]; unfold allF; omega
  have hi := (List.getElem?_eq_some_iff.1 hx).1
  refine ⟨h2, fun h0 => ?_, fun h0 => ?_⟩
  · rcases Nat.eq_zero_or_pos i with e | e
    · subst e
      rw [h1] at h0
      simp [whF] at h0
    · exact e
  · rw [h1]
    have := whF_pos (xs := (Fr.frs (L.length + 1) 0 L).take i) (by unfold allF at hi; rw [List.length_take]; omega)
    omega
theorem CQ.bad {L : List Int} {i : Nat} {cs : List Rc} {x : Fr} {y : Nat × List Int} (h : CQ L i cs) (hx : (allF L)[i]? = some x) (hd : dec x.2 = some y) (hi : 0 < i) (hn : y.1 ≠ nxt cs) : cnt L = cs := by
  rw [h.eq, drop_get hx, cntF_bad hd ⟨(h.pos0 hx).2.2 hi, hn⟩, List.append_nil]
theorem CQ.next {L : List Int} {i : Nat} {cs : List Rc} {x : Fr} {y : Nat × List Int} (h : CQ L i cs) (hx : (allF L)[i]? = some x) (hd : dec x.2 = some y) (hn : i = 0 ∨ y.1 = nxt cs) : CQ L (i + 1) (cs ++ [(x.1 + x.2.length + 8, y)]) := by
  have hp := h.pos0 hx
  refine ⟨by rw [List.length_append, h.len]; rfl, ?_, ?_, fun r hr => ?_⟩
  · rw [nxt_snoc, h.eq, drop_get hx, cntF_good hd (fun h2 => ?_)]
    · simp
    · rcases hn with e | e
      · have := hp.2.1 h2.1; omega
      · exact h2.2 e
  · rw [whole_snoc]
    obtain ⟨hi, e⟩ := List.getElem?_eq_some_iff.1 hx
    rw [List.take_succ_eq_append_getElem hi, e, whF_snoc, ← h.pos, ← hp.1]
    show x.1 + x.2.length + 8 = _
    omega
  · rw [recs_snoc] at hr
    rcases List.mem_append.1 hr with h1 | h1
    · exact h.le r h1
    · simp at h1; subst h1; exact dec_le hd
theorem dec_qcnt (l : List Int) : (Sp.qcnt 4611686018427387903 l).1 = 0 ↔ dec l ≠ none := by
  unfold Sp.qcnt dec
  by_cases h0 : (Oc.rg l).1 = 0
  · by_cases h1 : (Oc.rg l).2.1 ≤ 4611686018427387903
    · rw [if_neg (fun h => h h0), if_neg (fun h => h (by omega)), if_pos ⟨h0, h1⟩]; simp
    · rw [if_neg (fun h => h h0), if_pos (by omega), if_neg (fun h => h1 h.2)]
      simp [Oc.longE_ne]
  · rw [if_pos h0, if_neg (fun h => h0 h.1)]
    simp [h0]
theorem dec_some {l : List Int} {y : Nat × List Int} (h : dec l = some y) : Sp.qcnt 4611686018427387903 l = (0, y.1, y.2) := by
  unfold dec at h
  split at h
  · rename_i hc
    have h2 := Option.some.inj h
    unfold Sp.qcnt
    rw [if_neg (fun h => h hc.1), if_neg (fun h => h (by have := hc.2; omega)), ← h2]
  · cases h
end Go.Proofs.YtklngdmpledgeaaGreat.Jo

namespace Go.Proofs.YtklngdmpledgeaaGreat.Jo
open Go.RowKit Fr Sr

theorem rp_alike {L L' : List Fi} (h : Sr.Alike L L') (hk : KeysL L) (hk' : KeysL L') (s : S) (bs : List Int) : rpE s L' bs = rpE s L bs ∧ rpS s L' bs = rpS s L bs ∧ Sr.Alike (rpL s L bs) (rpL s L' bs) := by
  obtain ⟨e1, e2, e3⟩ := wri_alike h s knew bs
  obtain ⟨f1, f2, f3⟩ := ren_alike e3 (keys_wri knew bs hk) (keys_wri knew bs hk') (wriS s L knew bs.length) knew klog
  unfold rpE rpS rpL
  rw [e1, e2]
  split
  · exact ⟨f1, f2, f3⟩
  · exact ⟨rfl, rfl, e3⟩
theorem app_alike {L L' : List Fi} (h : Sr.Alike L L') (s : S) (bs : List Int) : Sr.Alike (appL s L klog bs) (appL s L' klog bs) := by
  unfold appL
  rw [(h klog).2]
  split
  · split
    · exact h.put _ _ _ _
    · exact h
  · exact h
def keyR (rs : List Re) (k : Int) : Nat := (rs.takeWhile fun r => decide ((r.1 : Int) < k)).length
theorem tw_map : ∀ (xs : List Xr) (rs : List Re) (k : Int), xs.map (·.1) = rs.map (fun r => (r.1 : Int)) → Tb.pl xs k = keyR rs k
  | [], [], _, _ => rfl
  | [], _ :: _, _, h => by cases h
  | _ :: _, [], _, h => by cases h
  | x :: xs, r :: rs, k, h => by
    have h1 : x.1 = (r.1 : Int) := (List.cons.inj h).1
    have h2 := tw_map xs rs k (List.cons.inj h).2
    have h3 : (xs.takeWhile fun r => decide (r.1 < k)).length = (rs.takeWhile fun r => decide ((r.1 : Int) < k)).length := h2
    show ((x :: xs).takeWhile fun r => decide (r.1 < k)).length = ((r :: rs).takeWhile fun r => decide ((r.1 : Int) < k)).length
    rw [List.takeWhile_cons, List.takeWhile_cons, h1]
    by_cases hc : (r.1 : Int) < k
    · simp only [hc, decide_true, if_true, List.length_cons, h3]
    · simp only [hc, decide_false]; rfl
theorem pl_vals {w : World} {T : Nat → Prop} {xs : List Xr} {rs : List Re} (h : Vals w T xs rs) (k : Int) : Tb.pl xs k = keyR rs k := by
  refine tw_map xs rs k (List.ext_getElem? fun i => ?_)
  rw [List.getElem?_map, List.getElem?_map]
  cases hx : xs[i]? with
  | none =>
    have h1 : rs[i]? = none := List.getElem?_eq_none (by have := List.getElem?_eq_none_iff.1 hx; rw [← h.1]; exact this)
    rw [h1]; rfl
  | some x =>
    have hi : i < rs.length := by rw [← h.1]; exact (List.getElem?_eq_some_iff.1 hx).1
    rw [List.getElem?_eq_getElem hi]
    simp only [Option.map_some, Option.some.injEq]
    exact (h.2 i x _ hx (List.getElem?_eq_getElem hi)).1
/-- A store with room for a thousand bytes that is not armed. -/
def US (u : Int) : S := ⟨false, 0, false, 1000, u⟩
theorem us_app (u : Int) (m : Nat) (h : u + m ≤ 1000) : appE (US u) klog m = 0 ∧ appS (US u) klog m = US (u + m) := by
  have e1 : rdy (US u).d [klog] = 0 := okLog
  have e2 : ¬ (US u).room < (US u).used + (m : Int) := by unfold US; simp; omega
  have e3 : useS (US u) (m : Int) = US u := rfl
  have e4 : useN (US u) (m : Int) = m := by simp [useN, US]
  refine ⟨?_, ?_⟩
  · unfold appE
    rw [e1, if_neg (by decide), if_neg e2, e3]
    rfl
  · unfold appS
    rw [if_pos ⟨e1, e2⟩, e3, e4, if_pos (by omega)]
    rfl
theorem us_appL (u : Int) (L : List Fi) (bs : List Int) (h : u + bs.length ≤ 1000) : appL (US u) L klog bs = putL L klog (dv, bytL L klog ++ bs) := by
  have e1 : rdy (US u).d [klog] = 0 := okLog
  have e2 : ¬ (US u).room < (US u).used + (bs.length : Int) := by unfold US; simp; omega
  have e4 : useN (US u) (bs.length : Int) = bs.length := by simp [useN, US]
  unfold appL
  rw [if_pos ⟨e1, e2⟩, e4, if_pos (by omega)]
  simp
section
variable {w : World} {p j t nx : Nat} {u : Int} {mb : Option Nat} {L : List Fi} {sv : Value} {xs : List Xr} {rs : List Re}
theorem k_open (h : StR w p (US 0) none []) : Calls Tryz.prog 7 #[.pointer (some ⟨p, 0, none⟩)] w fun e w' => ∃ j t sv xs mb' L', e = .returned (.tuple #[.pointer (some ⟨j, 0, none⟩), .int .i64 0]) ∧ JSt w' p (US 0) mb' L' j t true 0 sv xs [] ∧ Sr.Alike [] L' ∧ Off (fun i => i = p) w w' ∧ (∀ i, Tj p mb' L' j t sv i → i = p ∨ w.heap.size ≤ i) := by
  have e0 : bytL ([] : List Fi) klog = [] := rfl
  have hc : cnt [] = [] := by unfold cnt allF; rfl
  have ho := open_ok h rfl (by rw [e0]; decide) (by rw [e0]; intro x hx; cases hx) (by rw [e0, hc]; intro h1; exact absurd h1 (by decide))
  rw [e0, hc] at ho
  refine ho.mono ?_
  rintro e w' ⟨j, t, sv, xs, mb', L', rfl, hj, hal, hoff, hn, hn2⟩
  refine ⟨j, t, sv, xs, mb', L', rfl, hj, hal, hoff.mono (fun i hi => own_nil hi), fun i hi => ?_⟩
  rcases hi with hi | hi
  · exact (hn i hi).imp (fun e => own_nil e) id
  · exact .inr (hn2 i hi)
theorem k_app (h : JSt w p (US u) mb L j t true nx sv xs rs) (c : Int) (hc : 0 ≤ c ∧ c < 256) {m : Nat} (hm : (recF nx [c]).length = m) (hu : u + m ≤ 1000) (hnx : nx ≤ 4611686018427387903) (hx : xs.length < 900) :
    Calls Tryz.prog 12 #[.pointer (some ⟨j, 0, none⟩), .slice (some ⟨w.heap.size, 0, none⟩) 1 1] (w.alloc (.cells #[.int .u8 c] 5 (1, 2))) fun e w' => e = .returned (.tuple #[.int .i64 (nx : Int), .int .i64 0]) ∧ JMv w w' p mb L j t sv t (fun mb' L' sv' => ∃ xs', JSt w' p (US (u + m)) mb' L' j t true (nx + 1) sv' xs' (rs ++ [(nx, [c])]) ∧ Sr.Alike (putL L klog (dv, bytL L klog ++ recF nx [c])) L' ∧ xs'.length = xs.length + 1) := by
  have hal : Below w.heap.size w (w.alloc (.cells #[.int .u8 c] 5 (1, 2))) := alloc_below _ _
  have hb : BAt (w.alloc (.cells #[.int .u8 c] 5 (1, 2))) (.slice (some ⟨w.heap.size, 0, none⟩) 1 1) [c] := lit_at w [c] (1, 2)
  have ha := append_ok (h.below hal) hb (fun x hx => by simp at hx; omega) (fun hp a n c' ha ht => by
    cases ha
    have := h.tj_lt ht
    exact absurd this (Nat.lt_irrefl _)) (by decide) hnx hx (by rw [hm]; exact (us_app u m hu).1)
  rw [hm, (us_app u m hu).2, us_appL u L _ (by rw [hm]; exact hu)] at ha
  refine ha.mono ?_
  rintro e w' ⟨rfl, hmv⟩
  exact ⟨rfl, JMv.below hal hmv⟩
def kB : List Int := recF 0 [120] ++ recF 1 [121]
theorem kB_num : (recF 0 [120]).length = 10 ∧ (recF 1 [121]).length = 10 ∧ (recF 2 [122]).length = 10 := by decide
theorem k_rp (L : List Fi) (hk : KeysL L) (ha : Sr.Alike [(klog, dv, kB)] L) : rpE (US 20) L (recF 1 [121]) = 0 ∧ rpS (US 20) L (recF 1 [121]) = US 10 := by
  have h1 := rp_alike ha (List.pairwise_singleton _ _) hk (US 20) (recF 1 [121])
  rw [h1.1, h1.2.1]
  exact ⟨by decide, by kernel_rfl⟩
theorem k_trim (h : JSt w p (US 20) mb L j t true 2 sv xs [(0, [120]), (1, [121])]) (ha : Sr.Alike [(klog, dv, kB)] L) : Calls Tryz.prog 35 #[.pointer (some ⟨j, 0, none⟩), .int .i64 1] w fun e w' => e = .returned (.int .i64 0) ∧ ∃ t', JMv w w' p mb L j t sv t' (fun mb' L' sv' => ∃ xs', JSt w' p (US 10) mb' L' j t' true 2 sv' xs' [(1, [121])]) := by
  have hpl : Tb.pl xs 1 = 1 := (pl_vals h.jr.vals 1).trans (by decide)
  have e1 : ([(0, [120]), (1, [121])] : List Re).drop (Tb.pl xs 1) = [(1, [121])] := by rw [hpl]; rfl
  have ht := trim_any h 1 (fun r hr => by
    simp at hr
    rcases hr with rfl | rfl <;> exact ⟨by decide, fun x hx => by simp at hx; omega⟩) (by rw [e1]; decide)
  have e2 : (frs [(1, [121])]).flatten = recF 1 [121] := by simp [frs]
  obtain ⟨e3, e4⟩ := k_rp L h.st.keys ha
  rw [e1, e2, e3, e4] at ht
  refine ht.mono ?_
  rintro e w' ⟨rfl, t', mb', L', sv', ⟨xs', hj, _⟩, ho, hn⟩
  exact ⟨rfl, t', mb', L', sv', ⟨xs', hj⟩, ho, hn⟩
end
end Go.Proofs.YtklngdmpledgeaaGreat.Jo

namespace Go.Proofs.YtklngdmpledgeaaGreat.Oc
open Go.RowKit

theorem own_one (w : World) (x : Int) : (w.alloc (.cells #[.int .u8 x] 5)).ownsRow w.heap.size 5 1 (.slice (some ⟨w.heap.size, 0, none⟩) 1 1) 1 [.int .u8 x] :=
  ⟨rfl, .inr ⟨w.heap.size, 1, #[.int .u8 x], rfl, Nat.le_refl _, heap_alloc_new w _, Nat.le_refl _, by unfold maxLen; omega, rfl, rfl⟩⟩
set_option maxRecDepth 100000 in
theorem fgroups_lv (k : Nat) : ∀ (m : Nat) (w : World), m < 2 * 128 ^ k → k ≤ 9 → Calls Tryz.prog 37 #[.int .u64 (m : Int)] w fun e w' => ∃ v, e = .returned v ∧ w'.ownsRow w.heap.size 5 1 v (grpF k m).length (bv (grpF k m)) ∧ Below w.heap.size w w' := by
  obtain ⟨i0, hi0, hz0, hz1, hz2⟩ := info_parts u8Inf
  induction k with
  | zero =>
    intro m w hm _
    have hm2 : m < 2 := by simpa using hm
    have t1 : (m : Int) < 128 := by omega
    have HO := Lib.hid (own_one w (m : Int))
    have HB : Hid (Below w.heap.size w (w.alloc (.cells #[.int .u8 (m : Int)] 5))) := (Below.refl _ _).alloc (Nat.le_refl _) _
    clear hm
    go_enter Tryz.func37, Tryz.ntmps37
    go_wp2
    go_ret
    exact ⟨_, rfl, HO.out, HB.out⟩
  | succ k ih =>
    intro m w hm hk9
    by_cases h : m < 128
    · rw [grpF_one h]
      have t1 : (m : Int) < 128 := by omega
      have HO := Lib.hid (own_one w (m : Int))
      have HB : Hid (Below w.heap.size w (w.alloc (.cells #[.int .u8 (m : Int)] 5))) := (Below.refl _ _).alloc (Nat.le_refl _) _
      clear hm ih
      go_enter Tryz.func37, Tryz.ntmps37
      go_wp2
      go_ret
      exact ⟨_, rfl, HO.out, HB.out⟩
    · have hle : (128 : Nat) ^ (k + 1) ≤ 128 ^ 9 := Nat.pow_le_pow_right (by decide) hk9
      have e9 : (128 : Nat) ^ 9 = 9223372036854775808 := by decide
      have t1 : ¬ (m : Int) < 128 := by omega
      have t2 : (m : Int) < 18446744073709551616 := by omega
      obtain ⟨c, hc⟩ : ∃ c, c = m % 128 := ⟨_, rfl⟩
      obtain ⟨q, hq⟩ : ∃ q, q = m / 128 := ⟨_, rfl⟩
      have e1 : (m : Int) % 128 = (c : Int) := by omega
      have e2 : (m : Int) / 128 = (q : Int) := by omega
      have HC := Lib.hid (ih q (w.alloc (.cells #[.int .u8 ((c : Int) + 128)] 5)) (by rw [Nat.pow_succ] at hm; omega) (by omega))
      have HG : Hid (grpF (k + 1) m = ((c : Int) + 128) :: grpF k q) := by show _ = _; rw [grpF_more h, hc, hq]
      have HO := Lib.hid (own_one w ((c : Int) + 128))
      have HB : Hid (Below w.heap.size w (w.alloc (.cells #[.int .u8 ((c : Int) + 128)] 5))) := (Below.refl _ _).alloc (Nat.le_refl _) _
      have hlen := grpF_len k q
      have c1 : c < 128 := by omega
      obtain ⟨L, hL⟩ : ∃ L, L = grpF k q := ⟨_, rfl⟩
      rw [HG.out]
      rw [← hL] at HC hlen ⊢
      clear hm ih hc hq hle e9 h HG hL
      go_enter Tryz.func37, Tryz.ntmps37
      go_wp2_with (first
        | (at_builtin; refine wpList_append_own _ rfl _ _ 22 rfl w.heap.size 5 i0 (.int .u8 0) 1 1 Tryz.underlying22 hi0 hz0 hz1 hz2 rfl (by decide) _ _ _ rfl HO1.out ⟨g, 0, none⟩ L.length cp (bv L) rfl (by rw [bv_len]; omega) HL1.out (bv_one _) (by unfold maxLen; omega) (by omega) (by have := B1.out.size; omega) ?_; intro v' w2 hown hgrow hnil)
        | (go_at_call 37; refine HC.out.mono ?_; rintro e w1 ⟨v, rfl, ho1, hb1⟩
           obtain ⟨g, cp, rfl, hbg, _⟩ := ho1.form (by omega)
           have HL1 := Lib.hid (ho1.cells (g := g) rfl)
           have HO1 := Lib.hid (ownsRow_kept HO.out (fun g2 hg2 => hb1.block g2 (HO.out.lt g2 hg2).2))
           have B1 := Lib.hid (HB.out.trans (hb1.mono HB.out.size))
           clear ho1 hb1))
      go_ret
      refine ⟨v', rfl, ?_, B1.out.grown hgrow B1.out.size (fun j hj => (HO1.out.lt j hj).1)⟩
      rw [Nat.add_comm]
      exact hown
theorem fgroups_any (w : World) (m : Nat) (h : m < 18446744073709551616) : Calls Tryz.prog 37 #[.int .u64 (m : Int)] w fun e w' => ∃ v, e = .returned v ∧ w'.ownsRow w.heap.size 5 1 v (grp m).length (bv (grp m)) ∧ Below w.heap.size w w' :=
  fgroups_lv 9 m w (by rw [pow9]; exact h) (Nat.le_refl _)
end Go.Proofs.YtklngdmpledgeaaGreat.Oc
