/-
  The reference's Bytes, Text, Done. Conditions: at most two million bytes.
-/
import Derived.Test.YtjijgoflbjbnfaaGreatVM36
import Derived.Test.YtjijgoflbjbnfaaGreatVM25
import Derived.Test.YtjijgoflbjbnfaaGreatVM35
namespace Go.Proofs.YtjijgoflbjbnfaaGreat.Sp
open Go.RowKit Fr
attribute [local go_sem] Oper.semAt_some

theorem Qd.drewN {w : World} {b m : Nat} {er : Int} {D : List Int} (h : Qd w b m er D) (nq : Nat) : Qd (w.drewN nq) b m er D := h.below (Oc.below_drewN (Below.refl _ _) nq)
set_option maxRecDepth 100000 in
set_option maxHeartbeats 4000000 in
theorem qbytes_bad {w : World} {b m : Nat} {er : Int} {D : List Int} (h : Qd w b m er D) (he : ¬ er = 0) (k was : Int) :
    Calls Tryz.prog 106 #[.pointer (some ⟨b, 0, none⟩), .int .i64 k, .int .i64 was] w fun e w' => ∃ A q c, e = .returned (.slice A q c) ∧ BAt w' (.slice A q c) [] ∧ QTo b w m er D w' := by
  obtain ⟨c1, c2, f1⟩ := qd_cells h
  have HD : Hid (∀ nq, QTo b w m er D (w.drewN nq)) := Lib.hid (fun nq => ⟨h.drewN nq, grownBy_of_below _ (Oc.below_drewN (Below.refl _ _) nq)⟩)
  clear h
  go_enter Tryz.func106, Tryz.ntmps106
  go_wp2_with fail
  go_quiet (fail)
  go_wp2
  go_ret
  exact ⟨none, 0, 0, rfl, BAt.nil _, HD.out _⟩
set_option maxRecDepth 100000 in
set_option maxHeartbeats 4000000 in
theorem qbytes_end {w : World} {b m k was : Nat} {D : List Int} (h : Qd w b m 0 D) (hk : D.length < m + k) (hk2 : k < 4611686018427387904) (hwas : was ≤ D.length) :
    Calls Tryz.prog 106 #[.pointer (some ⟨b, 0, none⟩), .int .i64 (k : Int), .int .i64 (was : Int)] w fun e w' => ∃ A q c, e = .returned (.slice A q c) ∧ BAt w' (.slice A q c) [] ∧ QTo b w was 12 D w' := by
  obtain ⟨hb, hmD, hl⟩ := qd_at h
  have HDN : Hid (∀ nq, QTo b w m 0 D (w.drewN nq)) := Lib.hid (fun nq => ⟨h.drewN nq, grownBy_of_below _ (Oc.below_drewN (Below.refl _ _) nq)⟩)
  obtain ⟨A, n, c, h1, h2, _⟩ := id h
  have hln := h2.len
  obtain ⟨⟨c0, c1, c2⟩, _⟩ := three h1
  obtain ⟨q, hq⟩ : ∃ q, q = n - m := ⟨_, rfl⟩
  have hw1 : IntKind.i64.wrap ((n : Int) - (m : Int)) = (q : Int) := by rw [IntKind.wrap_i64]; omega
  have t1 : (q : Int) < (k : Int) := by omega
  have HW := Lib.hid hwas
  clear h h1 h2 hln hb hq hk hk2 hwas
  go_enter Tryz.func106, Tryz.ntmps106
  go_wp2_with fail
  go_quiet (fail)
  go_wp2_with (first
    | (go_at_call 105; (with_reducible refine (qfail_yes (HDN.out _).st 12 was HW.out).mono ?_); rintro e w3 ⟨rfl, hq3⟩
       obtain ⟨d1, d2, _⟩ := qd_cells hq3.st
       have HQ3 := Lib.hid (QTo.trans (HDN.out _).gr hq3)
       clear hq3))
  go_ret
  exact ⟨none, 0, 0, rfl, BAt.nil _, HQ3.out⟩
set_option maxRecDepth 100000 in
set_option maxHeartbeats 4000000 in
theorem qbytes_ok {w : World} {b m k : Nat} {D : List Int} (h : Qd w b m 0 D) (hk : m + k ≤ D.length) (was : Int) :
    Calls Tryz.prog 106 #[.pointer (some ⟨b, 0, none⟩), .int .i64 (k : Int), .int .i64 was] w fun e w' => ∃ A q c, e = .returned (.slice A q c) ∧ BAt w' (.slice A q c) ((D.drop m).take k) ∧ QTo b w (m + k) 0 D w' := by
  obtain ⟨hb, hmD, hl⟩ := qd_at h
  have HDN : Hid (∀ nq, QTo b w m 0 D (w.drewN nq)) := Lib.hid (fun nq => ⟨h.drewN nq, grownBy_of_below _ (Oc.below_drewN (Below.refl _ _) nq)⟩)
  obtain ⟨A, n, c, h1, h2, h3, _⟩ := id h
  have hln := h2.len
  obtain ⟨⟨c0, c1, c2⟩, f0, f1, f2⟩ := three h1
  obtain ⟨q, hq⟩ : ∃ q, q = n - m := ⟨_, rfl⟩
  obtain ⟨m2, hm2⟩ : ∃ m2, m2 = m + k := ⟨_, rfl⟩
  have hw1 : IntKind.i64.wrap ((n : Int) - (m : Int)) = (q : Int) := by rw [IntKind.wrap_i64]; omega
  have hw2 : IntKind.i64.wrap ((m : Int) + (k : Int)) = (m2 : Int) := by rw [IntKind.wrap_i64]; omega
  have hw3 : IntKind.i64.wrap ((m2 : Int) - (k : Int)) = (m : Int) := by rw [IntKind.wrap_i64]; omega
  have t1 : decide ((q : Int) < (k : Int)) = false := decide_eq_false (by omega)
  have t2 : ¬ (q : Int) < (k : Int) := by omega
  obtain ⟨A', hA', hsl⟩ := slice_midG A n c m m2 (by omega) (by omega)
  have hbm := bat_midG h2 m m2 hA' (by omega) (by omega)
  have e1 : m2 - m = k := by omega
  rw [e1] at hsl hbm
  obtain ⟨c', hc'⟩ : ∃ c', c' = c - m := ⟨_, rfl⟩
  rw [← hc'] at hsl hbm
  have HBM := Lib.hid hbm
  have HBK : Hid (BK (fun k => k < b) (.slice A' k c') ((D.drop m).take k)) := Lib.hid (fun hp a n2 c2 ha => by
    have hk0 : 0 < k := by rw [List.length_take] at hp; omega
    obtain ⟨A2, cp, e2, _, h5⟩ := id h2
    obtain ⟨g, o, h6, _⟩ := h5 (by omega)
    cases e2
    have h7 := hA' (by omega) g o h6
    cases ha
    cases h7
    exact h3 (by omega) ⟨g, o, none⟩ _ _ (by rw [h6]))
  have HM : Hid (m2 = m + k ∧ m2 ≤ D.length) := ⟨hm2, by omega⟩
  rw [← hm2]
  clear h h1 h2 h3 hln hb hq hk hm2 hA' hbm hc' e1
  go_enter Tryz.func106, Tryz.ntmps106
  go_wp2_with fail
  go_quiet (fail)
  go_wp2_with fail
  go_quiet (fail)
  go_wp2
  go_ret
  have h8 := fun nq nr => ((HDN.out nq).st.set1 m2 HM.out.2).1.drewN nr
  have h9 := fun nq nr => grownBy_trans (grownBy_trans (HDN.out nq).gr ((HDN.out nq).st.set1 m2 HM.out.2).2) (grownBy_of_below (some b) (Oc.below_drewN (Below.refl _ _) nr))
  refine ⟨A', k, c', rfl, bat_kept HBM.out (fun hp a n c e => (h9 _ _).block _ (bat_lt HBM.out hp e) (fun e2 => by
    have h10 : a.block = b := Option.some.inj e2
    have := HBK.out hp a n c e
    omega)), h8 _ _, h9 _ _⟩
end Go.Proofs.YtjijgoflbjbnfaaGreat.Sp

namespace Go.Proofs.YtjijgoflbjbnfaaGreat.Sp
open Go.RowKit Fr
attribute [local go_sem] Oper.semAt_some

set_option maxRecDepth 100000 in
set_option maxHeartbeats 4000000 in
theorem qtext_of {w : World} {b m m1 m2 cN : Nat} {er1 er2 : Int} {D bs : List Int} (h : Qd w b m 0 D) (hbs : bok bs)
    (hc : Calls Tryz.prog 71 #[.pointer (some ⟨b, 0, none⟩), .int .i64 1048576] w fun e w' => e = .returned (.int .i64 (cN : Int)) ∧ QTo b w m1 er1 D w')
    (hy : ∀ W, Qd W b m1 er1 D → Calls Tryz.prog 106 #[.pointer (some ⟨b, 0, none⟩), .int .i64 (cN : Int), .int .i64 (m : Int)] W fun e w' => ∃ A q c, e = .returned (.slice A q c) ∧ BAt w' (.slice A q c) bs ∧ QTo b W m2 er2 D w') :
    Calls Tryz.prog 72 #[.pointer (some ⟨b, 0, none⟩), .int .i64 1048576] w fun e w' => e = .returned (.string (Oc.strOf bs)) ∧ QTo b w m2 er2 D w' := by
  obtain ⟨c1, c2, f1⟩ := qd_cells h
  have HC := Lib.hid hc
  have HY := Lib.hid hy
  have HBS := Lib.hid hbs
  clear h hc hy hbs f1 c2
  go_enter Tryz.func72, Tryz.ntmps72
  go_wp2_with (first
    | (go_at_call 106; (with_reducible refine (HY.out w2 HQ2.out.st).mono ?_); rintro e w3 ⟨A3, q3, c3, rfl, hba3, hq3⟩
       have hcv := Oc.conv_any (Jo.oc_at hba3) HBS.out
       have HQ3 := Lib.hid (QTo.trans HQ2.out.gr hq3)
       clear hba3 hq3)
    | (go_at_call 71; (with_reducible refine HC.out.mono ?_); rintro e w2 ⟨rfl, hq2⟩; have HQ2 := Lib.hid hq2; clear hq2))
  go_ret
  exact ⟨rfl, HQ3.out⟩
theorem qtext_any {w : World} {b m : Nat} {D : List Int} (h : Qd w b m 0 D) :
    Calls Tryz.prog 72 #[.pointer (some ⟨b, 0, none⟩), .int .i64 1048576] w fun e w' => e = .returned (.string (Oc.strOf (txt (D.drop m)).2.1)) ∧ ∃ m', QTo b w m' (txt (D.drop m)).1 D w' ∧ D.drop m' = (txt (D.drop m)).2.2 := by
  obtain ⟨hb, hmD, hlD⟩ := qd_at h
  have hc := qcount_any h 1048576 (by decide)
  have hdr := qcnt_drop (most := 1048576) hb hmD
  by_cases h0 : (Oc.rg (D.drop m)).1 = 0
  · by_cases h1 : ((Oc.rg (D.drop m)).2.1 : Int) ≤ 1048576
    · have e : qcnt 1048576 (D.drop m) = (0, (Oc.rg (D.drop m)).2.1, (Oc.rg (D.drop m)).2.2) := by unfold qcnt; rw [if_neg (fun h => h h0), if_neg (fun h => h h1)]
      rw [e, if_pos rfl] at hc hdr
      dsimp only at hc hdr
      have hl2 : (Oc.rg (D.drop m)).2.2.length ≤ D.length := by rw [← hdr.2, List.length_drop]; omega
      by_cases hs : (Oc.rg (D.drop m)).2.2.length < (Oc.rg (D.drop m)).2.1
      · have e2 : txt (D.drop m) = (12, [], D.drop m) := by unfold txt; rw [if_neg (fun h => h h0), if_neg (fun h => h h1), if_pos hs]
        rw [e2]
        refine (qtext_of h (bs := []) (fun x hx => by cases hx) hc (fun W hW => qbytes_end hW (by omega) (by omega) hmD)).mono ?_
        rintro e w' ⟨rfl, hq⟩
        exact ⟨rfl, m, hq, rfl⟩
      · have e2 : txt (D.drop m) = (0, (Oc.rg (D.drop m)).2.2.take (Oc.rg (D.drop m)).2.1, (Oc.rg (D.drop m)).2.2.drop (Oc.rg (D.drop m)).2.1) := by unfold txt; rw [if_neg (fun h => h h0), if_neg (fun h => h h1), if_neg hs]
        rw [e2]
        refine (qtext_of h (bs := (D.drop (D.length - (Oc.rg (D.drop m)).2.2.length)).take (Oc.rg (D.drop m)).2.1) (fun x hx => hb x (List.mem_of_mem_drop (List.mem_of_mem_take hx))) hc (fun W hW => qbytes_ok hW (by omega) _)).mono ?_
        rintro e w' ⟨rfl, hq⟩
        rw [hdr.2]
        refine ⟨rfl, _, hq, ?_⟩
        rw [← List.drop_drop, hdr.2]
    · have e : qcnt 1048576 (D.drop m) = (Oc.longE (Oc.rg (D.drop m)).2.1, 0, D.drop m) := by unfold qcnt; rw [if_neg (fun h => h h0), if_pos h1]
      have e2 : txt (D.drop m) = (Oc.longE (Oc.rg (D.drop m)).2.1, [], D.drop m) := by unfold txt; rw [if_neg (fun h => h h0), if_pos h1]
      rw [e, if_neg (Oc.longE_ne _)] at hc
      rw [e2]
      refine (qtext_of h (bs := []) (fun x hx => by cases hx) hc (fun W hW => qbytes_bad hW (Oc.longE_ne _) _ _)).mono ?_
      rintro e w' ⟨rfl, hq⟩
      exact ⟨rfl, m, hq, rfl⟩
  · have e : qcnt 1048576 (D.drop m) = ((Oc.rg (D.drop m)).1, 0, D.drop m) := by unfold qcnt; rw [if_pos h0]
    have e2 : txt (D.drop m) = ((Oc.rg (D.drop m)).1, [], D.drop m) := by unfold txt; rw [if_pos h0]
    rw [e, if_neg h0] at hc
    rw [e2]
    refine (qtext_of h (bs := []) (fun x hx => by cases hx) hc (fun W hW => qbytes_bad hW h0 _ _)).mono ?_
    rintro e w' ⟨rfl, hq⟩
    exact ⟨rfl, m, hq, rfl⟩
set_option maxRecDepth 100000 in
set_option maxHeartbeats 4000000 in
theorem qdone_any {w : World} {b m : Nat} {er : Int} {D : List Int} (h : Qd w b m er D) :
    Calls Tryz.prog 73 #[.pointer (some ⟨b, 0, none⟩)] w fun e w' => e = .returned (.int .i64 (Oc.doneE er (D.drop m))) ∧ Below w.heap.size w w' := by
  obtain ⟨hb, hmD, hl⟩ := qd_at h
  obtain ⟨A, n, c, h1, h2, _⟩ := id h
  have hln := h2.len
  obtain ⟨⟨c0, c1, c2⟩, _⟩ := three h1
  have HBEL : Hid (∀ nq, Below w.heap.size w (w.drewN nq)) := Lib.hid (fun nq => Oc.below_drewN (Below.refl _ _) nq)
  obtain ⟨x, hx⟩ : ∃ x, x = Oc.doneE er (D.drop m) := ⟨_, rfl⟩
  rw [← hx]
  by_cases he : er = 0
  · subst he
    by_cases hlt : m < n
    · have t1 : (m : Int) < (n : Int) := by omega
      have hx3 : x = 3 := by
        rw [hx]; unfold Oc.doneE
        rw [if_pos rfl, if_neg]
        intro e
        have := congrArg List.length e
        rw [List.length_drop] at this
        simp at this; omega
      subst hx3
      clear h h1 h2 hln hb hmD hl hx hlt
      go_enter Tryz.func73, Tryz.ntmps73
      go_wp2_with fail
      go_quiet (fail)
      go_wp2
      go_ret
      exact ⟨rfl, HBEL.out _⟩
    · have hmn : m = n := by omega
      have hx3 : x = 0 := by
        rw [hx]; unfold Oc.doneE
        rw [if_pos rfl, if_pos]
        exact List.drop_eq_nil_of_le (by omega)
      subst hx3 hmn
      have t1 : ¬ (m : Int) < (m : Int) := by omega
      clear h h1 h2 hln hb hmD hl hx hlt
      go_enter Tryz.func73, Tryz.ntmps73
      go_wp2_with fail
      go_quiet (fail)
      go_wp2
      go_ret
      exact ⟨rfl, HBEL.out _⟩
  · rw [Oc.doneE_yes he] at hx
    subst hx
    clear h h1 h2 hln hb hmD hl
    go_enter Tryz.func73, Tryz.ntmps73
    go_wp2_with fail
    go_quiet (fail)
    go_wp2
    go_ret
    exact ⟨rfl, HBEL.out _⟩
end Go.Proofs.YtjijgoflbjbnfaaGreat.Sp

namespace Go.Proofs.YtjijgoflbjbnfaaGreat.Sp
open Go.RowKit Fr
attribute [local go_sem] Oper.semAt_some

/-- So far: the mistake er, the records acc, what is left r; so many to go. -/
structure LQ (w : World) (b : Nat) (D : List Int) (n : Nat) (W : World) (v : Value) (er : Int) (acc : List (List Int)) (r : List Int) : Prop where
  li : LI w b W v acc
  rd : ∃ m, Qd W b m er D ∧ D.drop m = r
  ok : er = 0 → allS D = ((lstS n r).1, acc ++ (lstS n r).2.1, (lstS n r).2.2)
  no : ¬ er = 0 → allS D = (er, acc, r)
  few : acc.length + n ≤ 10000
theorem LQ.start {w W : World} {b m : Nat} {D : List Int} (h : QTo b w m (cntS D).1 D W) (hm : D.drop m = (cntS D).2.2) : LQ w b D (cntS D).2.1 W (.slice none 0 0) (cntS D).1 [] (cntS D).2.2 := by
  have hc := cnt_few D
  refine ⟨LI.nil h.gr, ⟨m, h.st, hm⟩, fun e => ?_, fun e => ?_, by simp; exact hc.1⟩
  · unfold allS; rw [if_pos e]; rfl
  · unfold allS; rw [if_neg e, (hc.2 e).2]
theorem LQ.next {w W W3 : World} {b n m' : Nat} {D r : List Int} {v u : Value} {acc : List (List Int)} (h : LQ w b D (n + 1) W v 0 acc r) (hbw : b < w.heap.size) (hrd : QTo b W m' (txt r).1 D W3) (hm : D.drop m' = (txt r).2.2) (hu : BAt W3 u (txt r).2.1) (hk : BK (fun k => W.heap.size ≤ k) u (txt r).2.1) (hu1 : u.oneCell' = true) :
    ∃ A m c W5, (Builtin.append_ #[31, 31] 31 #[v, .slice (some ⟨W3.heap.size, 0, none⟩) 1 1]).run Tryz.prog (W3.alloc (.cells #[u] 32)) = .ok (.slice A m c) W5 ∧ LQ w b D n W5 (.slice A m c) (txt r).1 (acc ++ [(txt r).2.1]) (txt r).2.2 := by
  obtain ⟨hli, hrd0, hok, hno, hfew⟩ := h
  obtain ⟨A, m, c, W5, h1, h2, h3⟩ := hli.step hbw hrd.gr hu hk hu1 (by omega)
  refine ⟨A, m, c, W5, h1, h2, ⟨m', hrd.st.upto h3, hm⟩, fun e => ?_, fun e => ?_, by rw [List.length_append]; simp; omega⟩
  · have h4 := hok rfl
    unfold lstS at h4
    rw [if_pos e] at h4
    rw [h4]; simp
  · have h4 := hok rfl
    unfold lstS at h4
    rw [if_neg e] at h4
    rw [h4, (txt_err e).1, (txt_err e).2]
theorem LQ.fin {w W : World} {b n : Nat} {D : List Int} {v : Value} {er : Int} {acc : List (List Int)} {r : List Int} (h : LQ w b D n W v er acc r) (hn : n = 0 ∨ ¬ er = 0) : RowsF w.heap.size W v (allS D).2.1 ∧ (∃ m, Qd W b m (allS D).1 D ∧ D.drop m = (allS D).2.2) ∧ w.grownBy W (some b) := by
  obtain ⟨hli, hrd, hok, hno, hfew⟩ := h
  have e : allS D = (er, acc, r) := by
    by_cases he : er = 0
    · have hn0 : n = 0 := hn.resolve_right (fun h => h he)
      rw [hok he, hn0, he]
      simp [lstS]
    · exact hno he
  rw [e]
  exact ⟨hli.toF, hrd, hli.bel⟩
set_option maxRecDepth 100000 in
set_option maxHeartbeats 8000000 in
theorem rdecode_any (w : World) (A : Option Addr) (q c : Nat) (G : List Int) (h : BAt w (.slice A q c) G) (hb : bok G) (hq : q ≤ 2000000) :
    Calls Tryz.prog 46 #[.slice A q c] w fun e w' => DecR w.heap.size G e w' ∧ Below w.heap.size w w' := by
  have hlq := h.len.1
  have hnx := rnext_in (fun k => k < w.heap.size) w _ G h hb (by omega) (fun hp a n c e => bat_lt h hp e)
  unfold FstK at hnx
  obtain ⟨E, hE⟩ : ∃ E, E = nxE G := ⟨_, rfl⟩
  obtain ⟨N, hN⟩ : ∃ N, N = nxN G := ⟨_, rfl⟩
  obtain ⟨B, hB⟩ : ∃ B, B = nxB G := ⟨_, rfl⟩
  obtain ⟨k, hk⟩ : ∃ k, k = B.length := ⟨_, rfl⟩
  rw [← hE, ← hN, ← hB, ← hk] at hnx
  obtain ⟨d, hd⟩ : ∃ d, d = decE G := ⟨_, rfl⟩
  have HD : Hid (d = decE G) := hd
  have HNX := Lib.hid hnx
  unfold DecR
  rw [← hd]
  have hdl : ¬ d = 0 → decL G = [] := fun h0 => by unfold decL; rw [if_neg (by rw [← hd]; exact h0)]
  have HDL := Lib.hid hdl
  clear hnx hd hdl
  by_cases he : E = 0
  · by_cases hlt : N < q
    · have hd3 : d = 3 := by
        have e1 : opE G = 3 := by
          have h9 : nxE G = 0 ∧ nn G + 8 < G.length := by
            have : nxN G = nn G + 8 := by unfold nxN; rw [if_pos (by rw [← hE]; exact he)]
            exact ⟨by rw [← hE]; exact he, by omega⟩
          unfold opE
          rw [if_pos h9]
        rw [HD.out]; unfold decE; rw [e1, if_pos (by decide)]
      have t1 : (N : Int) < (q : Int) := by omega
      subst hd3 he
      clear hE hN hB hk hlt
      go_enter Tryz.func46, Tryz.ntmps46
      go_wp2_with (go_at_call 70; (with_reducible refine HNX.out.mono ?_); rintro e w1 ⟨⟨A1, c1, rfl, _, _⟩, hb1⟩; have HB1 := Lib.hid hb1; clear hb1)
      go_ret2
      refine ⟨⟨none, 0, 0, rfl, ?_⟩, HB1.out⟩
      rw [HDL.out (by decide)]
      exact RowsF.nil _ _ _ _
    · have e0 : opE G = 0 := by
        unfold opE
        rw [if_neg (fun h7 => ?_), ← hE, he]
        have : nxN G = nn G + 8 := by unfold nxN; rw [if_pos (by rw [← hE]; exact he)]
        omega
      have eB : opB G = B := by
        rw [hB]; unfold opB nxB
        rw [if_pos e0, if_pos (by rw [← hE]; exact he)]
      have hbB : bok B := by
        rw [← eB]; unfold opB
        rw [if_pos e0]
        exact fun x hx => hb x (List.mem_of_mem_drop (List.mem_of_mem_take hx))
      have hlB : B.length ≤ 2000000 := by
        rw [← eB]; unfold opB
        rw [if_pos e0, List.length_take, List.length_drop]; omega
      have hdd : d = Oc.doneE (allS B).1 (allS B).2.2 := by rw [HD.out]; unfold decE; rw [if_neg (fun h => h e0), eB]
      have hdL : decL G = if d = 0 then (allS B).2.1 else [] := by
        unfold decL; rw [← HD.out, eB]
      have HDD := Lib.hid hdd
      have HDL2 := Lib.hid hdL
      have t1 : ¬ (N : Int) < (q : Int) := by omega
      obtain ⟨cn, hcn⟩ : ∃ cn, cn = (cntS B).2.1 := ⟨_, rfl⟩
      have hc : ∀ W b, Qd W b 0 0 B → Calls Tryz.prog 71 #[.pointer (some ⟨b, 0, none⟩), .int .i64 10000] W fun e w' => e = .returned (.int .i64 (cn : Int)) ∧ ∃ m, QTo b W m (cntS B).1 B w' ∧ B.drop m = (cntS B).2.2 := fun W b hW => by
        have h1 := qcount_any hW 10000 (by decide)
        have h2 := qcnt_drop (D := B) (m := 0) (most := 10000) hbB (Nat.zero_le _)
        rw [List.drop_zero] at h1 h2
        refine h1.mono ?_
        rintro e w' ⟨rfl, hq⟩
        exact ⟨by rw [hcn]; rfl, _, hq, h2.2⟩
      have hcf := (cnt_few B).1
      rw [← hcn] at hcf
      have HC := Lib.hid hc
      have HBB : Hid (bok B ∧ B.length ≤ 2000000 ∧ k = B.length) := ⟨hbB, hlB, hk⟩
      have HCN := Lib.hid hcn
      subst he
      clear hE hN hB hk hlt e0 eB hbB hlB hdd hdL hc hcn HD HDL
      go_enter Tryz.func46, Tryz.ntmps46
      go_upto_region 8 with (first
        | (go_at_call 71; (with_reducible refine (HC.out _ _ HQ3.out).mono ?_); rintro e w4 ⟨rfl, m4, hq4, hm4⟩
           have HL4 : Hid (∃ er r, LQ (w1.alloc (.cells #[.slice A1 k c1, .int .i64 0, .int .i64 0] 127)) w1.heap.size B cn w4 (.slice none 0 0) er [] r) := by
             rw [HCN.out]; exact ⟨_, _, LQ.start hq4 hm4⟩
           clear hq4 hm4)
        | (go_at_call 70; (with_reducible refine HNX.out.mono ?_); rintro e w1 ⟨⟨A1, c1, rfl, hba1, hbk1⟩, hb1⟩
           have hal := Jo.alloc_below w1 (.cells #[.slice A1 k c1, .int .i64 0, .int .i64 0] 127)
           have HB3 : Hid (Below w.heap.size w (w1.alloc (.cells #[.slice A1 k c1, .int .i64 0, .int .i64 0] 127))) := hb1.trans (hal.mono hb1.size)
           have HBZ : Hid (w.heap.size ≤ w1.heap.size) := hb1.size
           have HQ3 : Hid (Qd (w1.alloc (.cells #[.slice A1 k c1, .int .i64 0, .int .i64 0] 127)) w1.heap.size 0 0 B) := ⟨A1, k, c1, block_new w1 _, hba1.kept hal, (fun hp a n c e => Nat.lt_of_lt_of_le (hbk1 hp a n c e) hb1.size), HBB.out.1, HBB.out.2.1, Nat.zero_le _⟩
           clear hba1 hbk1 hb1 hal))
      have HBW := Lib.hid HQ3.out.lt
      obtain ⟨W3, hW3⟩ : ∃ W3, W3 = w1.alloc (.cells #[.slice A1 k c1, .int .i64 0, .int .i64 0] 127) := ⟨_, rfl⟩
      rw [← hW3] at HB3 HL4 HBW
      clear HQ3 hW3 HC HCN HNX
      generalize hbz : w1.heap.size = b at *
      clear hbz
      go_wp2
      go_loopg [9, 10] cn (fun (gh : Nat) s9 s10 wx => ∃ (i : Nat), gh = cn - i ∧ i ≤ cn ∧ s10 = .int .i64 (i : Int) ∧ Hid (∃ er acc r, LQ W3 b B (cn - i) wx s9 er acc r))
      case atStart =>
        obtain ⟨er, r, hl⟩ := HL4.out
        exact ⟨0, rfl, Nat.zero_le _, rfl, er, [], r, hl⟩
      case round =>
        clear HL4
        obtain ⟨i, rfl, hi, rfl, HI⟩ := hrel
        obtain ⟨er, acc, r, hlq⟩ := HI.out
        have HLQ := Lib.hid hlq
        obtain ⟨m, hqd, hdm⟩ := hlq.rd
        obtain ⟨_, cer, _⟩ := qd_cells hqd
        have HQD := Lib.hid hqd
        have HDM := Lib.hid hdm
        clear hlq hqd hdm HI
        by_cases hgo : i < cn ∧ er = 0
        · obtain ⟨hlt, rfl⟩ := hgo
          have t3 : (i : Int) < (cn : Int) := by omega
          obtain ⟨n, hn⟩ : ∃ n, cn - i = n + 1 := ⟨cn - i - 1, by omega⟩
          have hn2 : cn - (i + 1) = n := by omega
          rw [hn] at HLQ
          have hw9 : IntKind.i64.wrap ((i : Int) + 1) = ((i + 1 : Nat) : Int) := by rw [IntKind.wrap_i64]; omega
          have hbt := txt_bok (l := r) (by rw [← HDM.out]; exact fun x hx => HBB.out.1 x (List.mem_of_mem_drop hx))
          have HBT := Lib.hid hbt
          have htx := qtext_any HQD.out
          rw [HDM.out] at htx
          have HTX := Lib.hid htx
          have HN := Lib.hid (And.intro hlt hn2)
          clear hbt htx hn hn2 hlt
          go_wp2_with (first
            | (at_builtin; refine Lib.wpList_append_run _ rfl _ _ 31 31 rfl _ _ rfl rfl _ _ HR.out ?_)
            | (go_at_call 72; (with_reducible refine HTX.out.mono ?_); rintro e w5 ⟨rfl, m5, hq5, hm5⟩
               obtain ⟨c6, w6, hcv, hba6, hbel6⟩ := conv_str w5 (txt r).2.1 HBT.out
               obtain ⟨A7, n7, c7, w7, hr7, hlq7⟩ := HLQ.out.next (u := .slice (some ⟨w5.heap.size, 0, none⟩) (txt r).2.1.length c6) HBW.out (W3 := w6) ⟨hq5.st.below hbel6, grownBy_trans hq5.gr (grownBy_of_below _ hbel6)⟩ hm5 hba6 (fun hp a n c e => by cases e; exact hq5.gr.size) rfl
               have HR := Lib.hid hr7
               have HLQ7 := Lib.hid hlq7
               clear hq5 hm5 hba6 hbel6 hr7 hlq7))
          go_roundg (cn - (i + 1))
          case measure => have := HN.out.1; omega
          case rel =>
            refine ⟨i + 1, rfl, HN.out.1, by first | rfl | go_num | rw [hw9], ?_⟩
            rw [HN.out.2]
            exact ⟨_, _, _, HLQ7.out⟩
        · have hfin := HLQ.out.fin (by omega)
          have hbelx : Below w.heap.size w wr := HB3.out.grown hfin.2.2 HB3.out.size (fun j hj => by cases hj; exact HBZ.out)
          obtain ⟨m8, hq8, hm8⟩ := hfin.2.1
          obtain ⟨Ar, cr, er9, _⟩ := id hfin.1
          obtain ⟨nr, hnr⟩ : ∃ nr, nr = (allS B).2.1.length := ⟨_, rfl⟩
          rw [← hnr] at er9
          subst er9
          have hdone : ∀ W, Below wr.heap.size wr W → Calls Tryz.prog 73 #[.pointer (some ⟨b, 0, none⟩)] W fun e w' => e = .returned (.int .i64 d) ∧ Below W.heap.size W w' := fun W hW => by
            have h1 := qdone_any (hq8.below hW)
            rw [hm8, ← HDD.out] at h1
            exact h1
          have HRW := Lib.hid hfin.1
          have HBX := Lib.hid hbelx
          have HDO := Lib.hid hdone
          have HRF : Hid (Below wr.heap.size wr wr) := Below.refl _ _
          have tc : (¬ (i : Int) < (cn : Int)) ∨ ((i : Int) < (cn : Int) ∧ ¬ er = 0) := by omega
          have HZW : Hid (w.heap.size ≤ W3.heap.size) := HB3.out.size
          clear hfin hbelx hq8 hm8 hdone hnr hgo HLQ HQD
          by_cases hd0 : d = 0
          · subst hd0
            rcases tc with t3 | ⟨t3, t4⟩
            all_goals
              go_wp2_with (go_at_call 73; (with_reducible refine (HDO.out _ HRF.out).mono ?_); rintro e w9 ⟨rfl, hb9⟩; have HB9 := Lib.hid (HBX.out.trans (hb9.mono HBX.out.size)); have HRW9 := Lib.hid (HRW.out.kept (fun k _ hk => hb9.block k hk) hb9.size); clear hb9)
              go_ret2
              refine ⟨⟨Ar, nr, cr, rfl, ?_⟩, HB9.out⟩
              rw [HDL2.out, if_pos trivial]
              exact HRW9.out.from HZW.out
          · rcases tc with t3 | ⟨t3, t4⟩
            all_goals
              go_wp2_with (first
                | (go_at_call 73; (with_reducible refine (HDO.out _ HB10.out).mono ?_); rintro e w10 ⟨rfl, hb10⟩; have HB11 := Lib.hid (HB9.out.trans (hb10.mono HB9.out.size)); clear hb10)
                | (go_at_call 73; (with_reducible refine (HDO.out _ HRF.out).mono ?_); rintro e w9 ⟨rfl, hb9⟩; have HB9 := Lib.hid (HBX.out.trans (hb9.mono HBX.out.size)); have HB10 := Lib.hid hb9; clear hb9))
              go_ret2
              refine ⟨⟨none, 0, 0, rfl, ?_⟩, HB11.out⟩
              rw [HDL2.out, if_neg hd0]
              exact RowsF.nil _ _ _ _
  · have hde : d = E := by
      have e1 : opE G = E := by
        unfold opE
        rw [if_neg (fun h7 => he (by rw [hE]; exact h7.1)), hE]
      rw [HD.out]; unfold decE; rw [e1, if_pos he]
    have HDE := Lib.hid hde
    clear hE hN hB hk hde
    go_enter Tryz.func46, Tryz.ntmps46
    go_wp2_with (go_at_call 70; (with_reducible refine HNX.out.mono ?_); rintro e w1 ⟨⟨A1, c1, rfl, _, _⟩, hb1⟩; have HB1 := Lib.hid hb1; clear hb1)
    go_ret2
    refine ⟨⟨none, 0, 0, by rw [HDE.out]; rfl, ?_⟩, HB1.out⟩
    rw [HDL.out (by rw [HDE.out]; exact he)]
    exact RowsF.nil _ _ _ _
end Go.Proofs.YtjijgoflbjbnfaaGreat.Sp
