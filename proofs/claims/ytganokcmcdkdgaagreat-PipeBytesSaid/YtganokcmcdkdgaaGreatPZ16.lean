/-
  The contracts of list and Decode. Conditions: at most two million bytes.
-/
import Derived.Test.YtganokcmcdkdgaaGreatPZ15
import Derived.Test.YtganokcmcdkdgaaGreatPZ14
namespace Go.Proofs.YtganokcmcdkdgaaGreat.Sp
open Go.RowKit Fr
attribute [local go_sem] Oper.semAt_some

/-- So far: the mistake er, the records acc, what is left r; so many to go. -/
structure LR (w : World) (b : Nat) (L : List Int) (n : Nat) (W : World) (v : Value) (er : Int) (acc : List (List Int)) (r : List Int) : Prop where
  li : LI w b W v acc
  rd : ∃ u, Oc.RdR W b er r u
  ok : er = 0 → allS L = ((lstS n r).1, acc ++ (lstS n r).2.1, (lstS n r).2.2)
  no : ¬ er = 0 → allS L = (er, acc, r)
  few : acc.length + n ≤ 10000
theorem cnt_few (L : List Int) : (cntS L).2.1 ≤ 10000 ∧ (¬ (cntS L).1 = 0 → (cntS L).2.1 = 0 ∧ (cntS L).2.2 = L) := by
  unfold cntS
  split
  · exact ⟨Nat.zero_le _, fun _ => ⟨rfl, rfl⟩⟩
  · split
    · exact ⟨Nat.zero_le _, fun _ => ⟨rfl, rfl⟩⟩
    · rename_i h1 h2
      refine ⟨?_, fun h => absurd rfl h⟩
      have : ¬ ¬ ((Oc.rg L).2.1 : Int) ≤ 10000 := h2
      show (Oc.rg L).2.1 ≤ 10000
      omega
theorem LR.start {w W : World} {b : Nat} {L : List Int} (h : Oc.RdTo b w (cntS L).1 (cntS L).2.2 W) : LR w b L (cntS L).2.1 W (.slice none 0 0) (cntS L).1 [] (cntS L).2.2 := by
  obtain ⟨u, h1, h2⟩ := h
  have hc := cnt_few L
  refine ⟨LI.nil h2, ⟨u, h1⟩, fun e => ?_, fun e => ?_, by simp; exact hc.1⟩
  · unfold allS; rw [if_pos e]; rfl
  · unfold allS; rw [if_neg e, (hc.2 e).2]
theorem LR.next {w W W3 : World} {b n : Nat} {L r : List Int} {v u : Value} {acc : List (List Int)} (h : LR w b L (n + 1) W v 0 acc r) (hbw : b < w.heap.size) (hrd : Oc.RdTo b W (txt r).1 (txt r).2.2 W3) (hu : BAt W3 u (txt r).2.1) (hk : BK (fun k => W.heap.size ≤ k) u (txt r).2.1) (hu1 : u.oneCell' = true) :
    ∃ A m c W5, (Builtin.append_ #[115, 115] 115 #[v, .slice (some ⟨W3.heap.size, 0, none⟩) 1 1]).run Tryz.prog (W3.alloc (.cells #[u] 22)) = .ok (.slice A m c) W5 ∧ LR w b L n W5 (.slice A m c) (txt r).1 (acc ++ [(txt r).2.1]) (txt r).2.2 := by
  obtain ⟨hli, hrd0, hok, hno, hfew⟩ := h
  obtain ⟨u3, hr3, hg3⟩ := hrd
  obtain ⟨A, m, c, W5, h1, h2, h3⟩ := hli.step hbw hg3 hu hk hu1 (by omega)
  refine ⟨A, m, c, W5, h1, h2, ⟨u3, hr3.upto h3⟩, fun e => ?_, fun e => ?_, by rw [List.length_append]; simp; omega⟩
  · have h4 := hok rfl
    unfold lstS at h4
    rw [if_pos e] at h4
    rw [h4]; simp
  · have h4 := hok rfl
    unfold lstS at h4
    rw [if_neg e] at h4
    rw [h4, (txt_err e).1, (txt_err e).2]
theorem LR.fin {w W : World} {b n : Nat} {L : List Int} {v : Value} {er : Int} {acc : List (List Int)} {r : List Int} (h : LR w b L n W v er acc r) (hn : n = 0 ∨ ¬ er = 0) : RowsF w.heap.size W v (allS L).2.1 ∧ Oc.RdTo b w (allS L).1 (allS L).2.2 W := by
  obtain ⟨hli, ⟨u, hrd⟩, hok, hno, hfew⟩ := h
  have e : allS L = (er, acc, r) := by
    by_cases he : er = 0
    · have hn0 : n = 0 := hn.resolve_right (fun h => h he)
      rw [hok he, hn0, he]
      simp [lstS]
    · exact hno he
  rw [e]
  exact ⟨hli.toF, u, hrd, hli.bel⟩
theorem w_lt {w W : World} {b : Nat} (h : w.grownBy W (some b)) {B : Nat} {o : Obj} (hB : w.heap[B]? = some o) (hne : B ≠ b) : W.heap[B]? = some o := block_grown hB h hne
end Go.Proofs.YtganokcmcdkdgaaGreat.Sp

namespace Go.Proofs.YtganokcmcdkdgaaGreat.Sp
open Go.RowKit Fr
attribute [local go_sem] Oper.semAt_some

set_option maxRecDepth 100000 in
set_option maxHeartbeats 4000000 in
theorem qtext_of {w : World} {b m m1 m2 cN : Nat} {er1 er2 : Int} {D bs : List Int} (h : Qd w b m 0 D) (hbs : bok bs)
    (hc : Calls Tryz.prog 28 #[.pointer (some ⟨b, 0, none⟩), .int .i64 1048576] w fun e w' => e = .returned (.int .i64 (cN : Int)) ∧ QTo b w m1 er1 D w')
    (hy : ∀ W, Qd W b m1 er1 D → Calls Tryz.prog 27 #[.pointer (some ⟨b, 0, none⟩), .int .i64 (cN : Int), .int .i64 (m : Int)] W fun e w' => ∃ A q c, e = .returned (.slice A q c) ∧ BAt w' (.slice A q c) bs ∧ QTo b W m2 er2 D w') :
    Calls Tryz.prog 29 #[.pointer (some ⟨b, 0, none⟩), .int .i64 1048576] w fun e w' => e = .returned (.string (Oc.strOf bs)) ∧ QTo b w m2 er2 D w' := by
  obtain ⟨c1, c2, f1⟩ := qd_cells h
  have HC := Lib.hid hc
  have HY := Lib.hid hy
  have HBS := Lib.hid hbs
  clear h hc hy hbs f1 c2
  go_enter Tryz.func29, Tryz.ntmps29
  go_wp2_with (first
    | (go_at_call 27; (with_reducible refine (HY.out w2 HQ2.out.st).mono ?_); rintro e w3 ⟨A3, q3, c3, rfl, hba3, hq3⟩
       have hcv := Oc.conv_any (Jo.oc_at hba3) HBS.out
       have HQ3 := Lib.hid (QTo.trans HQ2.out.gr hq3)
       clear hba3 hq3)
    | (go_at_call 28; (with_reducible refine HC.out.mono ?_); rintro e w2 ⟨rfl, hq2⟩; have HQ2 := Lib.hid hq2; clear hq2))
  go_ret
  exact ⟨rfl, HQ3.out⟩
theorem qtext_any {w : World} {b m : Nat} {D : List Int} (h : Qd w b m 0 D) :
    Calls Tryz.prog 29 #[.pointer (some ⟨b, 0, none⟩), .int .i64 1048576] w fun e w' => e = .returned (.string (Oc.strOf (txt (D.drop m)).2.1)) ∧ ∃ m', QTo b w m' (txt (D.drop m)).1 D w' ∧ D.drop m' = (txt (D.drop m)).2.2 := by
  obtain ⟨hb, hmD, hlD⟩ := qd_at h
  have hc := qcount_any h 1048576 (by decide)
  have hdr := qcnt_drop (most := 1048576) hb hmD
  by_cases h0 : (Oc.rg (D.drop m)).1 = 0
  · by_cases h1 : ((Oc.rg (D.drop m)).2.1 : Int) ≤ 1048576
    · have e : qcnt 1048576 (D.drop m) = (0, (Oc.rg (D.drop m)).2.1, (Oc.rg (D.drop m)).2.2) := by unfold qcnt; rw [if_neg (fun h => h h0), if_neg (fun h => h h1)]
      rw [e, if_pos rfl] at hc hdr
      dsimp only at hc hdr
      have hl2 : (Oc.rg (D.drop m)).2.2.length ≤ D.length := by rw [← hdr.2, List.length_drop]; omega
      by_cases hs : (Oc.rg (D.drop m)).2.2.length < (Oc.rg (D.drop m)).2.1
      · have e2 : txt (D.drop m) = (12, [], D.drop m) := by unfold txt; rw [if_neg (fun h => h h0), if_neg (fun h => h h1), if_pos hs]
        rw [e2]
        refine (qtext_of h (bs := []) (fun x hx => by cases hx) hc (fun W hW => qbytes_end hW (by omega) (by omega) hmD)).mono ?_
        rintro e w' ⟨rfl, hq⟩
        exact ⟨rfl, m, hq, rfl⟩
      · have e2 : txt (D.drop m) = (0, (Oc.rg (D.drop m)).2.2.take (Oc.rg (D.drop m)).2.1, (Oc.rg (D.drop m)).2.2.drop (Oc.rg (D.drop m)).2.1) := by unfold txt; rw [if_neg (fun h => h h0), if_neg (fun h => h h1), if_neg hs]
        rw [e2]
        refine (qtext_of h (bs := (D.drop (D.length - (Oc.rg (D.drop m)).2.2.length)).take (Oc.rg (D.drop m)).2.1) (fun x hx => hb x (List.mem_of_mem_drop (List.mem_of_mem_take hx))) hc (fun W hW => qbytes_ok hW (by omega) _)).mono ?_
        rintro e w' ⟨rfl, hq⟩
        rw [hdr.2]
        refine ⟨rfl, _, hq, ?_⟩
        rw [← List.drop_drop, hdr.2]
    · have e : qcnt 1048576 (D.drop m) = (Oc.longE (Oc.rg (D.drop m)).2.1, 0, D.drop m) := by unfold qcnt; rw [if_neg (fun h => h h0), if_pos h1]
      have e2 : txt (D.drop m) = (Oc.longE (Oc.rg (D.drop m)).2.1, [], D.drop m) := by unfold txt; rw [if_neg (fun h => h h0), if_pos h1]
      rw [e, if_neg (Oc.longE_ne _)] at hc
      rw [e2]
      refine (qtext_of h (bs := []) (fun x hx => by cases hx) hc (fun W hW => qbytes_bad hW (Oc.longE_ne _) _ _)).mono ?_
      rintro e w' ⟨rfl, hq⟩
      exact ⟨rfl, m, hq, rfl⟩
  · have e : qcnt 1048576 (D.drop m) = ((Oc.rg (D.drop m)).1, 0, D.drop m) := by unfold qcnt; rw [if_pos h0]
    have e2 : txt (D.drop m) = ((Oc.rg (D.drop m)).1, [], D.drop m) := by unfold txt; rw [if_pos h0]
    rw [e, if_neg h0] at hc
    rw [e2]
    refine (qtext_of h (bs := []) (fun x hx => by cases hx) hc (fun W hW => qbytes_bad hW h0 _ _)).mono ?_
    rintro e w' ⟨rfl, hq⟩
    exact ⟨rfl, m, hq, rfl⟩
set_option maxRecDepth 100000 in
set_option maxHeartbeats 4000000 in
theorem qdone_any {w : World} {b m : Nat} {er : Int} {D : List Int} (h : Qd w b m er D) :
    Calls Tryz.prog 30 #[.pointer (some ⟨b, 0, none⟩)] w fun e w' => e = .returned (.int .i64 (Oc.doneE er (D.drop m))) ∧ Below w.heap.size w w' := by
  obtain ⟨hb, hmD, hl⟩ := qd_at h
  obtain ⟨A, n, c, h1, h2, _⟩ := id h
  have hln := h2.len
  obtain ⟨⟨c0, c1, c2⟩, _⟩ := three h1
  have HBEL : Hid (∀ nq, Below w.heap.size w (w.drewN nq)) := Lib.hid (fun nq => Oc.below_drewN (Below.refl _ _) nq)
  obtain ⟨x, hx⟩ : ∃ x, x = Oc.doneE er (D.drop m) := ⟨_, rfl⟩
  rw [← hx]
  by_cases he : er = 0
  · subst he
    by_cases hlt : m < n
    · have t1 : (m : Int) < (n : Int) := by omega
      have hx3 : x = 3 := by
        rw [hx]; unfold Oc.doneE
        rw [if_pos rfl, if_neg]
        intro e
        have := congrArg List.length e
        rw [List.length_drop] at this
        simp at this; omega
      subst hx3
      clear h h1 h2 hln hb hmD hl hx hlt
      go_enter Tryz.func30, Tryz.ntmps30
      go_wp2_with fail
      go_quiet (fail)
      go_wp2
      go_ret
      exact ⟨rfl, HBEL.out _⟩
    · have hmn : m = n := by omega
      have hx3 : x = 0 := by
        rw [hx]; unfold Oc.doneE
        rw [if_pos rfl, if_pos]
        exact List.drop_eq_nil_of_le (by omega)
      subst hx3 hmn
      have t1 : ¬ (m : Int) < (m : Int) := by omega
      clear h h1 h2 hln hb hmD hl hx hlt
      go_enter Tryz.func30, Tryz.ntmps30
      go_wp2_with fail
      go_quiet (fail)
      go_wp2
      go_ret
      exact ⟨rfl, HBEL.out _⟩
  · rw [Oc.doneE_yes he] at hx
    subst hx
    clear h h1 h2 hln hb hmD hl
    go_enter Tryz.func30, Tryz.ntmps30
    go_wp2_with fail
    go_quiet (fail)
    go_wp2
    go_ret
    exact ⟨rfl, HBEL.out _⟩
end Go.Proofs.YtganokcmcdkdgaaGreat.Sp
