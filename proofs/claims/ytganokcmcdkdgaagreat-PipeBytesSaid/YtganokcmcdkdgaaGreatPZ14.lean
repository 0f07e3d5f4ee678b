/-
  The reference's Bytes, Text, Done. Conditions: at most two million bytes.
-/
import Derived.Test.YtganokcmcdkdgaaGreatPQct
import Derived.Test.YtganokcmcdkdgaaGreatPZ13
namespace Go.Proofs.YtganokcmcdkdgaaGreat.Sp
open Go.RowKit Fr
attribute [local go_sem] Oper.semAt_some

theorem Qd.drewN {w : World} {b m : Nat} {er : Int} {D : List Int} (h : Qd w b m er D) (nq : Nat) : Qd (w.drewN nq) b m er D := h.below (Oc.below_drewN (Below.refl _ _) nq)
set_option maxRecDepth 100000 in
set_option maxHeartbeats 4000000 in
theorem qbytes_bad {w : World} {b m : Nat} {er : Int} {D : List Int} (h : Qd w b m er D) (he : ¬ er = 0) (k was : Int) :
    Calls Tryz.prog 27 #[.pointer (some ⟨b, 0, none⟩), .int .i64 k, .int .i64 was] w fun e w' => ∃ A q c, e = .returned (.slice A q c) ∧ BAt w' (.slice A q c) [] ∧ QTo b w m er D w' := by
  obtain ⟨c1, c2, f1⟩ := qd_cells h
  have HD : Hid (∀ nq, QTo b w m er D (w.drewN nq)) := Lib.hid (fun nq => ⟨h.drewN nq, grownBy_of_below _ (Oc.below_drewN (Below.refl _ _) nq)⟩)
  clear h
  go_enter Tryz.func27, Tryz.ntmps27
  go_wp2_with fail
  go_quiet (fail)
  go_wp2
  go_ret
  exact ⟨none, 0, 0, rfl, BAt.nil _, HD.out _⟩
set_option maxRecDepth 100000 in
set_option maxHeartbeats 4000000 in
theorem qbytes_end {w : World} {b m k was : Nat} {D : List Int} (h : Qd w b m 0 D) (hk : D.length < m + k) (hk2 : k < 4611686018427387904) (hwas : was ≤ D.length) :
    Calls Tryz.prog 27 #[.pointer (some ⟨b, 0, none⟩), .int .i64 (k : Int), .int .i64 (was : Int)] w fun e w' => ∃ A q c, e = .returned (.slice A q c) ∧ BAt w' (.slice A q c) [] ∧ QTo b w was 12 D w' := by
  obtain ⟨hb, hmD, hl⟩ := qd_at h
  have HDN : Hid (∀ nq, QTo b w m 0 D (w.drewN nq)) := Lib.hid (fun nq => ⟨h.drewN nq, grownBy_of_below _ (Oc.below_drewN (Below.refl _ _) nq)⟩)
  obtain ⟨A, n, c, h1, h2, _⟩ := id h
  have hln := h2.len
  obtain ⟨⟨c0, c1, c2⟩, _⟩ := three h1
  obtain ⟨q, hq⟩ : ∃ q, q = n - m := ⟨_, rfl⟩
  have hw1 : IntKind.i64.wrap ((n : Int) - (m : Int)) = (q : Int) := by rw [IntKind.wrap_i64]; omega
  have t1 : (q : Int) < (k : Int) := by omega
  have HW := Lib.hid hwas
  clear h h1 h2 hln hb hq hk hk2 hwas
  go_enter Tryz.func27, Tryz.ntmps27
  go_wp2_with fail
  go_quiet (fail)
  go_wp2_with (first
    | (go_at_call 58; (with_reducible refine (qfail_yes (HDN.out _).st 12 was HW.out).mono ?_); rintro e w3 ⟨rfl, hq3⟩
       obtain ⟨d1, d2, _⟩ := qd_cells hq3.st
       have HQ3 := Lib.hid (QTo.trans (HDN.out _).gr hq3)
       clear hq3))
  go_ret
  exact ⟨none, 0, 0, rfl, BAt.nil _, HQ3.out⟩
set_option maxRecDepth 100000 in
set_option maxHeartbeats 4000000 in
theorem qbytes_ok {w : World} {b m k : Nat} {D : List Int} (h : Qd w b m 0 D) (hk : m + k ≤ D.length) (was : Int) :
    Calls Tryz.prog 27 #[.pointer (some ⟨b, 0, none⟩), .int .i64 (k : Int), .int .i64 was] w fun e w' => ∃ A q c, e = .returned (.slice A q c) ∧ BAt w' (.slice A q c) ((D.drop m).take k) ∧ QTo b w (m + k) 0 D w' := by
  obtain ⟨hb, hmD, hl⟩ := qd_at h
  have HDN : Hid (∀ nq, QTo b w m 0 D (w.drewN nq)) := Lib.hid (fun nq => ⟨h.drewN nq, grownBy_of_below _ (Oc.below_drewN (Below.refl _ _) nq)⟩)
  obtain ⟨A, n, c, h1, h2, h3, _⟩ := id h
  have hln := h2.len
  obtain ⟨⟨c0, c1, c2⟩, f0, f1, f2⟩ := three h1
  obtain ⟨q, hq⟩ : ∃ q, q = n - m := ⟨_, rfl⟩
  obtain ⟨m2, hm2⟩ : ∃ m2, m2 = m + k := ⟨_, rfl⟩
  have hw1 : IntKind.i64.wrap ((n : Int) - (m : Int)) = (q : Int) := by rw [IntKind.wrap_i64]; omega
  have hw2 : IntKind.i64.wrap ((m : Int) + (k : Int)) = (m2 : Int) := by rw [IntKind.wrap_i64]; omega
  have hw3 : IntKind.i64.wrap ((m2 : Int) - (k : Int)) = (m : Int) := by rw [IntKind.wrap_i64]; omega
  have t1 : decide ((q : Int) < (k : Int)) = false := decide_eq_false (by omega)
  have t2 : ¬ (q : Int) < (k : Int) := by omega
  obtain ⟨A', hA', hsl⟩ := slice_midG A n c m m2 (by omega) (by omega)
  have hbm := bat_midG h2 m m2 hA' (by omega) (by omega)
  have e1 : m2 - m = k := by omega
  rw [e1] at hsl hbm
  obtain ⟨c', hc'⟩ : ∃ c', c' = c - m := ⟨_, rfl⟩
  rw [← hc'] at hsl hbm
  have HBM := Lib.hid hbm
  have HBK : Hid (BK (fun k => k < b) (.slice A' k c') ((D.drop m).take k)) := Lib.hid (fun hp a n2 c2 ha => by
    have hk0 : 0 < k := by rw [List.length_take] at hp; omega
    obtain ⟨A2, cp, e2, _, h5⟩ := id h2
    obtain ⟨g, o, h6, _⟩ := h5 (by omega)
    cases e2
    have h7 := hA' (by omega) g o h6
    cases ha
    cases h7
    exact h3 (by omega) ⟨g, o, none⟩ _ _ (by rw [h6]))
  have HM : Hid (m2 = m + k ∧ m2 ≤ D.length) := ⟨hm2, by omega⟩
  rw [← hm2]
  clear h h1 h2 h3 hln hb hq hk hm2 hA' hbm hc' e1
  go_enter Tryz.func27, Tryz.ntmps27
  go_wp2_with fail
  go_quiet (fail)
  go_wp2_with fail
  go_quiet (fail)
  go_wp2
  go_ret
  have h8 := fun nq nr => ((HDN.out nq).st.set1 m2 HM.out.2).1.drewN nr
  have h9 := fun nq nr => grownBy_trans (grownBy_trans (HDN.out nq).gr ((HDN.out nq).st.set1 m2 HM.out.2).2) (grownBy_of_below (some b) (Oc.below_drewN (Below.refl _ _) nr))
  refine ⟨A', k, c', rfl, bat_kept HBM.out (fun hp a n c e => (h9 _ _).block _ (bat_lt HBM.out hp e) (fun e2 => by
    have h10 : a.block = b := Option.some.inj e2
    have := HBK.out hp a n c e
    omega)), h8 _ _, h9 _ _⟩
end Go.Proofs.YtganokcmcdkdgaaGreat.Sp

namespace Go.Proofs.YtganokcmcdkdgaaGreat.Sp
open Go.RowKit Fr

def recB (l : List Int) : List Int := Oc.grp l.length ++ l
def flat (ls : List (List Int)) : List Int := (ls.map recB).flatten
def bodyS (ls : List (List Int)) : List Int := Oc.grp ls.length ++ flat ls
def encS (ls : List (List Int)) : List Int := frF (bodyS ls)
def tot (ls : List (List Int)) : Nat := (bodyS ls).length + 8
theorem encS_len (ls : List (List Int)) : (encS ls).length = tot ls := by unfold encS tot; rw [frF_len]
/-- What Size has added up ahead of record i. -/
def part (ls : List (List Int)) (i : Nat) : Nat := 8 + (Oc.grp ls.length).length + (flat (ls.take i)).length
theorem part_zero (ls : List (List Int)) : part ls 0 = 8 + (Oc.grp ls.length).length := by simp [part, flat]
theorem flat_snoc {ls : List (List Int)} {i : Nat} {l : List Int} (h : ls[i]? = some l) : flat (ls.take (i + 1)) = flat (ls.take i) ++ recB l := by
  have hi := (List.getElem?_eq_some_iff.1 h)
  obtain ⟨hi, e⟩ := hi
  unfold flat
  rw [List.take_succ_eq_append_getElem hi, e]
  simp
theorem part_succ {ls : List (List Int)} {i : Nat} {l : List Int} (h : ls[i]? = some l) : part ls (i + 1) = part ls i + ((Oc.grp l.length).length + l.length) := by
  unfold part
  rw [flat_snoc h, List.length_append]
  simp [recB]; omega
theorem part_all (ls : List (List Int)) : part ls ls.length = tot ls := by
  unfold part tot bodyS
  rw [List.take_length, List.length_append]; omega
theorem part_mono (ls : List (List Int)) {i : Nat} (_h : i ≤ ls.length) : part ls i ≤ tot ls := by
  rw [← part_all]
  unfold part
  have e : ls = ls.take i ++ ls.drop i := (List.take_append_drop i ls).symm
  have h3 : ∀ a b : List (List Int), (flat (a ++ b)).length = (flat a).length + (flat b).length := fun a b => by unfold flat; rw [List.map_append, List.flatten_append, List.length_append]
  have h2 : (flat ls).length = (flat (ls.take i)).length + (flat (ls.drop i)).length := by rw [← h3, ← e]
  rw [List.take_length]; omega
def fitsS (ls : List (List Int)) : Bool := decide (ls.length ≤ 10000 ∧ tot ls ≤ 1048576)
def sizeE (ls : List (List Int)) : Int := if fitsS ls then (tot ls : Int) else -1
theorem flat_bok {ls : List (List Int)} (h : ∀ l ∈ ls, bok l ∧ l.length ≤ 2000000) : bok (flat ls) := fun x hx => by
  obtain ⟨l, hl, hx2⟩ := List.mem_flatten.1 hx
  obtain ⟨m, hm, rfl⟩ := List.mem_map.1 hl
  exact bok_app (Oc.grp_bok (by have := (h m hm).2; omega)) (h m hm).1 x hx2
theorem body_bok {ls : List (List Int)} (h : ∀ l ∈ ls, bok l ∧ l.length ≤ 2000000) (hn : ls.length ≤ 2000000) : bok (bodyS ls) := bok_app (Oc.grp_bok (by omega)) (flat_bok h)
theorem enc_bok {ls : List (List Int)} (h : ∀ l ∈ ls, bok l ∧ l.length ≤ 2000000) (hn : ls.length ≤ 2000000) : bok (encS ls) := frF_bok (body_bok h hn)

/-! ### Back -/
/-- A text: the mistake, its bytes, what is left. -/
def txt (l : List Int) : Int × List Int × List Int :=
  if (Oc.rg l).1 ≠ 0 then ((Oc.rg l).1, [], l)
  else if ¬ ((Oc.rg l).2.1 : Int) ≤ 1048576 then (Oc.longE (Oc.rg l).2.1, [], l)
  else if (Oc.rg l).2.2.length < (Oc.rg l).2.1 then (12, [], l)
  else (0, (Oc.rg l).2.2.take (Oc.rg l).2.1, (Oc.rg l).2.2.drop (Oc.rg l).2.1)
/-- How many records: the mistake, the number, what is left. -/
def cntS (l : List Int) : Int × Nat × List Int :=
  if (Oc.rg l).1 ≠ 0 then ((Oc.rg l).1, 0, l)
  else if ¬ ((Oc.rg l).2.1 : Int) ≤ 10000 then (Oc.longE (Oc.rg l).2.1, 0, l)
  else (0, (Oc.rg l).2.1, (Oc.rg l).2.2)
/-- So many texts, up to the first mistake: the mistake, the texts, what is left. -/
def lstS : Nat → List Int → Int × List (List Int) × List Int
  | 0, l => (0, [], l)
  | n + 1, l => if (txt l).1 = 0 then ((lstS n (txt l).2.2).1, (txt l).2.1 :: (lstS n (txt l).2.2).2.1, (lstS n (txt l).2.2).2.2) else ((txt l).1, [[]], l)
def allS (B : List Int) : Int × List (List Int) × List Int := if (cntS B).1 = 0 then lstS (cntS B).2.1 (cntS B).2.2 else ((cntS B).1, [], B)
def decE (G : List Int) : Int := if opE G ≠ 0 then opE G else Oc.doneE (allS (opB G)).1 (allS (opB G)).2.2
def decL (G : List Int) : List (List Int) := if decE G = 0 then (allS (opB G)).2.1 else []
theorem txt_rec (l r : List Int) (hl : l.length ≤ 1048576) : txt (recB l ++ r) = (0, l, r) := by
  have h1 : Oc.rg (recB l ++ r) = (0, l.length, l ++ r) := by
    unfold recB; rw [List.append_assoc]; exact Oc.rg_grp _ _ (by omega)
  unfold txt
  rw [h1]
  have h2 : ¬ (¬ ((l.length : Int) ≤ 1048576)) := by omega
  have h3 : ¬ (l ++ r).length < l.length := by rw [List.length_append]; omega
  dsimp only
  rw [if_neg (fun h => h rfl), if_neg h2, if_neg h3, List.take_left' rfl, List.drop_left' rfl]
theorem cnt_grp (n : Nat) (r : List Int) (h : n ≤ 10000) : cntS (Oc.grp n ++ r) = (0, n, r) := by
  have h1 : Oc.rg (Oc.grp n ++ r) = (0, n, r) := Oc.rg_grp _ _ (by omega)
  unfold cntS
  rw [h1]
  have h2 : ¬ (¬ ((n : Int) ≤ 10000)) := by omega
  dsimp only
  rw [if_neg (fun h => h rfl), if_neg h2]
theorem lst_flat : ∀ (ls : List (List Int)) (r : List Int), (∀ l ∈ ls, l.length ≤ 1048576) → lstS ls.length (flat ls ++ r) = (0, ls, r)
  | [], r, _ => rfl
  | l :: ls, r, h => by
    have e : flat (l :: ls) ++ r = recB l ++ (flat ls ++ r) := by simp [flat]
    have e2 := txt_rec l (flat ls ++ r) (h l (by simp))
    rw [e, List.length_cons]
    unfold lstS
    rw [e2, if_pos rfl, lst_flat ls r (fun m hm => h m (by simp [hm]))]
theorem all_body (ls : List (List Int)) (hn : ls.length ≤ 10000) (h : ∀ l ∈ ls, l.length ≤ 1048576) : allS (bodyS ls) = (0, ls, []) := by
  have e : cntS (bodyS ls) = (0, ls.length, flat ls) := cnt_grp _ _ hn
  have e2 := lst_flat ls [] h
  rw [List.append_nil] at e2
  unfold allS
  rw [e, if_pos rfl]
  exact e2
theorem rec_le {ls : List (List Int)} {l : List Int} (h : l ∈ ls) : l.length ≤ tot ls := by
  obtain ⟨i, hi, e⟩ := List.mem_iff_getElem.1 h
  have h1 := part_succ (ls := ls) (i := i) (l := l) (by rw [List.getElem?_eq_getElem hi, e])
  have h2 := part_mono ls (i := i + 1) (by omega)
  omega
theorem dec_enc (ls : List (List Int)) (h : fitsS ls = true) : decE (encS ls) = 0 ∧ decL (encS ls) = ls := by
  obtain ⟨hn, ht⟩ := of_decide_eq_true h
  have hb : (bodyS ls).length ≤ 1048568 := by unfold tot at ht; omega
  have e := all_body ls hn (fun l hl => by have := rec_le hl; omega)
  have e1 : decE (encS ls) = 0 := by
    unfold decE encS
    rw [frF_opE hb, if_neg (fun h => h rfl), frF_opB hb, e]
    unfold Oc.doneE
    rw [if_pos rfl, if_pos rfl]
  refine ⟨e1, ?_⟩
  unfold decL
  rw [if_pos e1]
  unfold encS
  rw [frF_opB hb, e]
end Go.Proofs.YtganokcmcdkdgaaGreat.Sp
