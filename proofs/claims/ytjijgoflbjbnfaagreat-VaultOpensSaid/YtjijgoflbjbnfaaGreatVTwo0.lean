/-
  What counts of a journal's file that was cut behind what counts. Conditions: none.
-/
import Derived.Test.YtjijgoflbjbnfaaGreatVAct
namespace Go.Proofs.YtjijgoflbjbnfaaGreat.Vt
open Go.RowKit Fr Sr Jo

theorem nn_take {l : List Int} {m : Nat} (h : 4 ≤ m) : nn (l.take m) = nn l := by
  unfold nn
  rw [List.take_take, Nat.min_eq_left h]
/-- The first frame of bytes that are cut behind it. -/
theorem nx_take {l : List Int} {m : Nat} (h : nxE l = 0) (hm : nxN l ≤ m) : nxE (l.take m) = 0 ∧ nxB (l.take m) = nxB l ∧ nxN (l.take m) = nxN l := by
  obtain ⟨h1, h2, h3, h4⟩ := nxE_ok h
  have hN : nxN l = nn l + 8 := if_pos h
  have e1 : nn (l.take m) = nn l := nn_take (by omega)
  have e2 : tail4 (l.take m) = tail4 l := by
    unfold tail4
    rw [e1, List.drop_take, List.take_take, Nat.min_eq_left (by omega)]
  have e3 : (l.take m).take (nn l + 4) = l.take (nn l + 4) := by rw [List.take_take, Nat.min_eq_left (by omega)]
  have e0 : nxE (l.take m) = 0 := nxE_mk (by rw [e1]; exact h2) (by rw [e1, List.length_take]; omega) (by rw [e1, e2, e3]; exact h4)
  refine ⟨e0, ?_, ?_⟩
  · unfold nxB
    rw [if_pos e0, if_pos h, e1, List.drop_take, List.take_take, Nat.min_eq_left (by omega)]
  · unfold nxN
    rw [if_pos e0, if_pos h, e1]
/-- Where what counts ends. -/
def endC (p : Nat) (c : List Rc) : Nat := match c.getLast? with | none => p | some x => x.1
theorem endC_cons (p : Nat) (x : Rc) (c : List Rc) : endC p (x :: c) = endC x.1 c := by
  unfold endC
  rw [List.getLast?_cons]
  cases c.getLast? <;> rfl
theorem cnt_good {p nx k : Nat} {l : List Int} {y : Nat × List Int} (he : nxE l = 0) (hd : dec (nxB l) = some y) (hc : ¬ (0 < p ∧ y.1 ≠ nx)) :
    cntF nx (Fr.frs (k + 1) p l) = (p + nxN l, y) :: cntF (y.1 + 1) (Fr.frs k (p + nxN l) (l.drop (nxN l))) := by
  rw [Fr.frs, if_pos he, cntF_good (x := (p, nxB l)) hd hc, (nxN_ok he).1, ← Nat.add_assoc]
theorem cnt_stop {p nx k : Nat} {l : List Int} (h : ¬ (nxE l = 0 ∧ ∃ y, dec (nxB l) = some y ∧ ¬ (0 < p ∧ y.1 ≠ nx))) : cntF nx (Fr.frs k p l) = [] := by
  cases k with
  | zero => rfl
  | succ k =>
    rw [Fr.frs]
    split
    · rename_i he
      cases hd : dec (nxB l) with
      | none => exact cntF_none (x := (p, nxB l)) hd
      | some y =>
        by_cases hc : 0 < p ∧ y.1 ≠ nx
        · exact cntF_bad (x := (p, nxB l)) hd hc
        · exact absurd ⟨he, y, hd, hc⟩ h
    · rfl
theorem endC_le (k : Nat) : ∀ (p nx : Nat) (l : List Int), p ≤ endC p (cntF nx (Fr.frs k p l)) := by
  induction k with
  | zero => intro p nx l; exact Nat.le_refl _
  | succ k ih =>
    intro p nx l
    by_cases h : nxE l = 0 ∧ ∃ y, dec (nxB l) = some y ∧ ¬ (0 < p ∧ y.1 ≠ nx)
    · obtain ⟨he, y, hd, hc⟩ := h
      rw [cnt_good he hd hc, endC_cons]
      exact Nat.le_trans (Nat.le_add_right _ _) (ih (p + nxN l) (y.1 + 1) (l.drop (nxN l)))
    · rw [cnt_stop h]
      exact Nat.le_refl _
theorem nx_nil : ¬ nxE ([] : List Int) = 0 := by decide
theorem cnt_cut (k : Nat) : ∀ (p nx k2 : Nat) (l : List Int), l.length < k → (l.take (endC p (cntF nx (Fr.frs k p l)) - p)).length < k2 →
    cntF nx (Fr.frs k2 p (l.take (endC p (cntF nx (Fr.frs k p l)) - p))) = cntF nx (Fr.frs k p l) := by
  induction k with
  | zero => intro p nx k2 l h; omega
  | succ k ih =>
    intro p nx k2 l hk hk2
    by_cases h : nxE l = 0 ∧ ∃ y, dec (nxB l) = some y ∧ ¬ (0 < p ∧ y.1 ≠ nx)
    · obtain ⟨he, y, hd, hc⟩ := h
      obtain ⟨h5, h6⟩ := nxN_ok he
      have hle := endC_le k (p + nxN l) (y.1 + 1) (l.drop (nxN l))
      have hih := ih (p + nxN l) (y.1 + 1) (k2 - 1) (l.drop (nxN l)) (by rw [List.length_drop]; omega)
      rw [cnt_good he hd hc, endC_cons] at hk2 ⊢
      simp only at hk2 ⊢
      generalize hq : endC (p + nxN l) (cntF (y.1 + 1) (Fr.frs k (p + nxN l) (l.drop (nxN l)))) = q at hle hih hk2 ⊢
      obtain ⟨t1, t2, t3⟩ := nx_take (m := q - p) he (by omega)
      rw [List.length_take] at hk2
      cases k2 with
      | zero => omega
      | succ k2 =>
        rw [cnt_good t1 (by rw [t2]; exact hd) hc, t3, List.drop_take, Nat.sub_sub]
        rw [Nat.add_sub_cancel] at hih
        rw [hih (by rw [List.length_take, List.length_drop]; omega)]
    · rw [cnt_stop h]
      show cntF nx (Fr.frs k2 p (l.take (p - p))) = []
      rw [Nat.sub_self, List.take_zero]
      exact cnt_stop (fun e => nx_nil e.1)
theorem cnt_whole (B : List Int) : cnt (B.take (whole (cnt B))) = cnt B := by
  have h := cnt_cut (B.length + 1) 0 0 ((B.take (whole (cnt B))).length + 1) B (by omega)
  have e : endC 0 (cntF 0 (Fr.frs (B.length + 1) 0 B)) = whole (cnt B) := rfl
  rw [e, Nat.sub_zero] at h
  exact h (by omega)
end Go.Proofs.YtjijgoflbjbnfaaGreat.Vt
