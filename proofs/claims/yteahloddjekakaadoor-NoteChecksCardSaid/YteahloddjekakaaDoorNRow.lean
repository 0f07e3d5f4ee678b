/-
  Rows in memory: what reads as rows; whether their names rise; whether they are the same. Conditions: none.
-/
import Derived.Test.YteahloddjekakaaDoorNBase
namespace Go.Proofs.YteahloddjekakaaDoor.Nt
open Go.RowKit Td

/-- The address A begins the rows l. -/
def RR (w : World) (A : Option Addr) (l : List Rw) : Prop := l = [] ∨ ∃ g o, A = some ⟨g, o, none⟩ ∧ g < w.heap.size ∧ ∀ i m, l[i]? = some m → w.cell? ⟨g, o + i * 2, none⟩ = some (.string m.1) ∧ w.cell? ⟨g, o + i * 2 + 1, none⟩ = some (.int .i64 m.2)
theorem RR.below {w w' : World} {A : Option Addr} {l : List Rw} (h : RR w A l) (hb : Below w.heap.size w w') : RR w' A l := by
  rcases h with rfl | ⟨g, o, e, hg, hc⟩
  · exact .inl rfl
  · exact .inr ⟨g, o, e, Nat.lt_of_lt_of_le hg hb.size, fun i m hi => by
      have := hc i m hi
      exact ⟨(hb.cell (p := ⟨g, o + i * 2, none⟩) hg).trans this.1, (hb.cell (p := ⟨g, o + i * 2 + 1, none⟩) hg).trans this.2⟩⟩
theorem RR.drew {w : World} {A : Option Addr} {l : List Rw} (h : RR w A l) : RR w.drew A l := h.below (Below.refl _ _).drew
theorem RR.nil (w : World) (A : Option Addr) : RR w A [] := .inl rfl
theorem RR.take {w : World} {A : Option Addr} {l : List Rw} (h : RR w A l) (k : Nat) : RR w A (l.take k) := by
  rcases h with rfl | ⟨g, o, e, hg, hc⟩
  · exact .inl (by simp)
  · exact .inr ⟨g, o, e, hg, fun i s hi => hc i s (by rw [List.getElem?_take] at hi; split at hi; exact hi; cases hi)⟩
theorem RR.at {w : World} {A : Option Addr} {l : List Rw} (h : RR w A l) {i : Nat} {m : Rw} (hi : l[i]? = some m) : ∃ g o, A = some ⟨g, o, none⟩ ∧ g < w.heap.size ∧ w.cell? ⟨g, o + i * 2, none⟩ = some (.string m.1) ∧ w.cell? ⟨g, o + i * 2 + 1, none⟩ = some (.int .i64 m.2) := by
  rcases h with rfl | ⟨g, o, e, hg, hc⟩
  · simp at hi
  · exact ⟨g, o, e, hg, (hc i m hi).1, (hc i m hi).2⟩
/-- Rows as cells. -/
def rcl (l : List Rw) : List Value := l.flatMap fun m => [.string m.1, .int .i64 m.2]
theorem rcl_append (a b : List Rw) : rcl (a ++ b) = rcl a ++ rcl b := by simp [rcl]
theorem rcl_len : ∀ l : List Rw, (rcl l).length = l.length * 2
  | [] => rfl
  | m :: l => by
    have := rcl_len l
    show ([_, _] ++ rcl l).length = _
    simp; omega
theorem rcl_get : ∀ (l : List Rw) (i : Nat) (m : Rw), l[i]? = some m → (rcl l)[i * 2]? = some (.string m.1) ∧ (rcl l)[i * 2 + 1]? = some (.int .i64 m.2)
  | [], _, _, h => by simp at h
  | a :: l, 0, m, h => by simp at h; subst h; exact ⟨rfl, rfl⟩
  | a :: l, i + 1, m, h => by
    have := rcl_get l i m (by simpa using h)
    show ([_, _] ++ rcl l)[_]? = _ ∧ ([_, _] ++ rcl l)[_]? = _
    rw [show (i + 1) * 2 = i * 2 + 1 + 1 by omega]
    simpa using this
theorem rcl_one (l : List Rw) : ∀ u ∈ rcl l, u.oneCell' = true := fun u hu => by
  obtain ⟨r, _, h⟩ := List.mem_flatMap.1 hu
  simp at h
  rcases h with rfl | rfl <;> rfl
theorem RR.of_own {w : World} {base t : Nat} {v : Value} {l : List Rw} (h : w.ownsRow base t 2 v l.length (rcl l)) : ∃ A cap, v = .slice A l.length cap ∧ RR w A l ∧ l.length ≤ cap := by
  rcases h.2 with ⟨rfl, h0⟩ | ⟨g, cap, cur, rfl, _, hh, hc, _, hs, ht⟩
  · obtain rfl : l = [] := List.length_eq_zero_iff.1 h0
    exact ⟨none, 0, rfl, .inl rfl, Nat.le_refl _⟩
  · refine ⟨_, cap, rfl, .inr ⟨g, 0, rfl, (Array.getElem?_eq_some_iff.1 hh).1, fun i m hi => ?_⟩, hc⟩
    have hlt : i < l.length := (List.getElem?_eq_some_iff.1 hi).1
    have hc := rcl_get l i m hi
    rw [← ht, List.getElem?_take, if_pos (by omega), List.getElem?_take, if_pos (by omega)] at hc
    rw [Nat.zero_add, cell_of_row _ g (i * 2) _ _ _ hh, cell_of_row _ g (i * 2 + 1) _ _ _ hh]
    simpa using hc

/-! ### Do the names rise? -/
def srtB : List Rw → Bool
  | a :: b :: r => ltS a.1 b.1 && srtB (b :: r)
  | _ => true
theorem srt_step {l : List Rw} {i : Nat} {a b : Rw} (h1 : l[i]? = some a) (h2 : l[i + 1]? = some b) : srtB (l.drop i) = (ltS a.1 b.1 && srtB (l.drop (i + 1))) := by
  obtain ⟨k1, rfl⟩ := List.getElem?_eq_some_iff.1 h1
  obtain ⟨k2, rfl⟩ := List.getElem?_eq_some_iff.1 h2
  rw [List.drop_eq_getElem_cons k1, List.drop_eq_getElem_cons k2]
  rfl
theorem srt_end {l : List Rw} {i : Nat} (h : l.length ≤ i + 1) : srtB (l.drop i) = true := by
  have hl : (l.drop i).length ≤ 1 := by rw [List.length_drop]; omega
  match h2 : l.drop i with
  | [] => rfl
  | [_] => rfl
  | _ :: _ :: _ => rw [h2] at hl; simp at hl
end Go.Proofs.YteahloddjekakaaDoor.Nt
