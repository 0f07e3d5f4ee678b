/-
  The insertion sort and the exchange of two elements, said on lists; the insertion sort keeps the order of equal keys. Conditions: places within the row.
-/
import Derived.Test.YtflhpijcfiamgaaTMath
import Derived.Shelf.SlSortCmp.KitK
namespace Go.Proofs.Ytflhpijcfiamgaa.Tb
open Go.Sort Ky

theorem toList_set {α : Type} (d : Array α) (i : Nat) (v : α) : (d.setIfInBounds i v).toList = d.toList.set i v := by simp
theorem get_bang {α : Type} [Inhabited α] (d : Array α) (i : Nat) (x : α) (h : d.toList[i]? = some x) : d[i]! = x := by
  rw [Array.getElem!_eq_getD, Array.getD_eq_getD_getElem?, ← Array.getElem?_toList, h]; rfl
theorem swp_toList {α : Type} [Inhabited α] (d : Array α) (A M B : List α) (x y : α) (h : d.toList = A ++ x :: (M ++ y :: B)) :
    (swp d A.length (A.length + 1 + M.length)).toList = A ++ y :: (M ++ x :: B) ∧ (swp d (A.length + 1 + M.length) A.length).toList = A ++ y :: (M ++ x :: B) := by
  have hx : d[A.length]! = x := get_bang _ _ _ (by rw [h]; simp)
  have hy : d[A.length + 1 + M.length]! = y := get_bang _ _ _ (by
    rw [h, List.getElem?_append_right (by omega), show A.length + 1 + M.length - A.length = M.length + 1 by omega, List.getElem?_cons_succ, List.getElem?_append_right (by omega), Nat.sub_self]; rfl)
  constructor
  · unfold swp
    rw [hx, hy, toList_set, toList_set, h, List.set_append_right _ _ (by omega), Nat.sub_self, List.set_cons_zero, List.set_append_right _ _ (by omega), show A.length + 1 + M.length - A.length = M.length + 1 by omega, List.set_cons_succ, List.set_append_right _ _ (by omega), Nat.sub_self, List.set_cons_zero]
  · unfold swp
    rw [hx, hy, toList_set, toList_set, h, List.set_append_right _ _ (by omega), show A.length + 1 + M.length - A.length = M.length + 1 by omega, List.set_cons_succ, List.set_append_right _ _ (by omega), Nat.sub_self, List.set_cons_zero, List.set_append_right _ _ (by omega), Nat.sub_self, List.set_cons_zero]

section
variable {κ V : Type} [Ky κ] [Inhabited V]
instance : Inhabited (κ × V) := ⟨(default, default)⟩
/-- Two rows by their keys. -/
def cfR (x y : κ × V) : Int := cmpK x.1 y.1
theorem ltOf_cfR {κ V : Type} [Ky κ] (x y : κ × V) : ltOf cfR x y = lt x.1 y.1 := by
  unfold ltOf cfR
  rw [Bool.eq_iff_iff, decide_eq_true_eq]
  exact cmpK_neg _ _
theorem swo_cfR {κ V : Type} [Ky κ] : SWO (ltOf (cfR : κ × V → κ × V → Int)) where
  irrefl := fun x => by rw [ltOf_cfR]; exact irr _
  trans := fun x y z h k => by rw [ltOf_cfR] at *; exact tr _ _ _ h k
  ntrans := fun x y z h k => by
    rw [ltOf_cfR] at *
    cases e : lt x.1 z.1
    · rfl
    · have := lt_of_lt_not e k
      rw [this] at h; cases h
theorem kv_swp {κ V : Type} [Ky κ] (A B : List (κ × V)) (x y : κ × V) (h : x.1 ≠ y.1) (k : κ) : kv (A ++ y :: x :: B) k = kv (A ++ x :: y :: B) k := by
  rw [kv_append, kv_append]
  congr 1
  unfold kv
  rw [List.filter_cons, List.filter_cons, List.filter_cons, List.filter_cons]
  by_cases h1 : x.1 = k
  · have h2 : ¬ y.1 = k := fun e => h (h1.trans e.symm)
    simp [h1, h2]
  · by_cases h2 : y.1 = k <;> simp [h1, h2]
theorem split_two {α : Type} (l : List α) (j : Nat) (h : j + 1 < l.length) : ∃ A x y B, l = A ++ x :: y :: B ∧ A.length = j := by
  refine ⟨l.take j, l[j], l[j + 1], l.drop (j + 2), ?_, by rw [List.length_take]; omega⟩
  have h1 := List.drop_eq_getElem_cons (show j < l.length by omega)
  have h2 := List.drop_eq_getElem_cons h
  rw [← h2, ← h1, List.take_append_drop]
theorem kv_insInner (a : Nat) (k : κ) : ∀ (j : Nat) (d : Array (κ × V)), j < d.size → kv (insInner (ltOf cfR) a j d).toList k = kv d.toList k
  | 0, d, _ => by rw [insInner]
  | j + 1, d, h => by
    rw [insInner]
    split
    · next hc =>
      simp only [Bool.and_eq_true, decide_eq_true_eq] at hc
      rw [kv_insInner a k j _ (by rw [size_swp]; omega)]
      obtain ⟨A, x, y, B, e, hl⟩ := split_two d.toList j (by simpa using h)
      have hs := (swp_toList d A [] B x y (by simpa using e)).2
      rw [hl] at hs
      rw [show j + 1 + [].length = j + 1 from rfl] at hs
      have hx : d[j]! = x := get_bang _ _ _ (by rw [e, ← hl]; simp)
      have hy : d[j + 1]! = y := get_bang _ _ _ (by rw [e, ← hl, List.getElem?_append_right (by omega)]; simp)
      have hne : x.1 ≠ y.1 := fun e => by
        have := hc.2
        rw [hx, hy, ltOf_cfR, e, irr] at this; cases this
      rw [hs, e]
      exact kv_swp A B x y hne k
    · rfl
theorem size_insInner' (a : Nat) : ∀ (j : Nat) (d : Array (κ × V)), (insInner (ltOf cfR) a j d).size = d.size
  | 0, d => by rw [insInner]
  | j + 1, d => by
    rw [insInner]
    split
    · rw [size_insInner' a j, size_swp]
    · rfl
theorem kv_insOuter (a b : Nat) (k : κ) : ∀ (n i : Nat) (d : Array (κ × V)), b - i = n → b ≤ d.size → kv (insOuter (ltOf cfR) a b i d).toList k = kv d.toList k
  | 0, i, d, hn, _ => by rw [insOuter, if_neg (by omega)]
  | n + 1, i, d, hn, hb => by
    rw [insOuter, if_pos (by omega), kv_insOuter a b k n (i + 1) _ (by omega) (by rw [size_insInner']; exact hb), kv_insInner a k i d (by omega)]
theorem kv_insertion (d : Array (κ × V)) (a b : Nat) (hb : b ≤ d.size) (k : κ) : kv (Go.Sort.insertionSort (ltOf cfR) d a b).toList k = kv d.toList k := kv_insOuter a b k _ _ d rfl hb
theorem size_insertion (d : Array (κ × V)) (a b : Nat) (hab : a ≤ b) (hb : b ≤ d.size) : (Go.Sort.insertionSort (ltOf cfR) d a b).size = d.size := (insertionSort_holds (lt := ltOf cfR) swo_cfR d a b hab hb).1.1
theorem srt_of_sorted (d : Array (κ × V)) (h : SortedIn (ltOf cfR) 0 d.size d) : srt d.toList := by
  unfold srt
  rw [List.pairwise_iff_getElem]
  intro i j hi hj hij
  have := h i j (Nat.zero_le _) hij (by simpa using hj)
  rw [ltOf_cfR, get_bang d j _ (List.getElem?_eq_getElem hj), get_bang d i _ (List.getElem?_eq_getElem hi)] at this
  exact this
/-- The insertion sort of a whole row keeps the order of equal keys. -/
theorem stab_insertion (d : Array (κ × V)) : Stab d.toList (Go.Sort.insertionSort (ltOf cfR) d 0 d.size).toList := by
  have h := insertionSort_holds (lt := ltOf (cfR : κ × V → κ × V → Int)) swo_cfR d 0 d.size (Nat.zero_le _) (Nat.le_refl _)
  refine ⟨srt_of_sorted _ ?_, kv_insertion d 0 d.size (Nat.le_refl _)⟩
  rw [h.1.1]
  exact h.2
end
end Go.Proofs.Ytflhpijcfiamgaa.Tb
