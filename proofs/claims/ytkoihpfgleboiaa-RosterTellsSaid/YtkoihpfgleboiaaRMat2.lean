/-
  Rosters as lists: what a right one tells is what the document's tells. No program.
-/
import Derived.Test.YtkoihpfgleboiaaRRef
namespace Go.Proofs.Ytkoihpfgleboiaa.Ro
open Go.RowKit Tb Td

theorem has_look {V : Type} (t : List (ByteArray × V)) (ha : asc t) (s : ByteArray) : hasB t s = (Tb.look t s).isSome := by
  cases h : hasB t s
  · cases hl : Tb.look t s with
    | none => rfl
    | some v =>
      have := (has_iff t s ha).2 ⟨v, look_some _ _ _ hl⟩
      rw [h] at this; cases this
  · obtain ⟨v, hv⟩ := (has_iff t s ha).1 h
    rw [look_mem t ha _ hv]; rfl
theorem get_look (t : List (ByteArray × Int)) (ha : asc t) (s : ByteArray) : Si.getL t s = (Tb.look t s).getD 0 := by
  cases h : hasB t s
  · have h2 := has_look t ha s
    rw [h] at h2
    rw [Si.getL_not t s h]
    cases hl : Tb.look t s with
    | none => rfl
    | some v => rw [hl] at h2; cases h2
  · have h2 := Si.getL_has t s h
    have := look_mem t ha _ (List.mem_of_getElem? h2)
    simp only at this
    rw [this]; rfl
theorem admit_ok {n : Int} {M : List (ByteArray × Int)} {m : ByteArray × Int} (h : admitE n M m = 0) : hasB M m.1 = false ∧ nodeB n m.2 = true := by
  unfold admitE at h
  split at h
  · split at h
    · cases h
    · rename_i h2
      split at h
      · rename_i h3
        exact ⟨by simpa using h2, h3⟩
      · cases h
  · contradiction
theorem goM_all (n : Int) : ∀ (l p : List (ByteArray × Int)), (∀ s, (p.find? fun m => decide (m.1 = s)).map (·.2) = Tb.look (meL p) s) → (∀ m ∈ p, nodeB n m.2 = true) → goM n (meL p) l = 0 →
    (∀ s, ((p ++ l).find? fun m => decide (m.1 = s)).map (·.2) = Tb.look (meL (p ++ l)) s) ∧ (∀ m ∈ p ++ l, nodeB n m.2 = true) ∧ (meL (p ++ l)).length = (meL p).length + l.length
  | [], p, h1, h2, _ => by rw [List.append_nil]; exact ⟨h1, h2, rfl⟩
  | m :: l, p, h1, h2, h => by
    unfold goM at h
    split at h
    · rename_i h0
      obtain ⟨hno, hnb⟩ := admit_ok h0
      have e : meL (p ++ [m]) = putL (meL p) m.1 m.2 := by unfold meL; exact putAll_snoc p m
      rw [← e] at h
      have hl := has_look _ (meL_asc p) m.1
      rw [hno] at hl
      have ih := goM_all n l (p ++ [m]) (fun s => by
        rw [e, look_putL _ _ _ (meL_asc p), List.find?_append]
        by_cases hs : m.1 = s
        · rw [if_pos hs]
          have h3 : (p.find? fun m => decide (m.1 = s)) = none := by
            have := h1 s
            rw [← hs] at this ⊢
            cases hk : Tb.look (meL p) m.1 with
            | none => rw [hk] at this; simpa using this
            | some v => rw [hk] at hl; cases hl
          rw [h3]
          simp [hs]
        · rw [if_neg hs, ← h1 s]
          simp [hs]) (fun x hx => by
        rcases List.mem_append.1 hx with hx | hx
        · exact h2 x hx
        · rw [List.mem_singleton.1 hx]; exact hnb) h
      rw [List.append_assoc] at ih
      refine ⟨ih.1, ih.2.1, ?_⟩
      rw [show p ++ m :: l = p ++ ([m] ++ l) by simp, ih.2.2, e, Si.putL_not _ _ _ hno]
      have := pl_le (meL p) m.1
      simp; omega
    · contradiction
theorem goI_all : ∀ (l p : List ByteArray), goI (isL p) l = 0 → (isL (p ++ l)).length = (isL p).length + l.length
  | [], p, _ => by rw [List.append_nil]; rfl
  | s :: l, p, h => by
    unfold goI at h
    split at h
    · rename_i h0
      have hno : hasB (isL p) s = false := by
        cases hb : hasB (isL p) s
        · rfl
        · unfold listE at h0
          split at h0
          · first | (rw [hb] at h0; cases h0) | cases h0
          · contradiction
      have e : isL (p ++ [s]) = putL (isL p) s () := by
        unfold isL
        rw [List.map_append]
        exact putAll_snoc _ _
      rw [← e] at h
      have ih := goI_all l (p ++ [s]) h
      rw [List.append_assoc] at ih
      rw [show p ++ s :: l = p ++ ([s] ++ l) by simp, ih, e, Su.putL_not _ _ _ hno]
      have := pl_le (isL p) s
      simp; omega
    · contradiction
theorem newE_zero {n : Int} {ss : List ByteArray} {ms : List (ByteArray × Int)} (h : newE n ss ms = 0) : 1 ≤ n ∧ n ≤ 3 ∧ ss.length ≤ 32 ∧ ms.length ≤ 64 ∧ goI [] ss = 0 ∧ goM n [] ms = 0 := by
  unfold newE at h
  split at h
  · cases h
  · split at h
    · cases h
    · split at h
      · exact ⟨by omega, by omega, by omega, by omega, by assumption, h⟩
      · contradiction
/-- What a right roster's members are. -/
structure Right (n : Int) (ss : List ByteArray) (ms : List (ByteArray × Int)) : Prop where
  n1 : 1 ≤ n
  n3 : n ≤ 3
  s32 : ss.length ≤ 32
  m64 : ms.length ≤ 64
  find : ∀ s, (ms.find? fun m => decide (m.1 = s)).map (·.2) = Tb.look (meL ms) s
  node : ∀ m ∈ ms, nodeB n m.2 = true
  mlen : (meL ms).length = ms.length
  slen : (isL ss).length = ss.length
theorem right_of {n : Int} {ss : List ByteArray} {ms : List (ByteArray × Int)} (h : newE n ss ms = 0) : Right n ss ms := by
  obtain ⟨h1, h2, h3, h4, h5, h6⟩ := newE_zero h
  have h7 := goM_all n ms [] (fun s => rfl) (fun m hm => by cases hm) h6
  have h8 := goI_all ss [] h5
  exact ⟨h1, h2, h3, h4, h7.1, h7.2.1, by have := h7.2.2; have e : (meL ([] : List (ByteArray × Int))).length = 0 := rfl; simp only [List.nil_append] at this; omega, by have e : (isL ([] : List ByteArray)).length = 0 := rfl; simp only [List.nil_append] at h8; omega⟩
theorem Right.home {n : Int} {ss : List ByteArray} {ms : List (ByteArray × Int)} (h : Right n ss ms) (s : ByteArray) : homeL ms s = if hasB (meL ms) s = true then Si.getL (meL ms) s else -1 := by
  rw [has_look _ (meL_asc ms), get_look _ (meL_asc ms), ← h.find s]
  unfold homeL
  cases ms.find? fun m => decide (m.1 = s) <;> simp
theorem Right.range {n : Int} {ss : List ByteArray} {ms : List (ByteArray × Int)} (h : Right n ss ms) (s : ByteArray) (hs : hasB (meL ms) s = true) : nodeB n (Si.getL (meL ms) s) = true := by
  rw [has_look _ (meL_asc ms), ← h.find s] at hs
  rw [get_look _ (meL_asc ms), ← h.find s]
  cases hf : ms.find? fun m => decide (m.1 = s) with
  | none => rw [hf] at hs; cases hs
  | some m => exact h.node m (List.mem_of_find?_eq_some hf)
theorem nodeB_ge {n k : Int} (h : nodeB n k = true) : 0 ≤ k ∧ k < n := by simpa [nodeB] using h
theorem Right.neg {n : Int} {ss : List ByteArray} {ms : List (ByteArray × Int)} (h : Right n ss ms) (s : ByteArray) : homeL ms s < 0 ↔ hasB (meL ms) s = false := by
  rw [h.home s]
  cases hb : hasB (meL ms) s
  · simp
  · have := nodeB_ge (h.range s hb)
    simp; omega
theorem has_eq (ss : List ByteArray) (s : ByteArray) : hasL ss s = hasB (isL ss) s := by
  rw [Bool.eq_iff_iff, hasL_iff, has_isL]
theorem route_eq {n : Int} {ss : List ByteArray} {ms : List (ByteArray × Int)} (h : Right n ss ms) (x : Tr) : routeV (isL ss) (meL ms) x = routeR ss ms x := by
  unfold routeV routeR
  by_cases hc : chk x = 0
  · rw [if_pos hc, if_pos hc]
    cases h1 : hasB (meL ms) x.b
    · rw [if_neg (by simp), if_pos (.inl ((h.neg _).2 h1))]
    · cases h2 : hasB (meL ms) x.s
      · rw [if_neg (by simp), if_pos (.inr (.inl ((h.neg _).2 h2)))]
      · cases h3 : hasB (isL ss) x.i
        · rw [if_neg (by simp), if_pos (.inr (.inr (by rw [has_eq, h3])))]
        · have n1 : ¬ homeL ms x.b < 0 := fun e => by have := (h.neg _).1 e; rw [h1] at this; cases this
          have n2 : ¬ homeL ms x.s < 0 := fun e => by have := (h.neg _).1 e; rw [h2] at this; cases this
          have n3 : ¬ hasL ss x.i = false := fun e => by rw [has_eq, h3] at e; cases e
          rw [if_pos ⟨rfl, rfl, rfl⟩, if_neg (fun e => e.elim n1 (fun e => e.elim n2 n3)), h.home, h.home, h1, h2]
          rfl
  · rw [if_neg hc, if_neg hc]
end Go.Proofs.Ytkoihpfgleboiaa.Ro
