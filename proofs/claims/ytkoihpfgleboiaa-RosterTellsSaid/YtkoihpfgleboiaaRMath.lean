/-
  Rosters as lists: which names are there, what is wrong. No program.
-/
import Derived.Test.YtkoihpfgleboiaaRMake
namespace Go.Proofs.Ytkoihpfgleboiaa.Ro
open Go.RowKit Tb

section
variable {κ V : Type} [Ky κ]
theorem has_iff (l : List (κ × V)) (k : κ) (hl : asc l) : hasB l k = true ↔ ∃ v, (k, v) ∈ l := by
  constructor
  · intro h
    obtain ⟨_, v, hv⟩ := has_lt l k h
    exact ⟨v, List.mem_of_getElem? hv⟩
  · rintro ⟨v, hv⟩
    obtain ⟨i, hi, e⟩ := List.mem_iff_getElem.1 hv
    have h1 := pl_iff l k hl i _ (List.getElem?_eq_getElem hi)
    rw [e, Ky.irr] at h1
    have h2 : pl l k ≤ i := by
      rcases Nat.lt_or_ge i (pl l k) with h | h
      · exact absurd (h1.2 h) (by decide)
      · exact h
    have h3 : ¬ pl l k < i := fun h => by
      have hlt : pl l k < l.length := by omega
      have h4 := pl_iff l k hl (pl l k) _ (List.getElem?_eq_getElem hlt)
      have h5 := List.pairwise_iff_getElem.1 hl (pl l k) i hlt hi h
      rw [e] at h5
      have := h4.1 h5
      omega
    have h4 : pl l k = i := by omega
    unfold hasB
    rw [h4, List.getElem?_eq_getElem hi, e]
    simp
theorem kv_mem (l : List (κ × V)) (k : κ) : kv l k ≠ [] ↔ ∃ r ∈ l, r.1 = k := by
  unfold kv
  constructor
  · intro h
    match hf : l.filter fun r => decide (r.1 = k) with
    | [] => rw [hf] at h; exact absurd rfl h
    | r :: t =>
      have : r ∈ l.filter fun r => decide (r.1 = k) := by rw [hf]; exact List.mem_cons_self ..
      have := List.mem_filter.1 this
      exact ⟨r, this.1, by simpa using this.2⟩
  · rintro ⟨r, hr, hk⟩ h
    have : r ∈ l.filter fun r => decide (r.1 = k) := List.mem_filter.2 ⟨hr, by simpa using hk⟩
    rw [List.map_eq_nil_iff] at h
    rw [h] at this
    cases this
theorem has_putAll (l : List (κ × V)) (k : κ) : hasB (putAll l) k = true ↔ ∃ r ∈ l, r.1 = k := by
  rw [has_iff _ _ (asc_putAll l), ← kv_mem]
  have hlook := look_putAll l k
  constructor
  · rintro ⟨v, hv⟩ h0
    have := look_mem _ (asc_putAll l) _ hv
    simp only at this
    rw [hlook, h0] at this
    cases this
  · intro h
    match hk : kv l k with
    | [] => exact absurd hk h
    | v :: vs =>
      rw [hk] at hlook
      exact ⟨_, look_some _ _ _ hlook⟩
end
theorem has_isL (ss : List ByteArray) (s : ByteArray) : hasB (isL ss) s = true ↔ s ∈ ss := by
  unfold isL
  rw [has_putAll]
  constructor
  · rintro ⟨r, hr, rfl⟩
    obtain ⟨t, ht, rfl⟩ := List.mem_map.1 hr
    exact ht
  · intro h
    exact ⟨(s, ()), List.mem_map.2 ⟨s, h, rfl⟩, rfl⟩
theorem has_meL (ms : List (ByteArray × Int)) (s : ByteArray) : hasB (meL ms) s = true ↔ ∃ m ∈ ms, m.1 = s := has_putAll ms s
theorem mem_take {α : Type} (l : List α) (i : Nat) (x : α) : x ∈ l.take i ↔ ∃ k, k < i ∧ l[k]? = some x := by
  rw [List.mem_iff_getElem?]
  constructor
  · rintro ⟨k, hk⟩
    rw [List.getElem?_take] at hk
    split at hk
    · exact ⟨k, by assumption, hk⟩
    · cases hk
  · rintro ⟨k, hk, h⟩
    exact ⟨k, by rw [List.getElem?_take, if_pos hk]; exact h⟩
theorem has_isL_take (ss : List ByteArray) (i : Nat) (s : ByteArray) : hasB (isL (ss.take i)) s = true ↔ ∃ k, k < i ∧ ss[k]? = some s := by rw [has_isL, mem_take]
theorem has_meL_take (ms : List (ByteArray × Int)) (i : Nat) (s : ByteArray) : hasB (meL (ms.take i)) s = true ↔ ∃ k m, k < i ∧ ms[k]? = some m ∧ m.1 = s := by
  rw [has_meL]
  constructor
  · rintro ⟨m, hm, e⟩
    obtain ⟨k, hk, h⟩ := (mem_take ms i m).1 hm
    exact ⟨k, m, hk, h, e⟩
  · rintro ⟨k, m, hk, h, e⟩
    exact ⟨m, (mem_take ms i m).2 ⟨k, hk, h⟩, e⟩
end Go.Proofs.Ytkoihpfgleboiaa.Ro
