/-
  Lists of files: what is put and struck. No program. Conditions: none.
-/
import Derived.Test.YtklngdmpledgeaaSSt
namespace Go.Proofs.Ytklngdmpledgeaa.Sr
open Go.RowKit Fr

def KeysL (L : List Fi) : Prop := L.Pairwise fun x y => x.1 ≠ y.1
theorem has_put (L : List Fi) (k k' : ByteArray) (z : Value × List Int) : hasL (putL L k z) k' = if k = k' then true else hasL L k' := by
  induction L with
  | nil => simp only [putL, hasL]
  | cons y r ih =>
    unfold putL
    by_cases h1 : y.1 = k
    · rw [if_pos h1]
      simp only [hasL]
      by_cases h2 : k = k'
      · rw [if_pos h2, if_pos h2]
      · rw [if_neg h2, if_neg h2, if_neg (by rw [h1]; exact h2)]
    · rw [if_neg h1]
      simp only [hasL, ih]
      by_cases h2 : k = k'
      · rw [if_pos h2]; split <;> rfl
      · rw [if_neg h2, if_neg h2]
theorem byt_put (L : List Fi) (k k' : ByteArray) (v : Value) (l : List Int) : bytL (putL L k (v, l)) k' = if k = k' then l else bytL L k' := by
  induction L with
  | nil => simp only [putL, bytL]
  | cons y r ih =>
    unfold putL
    by_cases h1 : y.1 = k
    · rw [if_pos h1]
      simp only [bytL]
      by_cases h2 : k = k'
      · rw [if_pos h2, if_pos h2]
      · rw [if_neg h2, if_neg h2, if_neg (by rw [h1]; exact h2)]
    · rw [if_neg h1]
      simp only [bytL, ih]
      by_cases h2 : k = k'
      · rw [if_pos h2]
        split
        · rename_i h3; exact absurd (h3.trans h2.symm) h1
        · rfl
      · rw [if_neg h2, if_neg h2]
theorem has_cons (y : Fi) (r : List Fi) (k : ByteArray) : hasL (y :: r) k = if y.1 = k then true else hasL r k := rfl
theorem byt_cons (y : Fi) (r : List Fi) (k : ByteArray) : bytL (y :: r) k = if y.1 = k then y.2.2 else bytL r k := rfl
theorem used_cons (y : Fi) (r : List Fi) : usedL (y :: r) = y.2.2.length + usedL r := rfl
theorem has_mem {L : List Fi} {k : ByteArray} : hasL L k = true ↔ ∃ x ∈ L, x.1 = k := by
  induction L with
  | nil => simp [hasL]
  | cons y r ih =>
    unfold hasL
    by_cases h1 : y.1 = k
    · rw [if_pos h1]; exact ⟨fun _ => ⟨y, List.mem_cons_self, h1⟩, fun _ => rfl⟩
    · rw [if_neg h1, ih]
      exact ⟨fun ⟨x, hx, h⟩ => ⟨x, List.mem_cons_of_mem _ hx, h⟩, fun ⟨x, hx, h⟩ => by
        rcases List.mem_cons.1 hx with rfl | hx
        · exact absurd h h1
        · exact ⟨x, hx, h⟩⟩
theorem has_not {L : List Fi} {k : ByteArray} (h : ∀ x ∈ L, x.1 ≠ k) : hasL L k = false := by
  cases hh : hasL L k with
  | false => rfl
  | true => obtain ⟨x, hx, e⟩ := has_mem.1 hh; exact absurd e (h x hx)
theorem byt_none {L : List Fi} {k : ByteArray} (h : hasL L k = false) : bytL L k = [] := by
  induction L with
  | nil => rfl
  | cons y r ih =>
    unfold hasL at h; unfold bytL
    by_cases h1 : y.1 = k
    · rw [if_pos h1] at h; cases h
    · rw [if_neg h1] at h; rw [if_neg h1]; exact ih h
theorem byt_mem {L : List Fi} (hk : KeysL L) {x : Fi} (hx : x ∈ L) : bytL L x.1 = x.2.2 ∧ valL L x.1 = x.2.1 := by
  induction L with
  | nil => cases hx
  | cons y r ih =>
    obtain ⟨h1, h2⟩ := List.pairwise_cons.1 hk
    unfold bytL valL
    rcases List.mem_cons.1 hx with rfl | hx
    · rw [if_pos rfl, if_pos rfl]; exact ⟨rfl, rfl⟩
    · rw [if_neg (h1 x hx), if_neg (h1 x hx)]; exact ih h2 hx
theorem mem_del {L : List Fi} (hk : KeysL L) {k : ByteArray} : ∀ x, x ∈ delL L k ↔ x ∈ L ∧ x.1 ≠ k := by
  induction L with
  | nil => intro x; simp [delL]
  | cons y r ih =>
    obtain ⟨h1, h2⟩ := List.pairwise_cons.1 hk
    intro x
    unfold delL
    by_cases h3 : y.1 = k
    · rw [if_pos h3]
      exact ⟨fun hx => ⟨List.mem_cons_of_mem _ hx, fun e => h1 x hx (h3.trans e.symm)⟩, fun ⟨hx, hn⟩ => by
        rcases List.mem_cons.1 hx with rfl | hx
        · exact absurd h3 hn
        · exact hx⟩
    · rw [if_neg h3]
      exact ⟨fun hx => by
        rcases List.mem_cons.1 hx with rfl | hx
        · exact ⟨List.mem_cons_self, h3⟩
        · exact ⟨List.mem_cons_of_mem _ ((ih h2 x).1 hx).1, ((ih h2 x).1 hx).2⟩, fun ⟨hx, hn⟩ => by
        rcases List.mem_cons.1 hx with rfl | hx
        · exact List.mem_cons_self
        · exact List.mem_cons_of_mem _ ((ih h2 x).2 ⟨hx, hn⟩)⟩
theorem del_sub (L : List Fi) (k : ByteArray) : (delL L k).Sublist L := by
  induction L with
  | nil => exact List.Sublist.refl _
  | cons y r ih =>
    unfold delL
    split
    · exact List.sublist_cons_self _ _
    · exact ih.cons_cons _
theorem used_del (L : List Fi) (k : ByteArray) : usedL (delL L k) + (bytL L k).length = usedL L := by
  induction L with
  | nil => rfl
  | cons y r ih =>
    unfold delL bytL
    split
    · simp only [usedL]; omega
    · simp only [usedL]; omega
theorem has_del {L : List Fi} (hk : KeysL L) (k k' : ByteArray) : hasL (delL L k) k' = if k = k' then false else hasL L k' := by
  by_cases h : k = k'
  · rw [if_pos h]; exact has_not fun x hx => by rw [← h]; exact ((mem_del hk x).1 hx).2
  · rw [if_neg h]
    cases hh : hasL L k' with
    | true =>
      obtain ⟨x, hx, e⟩ := has_mem.1 hh
      exact has_mem.2 ⟨x, (mem_del hk x).2 ⟨hx, by rw [e]; exact fun e2 => h e2.symm⟩, e⟩
    | false =>
      exact has_not fun x hx e => by
        have := has_mem.2 ⟨x, ((mem_del hk x).1 hx).1, e⟩
        rw [hh] at this; cases this
theorem byt_del {L : List Fi} (hk : KeysL L) (k k' : ByteArray) : bytL (delL L k) k' = if k = k' then [] else bytL L k' := by
  by_cases h : k = k'
  · rw [if_pos h]; exact byt_none (by rw [has_del hk, if_pos h])
  · rw [if_neg h]
    cases hh : hasL L k' with
    | false => rw [byt_none hh]; exact byt_none (by rw [has_del hk, if_neg h]; exact hh)
    | true =>
      obtain ⟨x, hx, e⟩ := has_mem.1 hh
      have h1 := (byt_mem hk hx).1
      have h2 := (byt_mem (hk.sublist (del_sub L k)) ((mem_del hk x).2 ⟨hx, by rw [e]; exact fun e2 => h e2.symm⟩)).1
      rw [e] at h1 h2
      rw [h1, h2]
/-- The same files. -/
def Alike (L L' : List Fi) : Prop := ∀ k, hasL L' k = hasL L k ∧ bytL L' k = bytL L k
theorem same_used : ∀ {L L' : List Fi}, KeysL L → KeysL L' → Alike L L' → usedL L' = usedL L := by
  intro L
  induction L with
  | nil =>
    intro L' _ _ h
    cases L' with
    | nil => rfl
    | cons y r =>
      have := (h y.1).1
      simp [hasL] at this
  | cons y r ih =>
    intro L' hk hk' h
    obtain ⟨h1, h2⟩ := List.pairwise_cons.1 hk
    have h3 : Alike r (delL L' y.1) := fun k => by
      rw [has_del hk', byt_del hk', (h k).1, (h k).2, has_cons, byt_cons]
      by_cases e : y.1 = k
      · simp only [if_pos e]
        have : hasL r k = false := has_not fun x hx e2 => h1 x hx (e.trans e2.symm)
        exact ⟨this.symm, (byt_none this).symm⟩
      · simp only [if_neg e]; exact ⟨trivial, trivial⟩
    have h4 := ih h2 (hk'.sublist (del_sub L' y.1)) h3
    have h5 := used_del L' y.1
    have h6 : bytL L' y.1 = y.2.2 := by
      rw [(h y.1).2, byt_cons, if_pos rfl]
    rw [h6] at h5
    rw [used_cons]
    omega
theorem used_nil : usedL [] = 0 := rfl
end Go.Proofs.Ytklngdmpledgeaa.Sr
