/-
  The reference's list of files, rising by names: where a name stands, what is set, what goes. No program. Conditions: none.
-/
import Derived.Test.YtffeinbbgfogoaaSNms
namespace Go.Proofs.Ytffeinbbgfogoaa.Sr
open Go.RowKit Fr

theorem bl_irr : ∀ x : List UInt8, Op.bytesLess x x = false
  | [] => rfl
  | a :: x => by rw [Op.bytesLess, bl_irr x]; simp
theorem bl_tr : ∀ x y z : List UInt8, Op.bytesLess x y = true → Op.bytesLess y z = true → Op.bytesLess x z = true
  | [], [], _, h, _ => by simp [Op.bytesLess] at h
  | [], _ :: _, [], _, h => by simp [Op.bytesLess] at h
  | [], _ :: _, _ :: _, _, _ => by simp [Op.bytesLess]
  | _ :: _, [], _, h, _ => by simp [Op.bytesLess] at h
  | _ :: _, _ :: _, [], _, h => by simp [Op.bytesLess] at h
  | a :: x, b :: y, c :: z, h, k => by
    have ih := bl_tr x y z
    simp only [Op.bytesLess, Bool.or_eq_true, Bool.and_eq_true, decide_eq_true_eq, beq_iff_eq, UInt8.lt_iff_toNat_lt] at h k ⊢
    rcases h with h | ⟨rfl, h⟩
    · rcases k with k | ⟨rfl, k⟩
      · left; omega
      · left; exact h
    · rcases k with k | ⟨rfl, k⟩
      · left; exact k
      · right; exact ⟨rfl, ih h k⟩
theorem bl_tri : ∀ x y : List UInt8, Op.bytesLess x y = false → Op.bytesLess y x = false → x = y
  | [], [], _, _ => rfl
  | [], _ :: _, h, _ => by simp [Op.bytesLess] at h
  | _ :: _, [], _, h => by simp [Op.bytesLess] at h
  | a :: x, b :: y, h, k => by
    have ih := bl_tri x y
    simp only [Op.bytesLess, Bool.or_eq_false_iff, Bool.and_eq_false_iff, decide_eq_false_iff_not, beq_eq_false_iff_ne, UInt8.lt_iff_toNat_lt] at h k
    have e : a = b := UInt8.toNat_inj.1 (by omega)
    subst e
    rw [ih (h.2.resolve_left (fun n => n rfl)) (k.2.resolve_left (fun n => n rfl))]
theorem toList_data' (s : ByteArray) : s.toList = s.data.toList := ByteArray.toList_eq s
theorem bytes_inj {s t : ByteArray} (h : s.toList = t.toList) : s = t := by
  rw [toList_data', toList_data'] at h
  cases s; cases t
  simp only [ByteArray.mk.injEq]
  exact Array.toList_inj.1 h
def blt (a b : ByteArray) : Bool := Op.bytesLess a.toList b.toList
theorem beqS (a b : ByteArray) : (a.toList == b.toList) = decide (a = b) := by
  rw [Bool.eq_iff_iff, beq_iff_eq, decide_eq_true_eq]
  exact ⟨bytes_inj, fun h => by rw [h]⟩
theorem blt_ne {a b : ByteArray} (h : blt a b = true) : a ≠ b := by
  rintro rfl
  unfold blt at h
  rw [bl_irr] at h; cases h
theorem blt_tr {a b c : ByteArray} (h : blt a b = true) (k : blt b c = true) : blt a c = true := bl_tr _ _ _ h k
theorem blt_tri {a b : ByteArray} (h : blt a b = false) (hn : a ≠ b) : blt b a = true := by
  cases k : blt b a with
  | true => rfl
  | false => exact absurd (bytes_inj (bl_tri _ _ h k)) hn

/-- How many names are less. -/
def plS : List Fi → ByteArray → Nat
  | [], _ => 0
  | y :: r, k => if blt y.1 k = true then plS r k + 1 else 0
def insS : List Fi → ByteArray → Value × List Int → List Fi
  | [], k, z => [(k, z)]
  | y :: r, k, z => if y.1 = k then (k, z) :: r else if blt y.1 k = true then y :: insS r k z else (k, z) :: y :: r
def SrtL (D : List Fi) : Prop := D.Pairwise fun x y => blt x.1 y.1 = true
theorem SrtL.keys {D : List Fi} (h : SrtL D) : KeysL D := h.imp fun h => blt_ne h
theorem pl_le (D : List Fi) (k : ByteArray) : plS D k ≤ D.length := by
  induction D with
  | nil => exact Nat.le_refl _
  | cons y r ih =>
    unfold plS
    split
    · simp only [List.length_cons]; omega
    · exact Nat.zero_le _
theorem pl_lt {D : List Fi} {k : ByteArray} : ∀ {i : Nat} {x : Fi}, i < plS D k → D[i]? = some x → blt x.1 k = true := by
  induction D with
  | nil => intro i x h; exact absurd h (Nat.not_lt_zero _)
  | cons y r ih =>
    intro i x h hx
    unfold plS at h
    split at h
    · rename_i hy
      cases i with
      | zero => cases hx; exact hy
      | succ i => exact ih (Nat.lt_of_succ_lt_succ h) hx
    · exact absurd h (Nat.not_lt_zero _)
theorem pl_at {D : List Fi} {k : ByteArray} : ∀ {x : Fi}, D[plS D k]? = some x → blt x.1 k = false := by
  induction D with
  | nil => intro x h; cases h
  | cons y r ih =>
    intro x h
    unfold plS at h
    split at h
    · exact ih h
    · rename_i hy
      cases h
      simpa using hy
def hasP (D : List Fi) (k : ByteArray) : Bool := match D[plS D k]? with
  | some x => decide (x.1 = k)
  | none => false
theorem has_tail {y : Fi} {r : List Fi} {k : ByteArray} (h : SrtL (y :: r)) (h1 : ¬ blt y.1 k = true) : hasL r k = false := has_not fun x hx e => by
  have h2 := (List.pairwise_cons.1 h).1 x hx
  rw [e] at h2
  exact h1 h2
theorem has_at {D : List Fi} {k : ByteArray} (h : SrtL D) : hasL D k = hasP D k := by
  unfold hasP
  induction D with
  | nil => rfl
  | cons y r ih =>
    obtain ⟨h1, h2⟩ := List.pairwise_cons.1 h
    unfold hasL plS
    by_cases hy : blt y.1 k = true
    · rw [if_neg (blt_ne hy), if_pos hy]; exact ih h2
    · rw [if_neg hy]
      show _ = decide (y.1 = k)
      by_cases he : y.1 = k
      · rw [if_pos he]; simp [he]
      · rw [if_neg he, has_tail h hy]; simp [he]
theorem val_at {D : List Fi} {k : ByteArray} (h : SrtL D) (hh : hasL D k = true) : ∃ x, D[plS D k]? = some x ∧ x.1 = k ∧ x.2.1 = valL D k ∧ x.2.2 = bytL D k := by
  induction D with
  | nil => cases hh
  | cons y r ih =>
    obtain ⟨h1, h2⟩ := List.pairwise_cons.1 h
    unfold plS valL bytL
    unfold hasL at hh
    by_cases hy : blt y.1 k = true
    · rw [if_neg (blt_ne hy)] at hh
      rw [if_pos hy, if_neg (blt_ne hy), if_neg (blt_ne hy)]
      exact ih h2 hh
    · rw [if_neg hy]
      by_cases he : y.1 = k
      · rw [if_pos he, if_pos he]; exact ⟨y, rfl, he, rfl, rfl⟩
      · rw [if_neg he, has_tail h hy] at hh; cases hh
theorem ins_eq {D : List Fi} (k : ByteArray) (z : Value × List Int) (h : SrtL D) : insS D k z = D.take (plS D k) ++ (k, z) :: D.drop (plS D k + if hasL D k = true then 1 else 0) := by
  induction D with
  | nil => rfl
  | cons y r ih =>
    obtain ⟨h1, h2⟩ := List.pairwise_cons.1 h
    unfold insS plS hasL
    by_cases hy : blt y.1 k = true
    · rw [if_neg (blt_ne hy), if_pos hy, if_pos hy, if_neg (blt_ne hy), ih h2, List.take_succ_cons, Nat.succ_add, List.drop_succ_cons]; rfl
    · by_cases he : y.1 = k
      · rw [if_pos he, if_neg hy, if_pos he]; rfl
      · rw [if_neg he, if_neg hy, if_neg hy, if_neg he, has_tail h hy]; rfl
theorem del_eq {D : List Fi} {k : ByteArray} (h : SrtL D) (hh : hasL D k = true) : delL D k = D.take (plS D k) ++ D.drop (plS D k + 1) := by
  induction D with
  | nil => cases hh
  | cons y r ih =>
    obtain ⟨h1, h2⟩ := List.pairwise_cons.1 h
    unfold delL plS
    unfold hasL at hh
    by_cases hy : blt y.1 k = true
    · rw [if_neg (blt_ne hy)] at hh
      rw [if_neg (blt_ne hy), if_pos hy, ih h2 hh]; rfl
    · by_cases he : y.1 = k
      · rw [if_pos he, if_neg hy]; rfl
      · rw [if_neg he, has_tail h hy] at hh; cases hh
theorem mem_ins {D : List Fi} {k : ByteArray} {z : Value × List Int} : ∀ x ∈ insS D k z, x = (k, z) ∨ x ∈ D := by
  induction D with
  | nil => intro x hx; simp [insS] at hx; exact .inl hx
  | cons y r ih =>
    intro x hx
    unfold insS at hx
    split at hx
    · rcases List.mem_cons.1 hx with rfl | hx
      · exact .inl rfl
      · exact .inr (List.mem_cons_of_mem _ hx)
    · split at hx
      · rcases List.mem_cons.1 hx with rfl | hx
        · exact .inr List.mem_cons_self
        · exact (ih x hx).imp id (List.mem_cons_of_mem _)
      · rcases List.mem_cons.1 hx with rfl | hx
        · exact .inl rfl
        · exact .inr hx
theorem ins_srt {D : List Fi} (k : ByteArray) (z : Value × List Int) (h : SrtL D) : SrtL (insS D k z) := by
  induction D with
  | nil => exact List.pairwise_singleton _ _
  | cons y r ih =>
    obtain ⟨h1, h2⟩ := List.pairwise_cons.1 h
    unfold insS
    by_cases he : y.1 = k
    · rw [if_pos he]
      exact List.pairwise_cons.2 ⟨fun x hx => by have := h1 x hx; rw [he] at this; exact this, h2⟩
    · rw [if_neg he]
      by_cases hy : blt y.1 k = true
      · rw [if_pos hy]
        refine List.pairwise_cons.2 ⟨fun x hx => ?_, ih h2⟩
        rcases mem_ins x hx with rfl | hx
        · exact hy
        · exact h1 x hx
      · rw [if_neg hy]
        have hk : blt k y.1 = true := blt_tri (by simpa using hy) he
        refine List.pairwise_cons.2 ⟨fun x hx => ?_, h⟩
        rcases List.mem_cons.1 hx with rfl | hx
        · exact hk
        · exact blt_tr hk (h1 x hx)
theorem ins_alike {D : List Fi} (k : ByteArray) (v v' : Value) (l : List Int) (h : SrtL D) : Alike (putL D k (v, l)) (insS D k (v', l)) := by
  intro j
  rw [has_put, byt_put]
  induction D with
  | nil => exact ⟨rfl, rfl⟩
  | cons y r ih =>
    obtain ⟨h1, h2⟩ := List.pairwise_cons.1 h
    unfold insS
    by_cases he : y.1 = k
    · rw [if_pos he]
      simp only [has_cons, byt_cons]
      rw [he]
      constructor
      · split <;> rfl
      · split <;> rfl
    · rw [if_neg he]
      by_cases hy : blt y.1 k = true
      · rw [if_pos hy]
        simp only [has_cons, byt_cons]
        obtain ⟨i1, i2⟩ := ih h2
        rw [i1, i2]
        by_cases hj : y.1 = j
        · have hkj : k ≠ j := fun e => he (hj.trans e.symm)
          simp [hj, hkj]
        · simp [hj]
      · rw [if_neg hy]
        exact ⟨by simp only [has_cons], by simp only [byt_cons]⟩
theorem srt_del {D : List Fi} (k : ByteArray) (h : SrtL D) : SrtL (delL D k) := h.sublist (del_sub D k)
theorem del_not {D : List Fi} {k : ByteArray} (h : hasL D k = false) : delL D k = D := del_none h
theorem ins_len (D : List Fi) (k : ByteArray) (z : Value × List Int) : (insS D k z).length ≤ D.length + 1 := by
  induction D with
  | nil => exact Nat.le_refl _
  | cons y r ih =>
    unfold insS
    split
    · simp
    · split
      · simp only [List.length_cons]; omega
      · simp
end Go.Proofs.Ytffeinbbgfogoaa.Sr
