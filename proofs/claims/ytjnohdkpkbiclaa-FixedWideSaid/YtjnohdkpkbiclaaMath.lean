/-
  Whole numbers as lists of digits to the base 65536, the lowest first: plain mathematics, no program in sight. Conditions: those in each lemma.
-/
import Derived.WalkKit
namespace Go.Proofs.Ytjnohdkpkbiclaa

/-- The number of a list of digits. -/
def val : List Int → Int
  | [] => 0
  | d :: t => d + 65536 * val t

/-- A power of the base. -/
def bp : Nat → Int
  | 0 => 1
  | k + 1 => 65536 * bp k

theorem bp_pos (k : Nat) : 0 < bp k := by
  induction k with
  | zero => decide
  | succ k ih => simp only [bp]; omega
theorem bp_add (a b : Nat) : bp (a + b) = bp a * bp b := by
  induction a with
  | zero => simp [bp]
  | succ a ih => rw [show a + 1 + b = (a + b) + 1 by omega]; simp only [bp]; rw [ih, Int.mul_assoc]
theorem bp_mono {a b : Nat} (h : a ≤ b) : bp a ≤ bp b := by
  obtain ⟨c, rfl⟩ := Nat.exists_eq_add_of_le h
  induction c with
  | zero => exact Int.le_refl _
  | succ c ih => have := ih (by omega); have := bp_pos (a + c); rw [show a + (c + 1) = (a + c) + 1 by omega]; simp only [bp]; omega

/-- All digits are digits. -/
def InR (ds : List Int) : Prop := ∀ d ∈ ds, 0 ≤ d ∧ d < 65536

theorem InR.nil : InR [] := fun _ h => by cases h
theorem InR.cons {d : Int} {t : List Int} (h0 : 0 ≤ d) (h1 : d < 65536) (h : InR t) : InR (d :: t) := fun x hx => by
  rcases List.mem_cons.1 hx with rfl | hx
  · exact ⟨h0, h1⟩
  · exact h x hx
theorem InR.tail {d : Int} {t : List Int} (h : InR (d :: t)) : InR t := fun x hx => h x (List.mem_cons_of_mem _ hx)
theorem InR.head {d : Int} {t : List Int} (h : InR (d :: t)) : 0 ≤ d ∧ d < 65536 := h d (List.mem_cons_self ..)
theorem InR.append {a b : List Int} (ha : InR a) (hb : InR b) : InR (a ++ b) := fun x hx => by
  rcases List.mem_append.1 hx with hx | hx
  · exact ha x hx
  · exact hb x hx
theorem InR.snoc {a : List Int} {d : Int} (ha : InR a) (h0 : 0 ≤ d) (h1 : d < 65536) : InR (a ++ [d]) := ha.append (InR.cons h0 h1 InR.nil)
theorem InR.take {a : List Int} (ha : InR a) (k : Nat) : InR (a.take k) := fun x hx => ha x (List.mem_of_mem_take hx)
theorem InR.getD {a : List Int} (ha : InR a) (k : Nat) : 0 ≤ a.getD k 0 ∧ a.getD k 0 < 65536 := by
  rw [List.getD_eq_getElem?_getD]
  rcases Nat.lt_or_ge k a.length with h | h
  · rw [List.getElem?_eq_getElem h]; exact ha _ (List.getElem_mem h)
  · rw [List.getElem?_eq_none h]; exact ⟨by decide, by decide⟩
theorem InR.set {a : List Int} (ha : InR a) (k : Nat) {d : Int} (h0 : 0 ≤ d) (h1 : d < 65536) : InR (a.set k d) := fun x hx => by
  rcases List.mem_or_eq_of_mem_set hx with hx | rfl
  · exact ha x hx
  · exact ⟨h0, h1⟩
theorem InR.rep (n : Nat) : InR (List.replicate n 0) := fun x hx => by rw [(List.mem_replicate.1 hx).2]; decide

theorem val_nonneg {ds : List Int} (h : InR ds) : 0 ≤ val ds := by
  induction ds with
  | nil => exact Int.le_refl _
  | cons d t ih => have := ih h.tail; have := h.head; simp only [val]; omega
theorem val_lt {ds : List Int} (h : InR ds) : val ds < bp ds.length := by
  induction ds with
  | nil => decide
  | cons d t ih => have := ih h.tail; have := h.head; simp only [val, bp, List.length_cons]; omega
theorem val_append (a b : List Int) : val (a ++ b) = val a + bp a.length * val b := by
  induction a with
  | nil => simp [val, bp]
  | cons d t ih => simp only [List.cons_append, val, ih, bp, List.length_cons, Int.mul_add, Int.mul_assoc, Int.add_assoc]
theorem val_snoc (a : List Int) (d : Int) : val (a ++ [d]) = val a + bp a.length * d := by rw [val_append]; simp [val]
theorem take_succ_of_lt {a : List Int} {k : Nat} (h : k < a.length) : a.take (k + 1) = a.take k ++ [a.getD k 0] := by
  rw [List.take_succ_eq_append_getElem h, List.getD_eq_getElem?_getD, List.getElem?_eq_getElem h]; rfl
theorem val_take_succ (a : List Int) (k : Nat) : val (a.take (k + 1)) = val (a.take k) + bp k * a.getD k 0 := by
  rcases Nat.lt_or_ge k a.length with h | h
  · rw [take_succ_of_lt h, val_snoc, List.length_take, Nat.min_eq_left (by omega)]
  · rw [List.take_of_length_le (by omega), List.take_of_length_le h, List.getD_eq_getElem?_getD, List.getElem?_eq_none h]; simp
theorem val_take_all {a : List Int} {k : Nat} (h : a.length ≤ k) : val (a.take k) = val a := by rw [List.take_of_length_le h]
theorem val_take_lt {a : List Int} (h : InR a) (k : Nat) : 0 ≤ val (a.take k) ∧ val (a.take k) < bp k :=
  ⟨val_nonneg (h.take k), Int.lt_of_lt_of_le (val_lt (h.take k)) (bp_mono (List.length_take_le _ _))⟩
theorem val_rep (n : Nat) : val (List.replicate n 0) = 0 := by
  induction n with
  | zero => rfl
  | succ n ih => simp [List.replicate_succ, val, ih]
theorem val_set (a : List Int) (k : Nat) (d : Int) (h : k < a.length) : val (a.set k d) = val a + bp k * (d - a.getD k 0) := by
  induction a generalizing k with
  | nil => simp at h
  | cons x t ih =>
    cases k with
    | zero => simp [val, bp]; omega
    | succ k =>
      have := ih k (by simpa using h)
      simp only [List.set_cons_succ, val, this, bp, Int.mul_add, Int.mul_assoc, List.getD_cons_succ]
      omega

/-- The digits of a number. -/
def digs (n : Nat) : List Int := if h : n = 0 then [] else ((n % 65536 : Nat) : Int) :: digs (n / 65536)
termination_by n
decreasing_by omega

theorem digs_zero : digs 0 = [] := by rw [digs]; simp
theorem digs_pos {n : Nat} (h : 0 < n) : digs n = ((n % 65536 : Nat) : Int) :: digs (n / 65536) := by rw [digs]; rw [dif_neg (by omega)]
theorem digs_inR (n : Nat) : InR (digs n) := by
  induction n using Nat.strongRecOn with
  | ind n ih =>
    rcases Nat.eq_zero_or_pos n with rfl | h
    · rw [digs_zero]; exact InR.nil
    · rw [digs_pos h]; exact InR.cons (by omega) (by omega) (ih _ (by omega))
theorem val_digs (n : Nat) : val (digs n) = n := by
  induction n using Nat.strongRecOn with
  | ind n ih =>
    rcases Nat.eq_zero_or_pos n with rfl | h
    · rw [digs_zero]; rfl
    · rw [digs_pos h, val, ih _ (by omega)]; omega
theorem digs_nil_iff (n : Nat) : (digs n).length = 0 ↔ n = 0 := by
  rcases Nat.eq_zero_or_pos n with rfl | h
  · simp [digs_zero]
  · rw [digs_pos h]; simp; omega
/-- No nought stands at the top. -/
theorem digs_top (n : Nat) (h : 0 < n) : (digs n).getD ((digs n).length - 1) 0 ≠ 0 := by
  induction n using Nat.strongRecOn with
  | ind n ih =>
    rw [digs_pos h]
    rcases Nat.eq_zero_or_pos (n / 65536) with h0 | h0
    · rw [h0, digs_zero]; simp; omega
    · have := ih _ (by omega) h0
      have hl : 0 < (digs (n / 65536)).length := by have := digs_nil_iff (n / 65536); omega
      obtain ⟨m, hm⟩ : ∃ m, (digs (n / 65536)).length = m + 1 := ⟨_, (Nat.succ_pred_eq_of_pos hl).symm⟩
      rw [hm] at this
      simp only [List.length_cons, hm, Nat.add_sub_cancel, List.getD_cons_succ] at this ⊢
      exact this
/-- A list of digits without a nought at the top is the number's. -/
theorem digs_of {ds : List Int} (h : InR ds) (ht : ds.length = 0 ∨ ds.getD (ds.length - 1) 0 ≠ 0) : ds = digs (val ds).toNat := by
  induction ds with
  | nil => rw [show (val []).toNat = 0 from rfl, digs_zero]
  | cons d t ih =>
    have hv := val_nonneg h.tail
    have hd := h.head
    have ht' : d ≠ 0 ∨ t.length ≠ 0 := by
      rcases Nat.eq_zero_or_pos t.length with h0 | h0
      · left; rcases ht with ht | ht
        · simp at ht
        · have : t = [] := List.eq_nil_of_length_eq_zero h0
          subst this; simpa using ht
      · right; omega
    have ih' : t = digs (val t).toNat := by
      apply ih h.tail
      rcases Nat.eq_zero_or_pos t.length with h0 | h0
      · left; exact h0
      · right; rcases ht with ht | ht
        · simp at ht
        · obtain ⟨m, hm⟩ : ∃ m, t.length = m + 1 := ⟨_, (Nat.succ_pred_eq_of_pos h0).symm⟩
          simp only [List.length_cons, hm, Nat.add_sub_cancel, List.getD_cons_succ] at ht ⊢
          exact ht
    have hpos : 0 < val (d :: t) := by
      simp only [val]
      rcases ht' with h1 | h1
      · omega
      · have : (val t).toNat ≠ 0 := fun e => by
          rw [e, digs_zero] at ih'
          rw [ih'] at h1; simp at h1
        omega
    rw [digs_pos (by omega)]
    have e1 : (((val (d :: t)).toNat % 65536 : Nat) : Int) = d := by simp only [val]; omega
    have e2 : (val (d :: t)).toNat / 65536 = (val t).toNat := by simp only [val]; omega
    rw [e1, e2, ← ih']
/-- Noughts at the top cut off: where all from k on is nought. -/
theorem val_take_of_noughts {ds : List Int} {k : Nat} (h : ∀ i, k ≤ i → ds.getD i 0 = 0) : val (ds.take k) = val ds := by
  have : ∀ n, val (ds.take (k + n)) = val (ds.take k) := by
    intro n
    induction n with
    | zero => rfl
    | succ n ih => rw [show k + (n + 1) = (k + n) + 1 by omega, val_take_succ, h _ (by omega), ih]; simp
  have h1 := this ds.length
  rw [val_take_all (by omega)] at h1
  exact h1.symm
theorem getD_take (ds : List Int) (k i : Nat) : (ds.take k).getD i 0 = if i < k then ds.getD i 0 else 0 := by
  simp only [List.getD_eq_getElem?_getD, List.getElem?_take]
  split <;> rfl
theorem strip_eq {ds : List Int} (hr : InR ds) {k : Nat} (hk : k ≤ ds.length) (h : ∀ i, k ≤ i → ds.getD i 0 = 0) (ht : k = 0 ∨ ds.getD (k - 1) 0 ≠ 0) : ds.take k = digs (val ds).toNat := by
  have hl : (ds.take k).length = k := by rw [List.length_take]; omega
  rw [← val_take_of_noughts h]
  apply digs_of (hr.take k)
  rw [hl, getD_take]
  rcases Nat.eq_zero_or_pos k with h0 | h0
  · left; exact h0
  · right; rw [if_pos (by omega)]
    rcases ht with ht | ht
    · omega
    · exact ht

theorem digs_lt_of_len {m n : Nat} (h : (digs m).length < (digs n).length) : m < n := by
  have h1 := val_lt (digs_inR m)
  have hn : 0 < n := by
    rcases Nat.eq_zero_or_pos n with rfl | hn
    · rw [digs_zero] at h; simp at h
    · exact hn
  have ht := digs_top n hn
  have hr := (digs_inR n).getD ((digs n).length - 1)
  have hs := val_take_succ (digs n) ((digs n).length - 1)
  rw [val_take_all (by omega)] at hs
  have h0 := val_nonneg ((digs_inR n).take ((digs n).length - 1))
  have hb := bp_mono (show (digs m).length ≤ (digs n).length - 1 by omega)
  have hp := bp_pos ((digs n).length - 1)
  have hm : bp ((digs n).length - 1) * 1 ≤ bp ((digs n).length - 1) * (digs n).getD ((digs n).length - 1) 0 := Int.mul_le_mul_of_nonneg_left (by omega) (by omega)
  rw [val_digs] at h1 hs
  omega
/-- Of two lists whose digits above k are the same the one with the lower digit at k is the lower. -/
theorem val_lt_of_digit {a b : List Int} (ha : InR a) (hb : InR b) (hl : a.length = b.length) {k : Nat} (_hk : k < a.length) (hs : ∀ i, k < i → a.getD i 0 = b.getD i 0) (hd : a.getD k 0 < b.getD k 0) : val a < val b := by
  have up : ∀ n, val (a.take (k + 1 + n)) - val (b.take (k + 1 + n)) = val (a.take (k + 1)) - val (b.take (k + 1)) := by
    intro n
    induction n with
    | zero => rfl
    | succ n ih => rw [show k + 1 + (n + 1) = (k + 1 + n) + 1 by omega, val_take_succ, val_take_succ b, hs _ (by omega)]; omega
  have h1 := up a.length
  rw [val_take_all (by omega), val_take_all (by omega), val_take_succ, val_take_succ] at h1
  have h2 := val_take_lt ha k
  have h3 := val_take_lt hb k
  have h4 : bp k * (a.getD k 0 + 1) ≤ bp k * b.getD k 0 := Int.mul_le_mul_of_nonneg_left (by omega) (by have := bp_pos k; omega)
  rw [Int.mul_add] at h4
  omega
theorem val_eq_of_digits {a b : List Int} (hs : ∀ i, a.getD i 0 = b.getD i 0) : val a = val b := by
  have : ∀ n, val (a.take n) = val (b.take n) := by
    intro n
    induction n with
    | zero => rfl
    | succ n ih => rw [val_take_succ, val_take_succ, ih, hs]
  have h := this (a.length + b.length)
  rwa [val_take_all (by omega), val_take_all (by omega)] at h

/-- Which is less. -/
def cmpN (m n : Nat) : Int := if m < n then -1 else if n < m then 1 else 0
def cmpI (m n : Int) : Int := if m < n then -1 else if n < m then 1 else 0
end Go.Proofs.Ytjnohdkpkbiclaa
