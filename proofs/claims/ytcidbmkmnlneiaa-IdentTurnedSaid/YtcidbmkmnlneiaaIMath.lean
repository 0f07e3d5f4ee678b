/-
  Check digits of ISINs: plain mathematics over lists of bytes. Conditions: those in each lemma.
-/
namespace Go.Proofs.Ytcidbmkmnlneiaa.Id

def smB (c : Int) : Bool := decide (97 ≤ c) && decide (c ≤ 122)
def grB (c : Int) : Bool := decide (65 ≤ c) && decide (c ≤ 90)
def dgB (c : Int) : Bool := decide (48 ≤ c) && decide (c ≤ 57)
theorem smB_iff (c : Int) : smB c = true ↔ 97 ≤ c ∧ c ≤ 122 := by simp [smB]
theorem grB_iff (c : Int) : grB c = true ↔ 65 ≤ c ∧ c ≤ 90 := by simp [grB]
theorem dgB_iff (c : Int) : dgB c = true ↔ 48 ≤ c ∧ c ≤ 57 := by simp [dgB]

/-- What a great letter or a digit becomes. -/
def numC (c : Int) : Int := if dgB c then c - 48 else c - 55
def digs1 (c : Int) : List Int := if 10 ≤ numC c then [numC c / 10, numC c % 10] else [numC c]
/-- The digits in a row. -/
def rowF (l : List Int) : List Int := l.flatMap digs1
/-- What a digit gives, doubled or not. -/
def gD (b : Bool) (d : Int) : Int := if b then (2 * d) / 10 + (2 * d) % 10 else d
def stp (st : Bool × Int) (d : Int) : Bool × Int := (!st.1, st.2 + gD st.1 d)
def stB (l : List Int) : Bool × Int := l.foldl stp (true, 0)
theorem stB_snoc (l : List Int) (d : Int) : stB (l ++ [d]) = stp (stB l) d := by simp [stB]
/-- Is a digit doubled that has so many behind it? -/
def ev (n : Nat) : Bool := n % 2 == 0
theorem ev_succ (n : Nat) : ev (n + 1) = !ev n := by
  unfold ev
  rcases (by omega : n % 2 = 0 ∨ n % 2 = 1) with h | h
  · rw [h, show (n + 1) % 2 = 1 by omega]; rfl
  · rw [h, show (n + 1) % 2 = 0 by omega]; rfl
/-- The sum of the digits. -/
def RF : List Int → Int
  | [] => 0
  | d :: t => gD (ev t.length) d + RF t
theorem stB_rev (l : List Int) : stB l.reverse = (ev l.length, RF l) := by
  induction l with
  | nil => rfl
  | cons d t ih =>
    rw [List.reverse_cons, stB_snoc, ih]
    simp only [stp, RF, List.length_cons, ev_succ]
    rw [Int.add_comm]
/-- The check digit. -/
def chkD (l : List Int) : Int := (10 - RF (rowF l) % 10) % 10
theorem chkD_range (l : List Int) : 0 ≤ chkD l ∧ chkD l ≤ 9 := by unfold chkD; omega

/-- May the byte stand at that place of the first 11? -/
def okAt (l : List Int) (i : Nat) : Bool := grB (l.getD i 0) || (decide (2 ≤ i) && dgB (l.getD i 0))
def headB (l : List Int) : Bool := (l.length == 11) && (List.range 11).all (okAt l)
theorem headB_iff (l : List Int) : headB l = true ↔ l.length = 11 ∧ ∀ i, i < 11 → okAt l i = true := by
  unfold headB
  rw [Bool.and_eq_true, List.all_eq_true]
  simp
theorem headB_len {l : List Int} (h : headB l = true) : l.length = 11 := ((headB_iff l).1 h).1
theorem head_char {l : List Int} (h : headB l = true) (i : Nat) (hi : i < 11) : (48 ≤ l.getD i 0 ∧ l.getD i 0 ≤ 57) ∨ (65 ≤ l.getD i 0 ∧ l.getD i 0 ≤ 90) := by
  have := ((headB_iff l).1 h).2 i hi
  unfold okAt at this
  rw [Bool.or_eq_true, Bool.and_eq_true, grB_iff, dgB_iff] at this
  omega
theorem numC_range {c : Int} (h : (48 ≤ c ∧ c ≤ 57) ∨ (65 ≤ c ∧ c ≤ 90)) : 0 ≤ numC c ∧ numC c ≤ 35 := by
  unfold numC
  by_cases hd : dgB c = true
  · have := (dgB_iff c).1 hd
    rw [if_pos hd]; omega
  · have : ¬ (48 ≤ c ∧ c ≤ 57) := fun h => hd ((dgB_iff c).2 h)
    rw [if_neg hd]; omega

/-- What Isin must tell. -/
def isinN (l : List Int) : Int := if l.length = 12 ∧ headB (l.take 11) = true ∧ dgB (l.getD 11 0) = true then (if l.getD 11 0 = 48 + chkD (l.take 11) then 0 else 11) else 3

/-- The row of a list that is cut. -/
theorem rowF_append (a b : List Int) : rowF (a ++ b) = rowF a ++ rowF b := by simp [rowF]
theorem rowF_drop {l : List Int} {k : Nat} (h : k < l.length) : rowF (l.drop k) = digs1 (l.getD k 0) ++ rowF (l.drop (k + 1)) := by
  rw [List.drop_eq_getElem_cons h, List.getD_eq_getElem?_getD, List.getElem?_eq_getElem h]
  simp only [rowF, List.flatMap_cons, Option.getD_some]
theorem rowF_take {l : List Int} {k : Nat} (h : k < l.length) : rowF (l.take (k + 1)) = rowF (l.take k) ++ digs1 (l.getD k 0) := by
  rw [List.take_succ_eq_append_getElem h, rowF_append, List.getD_eq_getElem?_getD, List.getElem?_eq_getElem h]
  simp [rowF]
theorem digs1_len (c : Int) : (digs1 c).length ≤ 2 := by unfold digs1; split <;> simp
theorem rowF_len (l : List Int) : (rowF l).length ≤ 2 * l.length := by
  induction l with
  | nil => simp [rowF]
  | cons a t ih =>
    have : rowF (a :: t) = digs1 a ++ rowF t := by simp [rowF]
    rw [this, List.length_append, List.length_cons]
    have := digs1_len a
    omega
/-- Each digit of the row is one. -/
theorem rowF_digit {l : List Int} (h : ∀ c ∈ l, (48 ≤ c ∧ c ≤ 57) ∨ (65 ≤ c ∧ c ≤ 90)) : ∀ d ∈ rowF l, 0 ≤ d ∧ d ≤ 9 := by
  intro d hd
  simp only [rowF, List.mem_flatMap] at hd
  obtain ⟨c, hc, hd⟩ := hd
  have hr := numC_range (h c hc)
  unfold digs1 at hd
  split at hd <;> simp at hd <;> omega
theorem head_mem {l : List Int} (h : headB l = true) : ∀ c ∈ l, (48 ≤ c ∧ c ≤ 57) ∨ (65 ≤ c ∧ c ≤ 90) := by
  intro c hc
  obtain ⟨i, hi, rfl⟩ := List.getElem_of_mem hc
  have := head_char h i (by rw [headB_len h] at hi; exact hi)
  rwa [List.getD_eq_getElem?_getD, List.getElem?_eq_getElem hi] at this

/-! ### One digit that is turned -/
theorem RF_split (a t : List Int) (d d' : Int) : RF (a ++ d :: t) - gD (ev t.length) d = RF (a ++ d' :: t) - gD (ev t.length) d' := by
  induction a with
  | nil => simp only [List.nil_append, RF]; omega
  | cons x a ih =>
    simp only [List.cons_append, RF]
    have e : (a ++ d :: t).length = (a ++ d' :: t).length := by simp
    rw [e]
    omega
theorem gD_inj (b : Bool) (d d' : Int) (h0 : 0 ≤ d) (h1 : d ≤ 9) (h2 : 0 ≤ d') (h3 : d' ≤ 9) (h : (gD b d - gD b d') % 10 = 0) : d = d' := by
  unfold gD at h
  cases b
  · simp at h; omega
  · simp at h; omega
theorem digs1_digit {c : Int} (h : dgB c = true) : digs1 c = [c - 48] := by
  have := (dgB_iff c).1 h
  unfold digs1 numC
  rw [if_pos h, if_neg (by omega)]
theorem set_split {l : List Int} {i : Nat} (h : i < l.length) (c : Int) : l.set i c = l.take i ++ c :: l.drop (i + 1) := List.set_eq_take_append_cons_drop.trans (if_pos h)
theorem self_split {l : List Int} {i : Nat} (h : i < l.length) : l = l.take i ++ l.getD i 0 :: l.drop (i + 1) := by
  have := set_split h (l.getD i 0)
  rw [← this, List.getD_eq_getElem?_getD, List.getElem?_eq_getElem h]
  simp
theorem chk_turned {l : List Int} {i : Nat} (h : i < l.length) (c : Int) (h1 : dgB (l.getD i 0) = true) (h2 : dgB c = true) (he : chkD (l.set i c) = chkD l) : l.getD i 0 = c := by
  obtain ⟨x, hx⟩ : ∃ x, x = l.getD i 0 := ⟨_, rfl⟩
  rw [← hx] at h1 ⊢
  have k1 := (dgB_iff _).1 h1
  have k2 := (dgB_iff _).1 h2
  have e1 : rowF l = rowF (l.take i) ++ (x - 48) :: rowF (l.drop (i + 1)) := by
    conv => lhs; rw [self_split h]
    rw [rowF_append, ← hx]
    simp only [rowF, List.flatMap_cons, digs1_digit h1]
    rfl
  have e2 : rowF (l.set i c) = rowF (l.take i) ++ (c - 48) :: rowF (l.drop (i + 1)) := by
    rw [set_split h, rowF_append]
    simp only [rowF, List.flatMap_cons, digs1_digit h2]
    rfl
  unfold chkD at he
  rw [e1, e2] at he
  have hs := RF_split (rowF (l.take i)) (rowF (l.drop (i + 1))) (x - 48) (c - 48)
  have := gD_inj (ev (rowF (l.drop (i + 1))).length) (x - 48) (c - 48) (by omega) (by omega) (by omega) (by omega) (by omega)
  omega
theorem head_turned {l : List Int} {i : Nat} (hl : headB l = true) (h : i < 11) (c : Int) (h1 : dgB (l.getD i 0) = true) (h2 : dgB c = true) : headB (l.set i c) = true := by
  obtain ⟨hn, ho⟩ := (headB_iff l).1 hl
  refine (headB_iff _).2 ⟨by simpa using hn, fun j hj => ?_⟩
  by_cases hji : j = i
  · subst hji
    have := ho j hj
    unfold okAt at this ⊢
    have k1 := (dgB_iff _).1 h1
    have g : grB (l.getD j 0) = false := by
      cases hg : grB (l.getD j 0)
      · rfl
      · have := (grB_iff _).1 hg; omega
    rw [g, Bool.false_or, Bool.and_eq_true] at this
    have e : (l.set j c).getD j 0 = c := by simp [List.getD_eq_getElem?_getD, hn, hj]
    rw [e, h2, this.1]
    simp
  · have := ho j hj
    unfold okAt at this ⊢
    have e : (l.set i c).getD j 0 = l.getD j 0 := by simp [List.getD_eq_getElem?_getD, List.getElem?_set_ne (Ne.symm hji)]
    rw [e]; exact this

/-- An ISIN as it is made. -/
def madeL (l : List Int) : List Int := l ++ [48 + chkD l]
theorem made_len {l : List Int} (h : headB l = true) : (madeL l).length = 12 := by simp [madeL, headB_len h]
theorem made_take {l : List Int} (h : headB l = true) : (madeL l).take 11 = l := by simp [madeL, ← headB_len h]
theorem made_last {l : List Int} (h : headB l = true) : (madeL l).getD 11 0 = 48 + chkD l := by simp [madeL, List.getD_eq_getElem?_getD, ← headB_len h]
theorem made_isin {l : List Int} (h : headB l = true) : isinN (madeL l) = 0 := by
  unfold isinN
  have := chkD_range l
  rw [made_take h, made_last h, if_pos ⟨made_len h, h, (dgB_iff _).2 (by omega)⟩, if_pos rfl]
theorem turned_same {l : List Int} (h : headB l = true) (i : Nat) (c : Int) (he : (madeL l).getD i 0 = c) : isinN ((madeL l).set i c) = 0 := by
  rcases Nat.lt_or_ge i (madeL l).length with hi | hi
  · have e : (madeL l).set i c = madeL l := by
      rw [← he, List.getD_eq_getElem?_getD, List.getElem?_eq_getElem hi]
      simp
    rw [e]; exact made_isin h
  · rw [List.set_eq_of_length_le hi]; exact made_isin h
theorem turned_other {l : List Int} (h : headB l = true) (i : Nat) (hi : i < 12) (c : Int) (h1 : dgB ((madeL l).getD i 0) = true) (h2 : dgB c = true) (hne : (madeL l).getD i 0 ≠ c) : isinN ((madeL l).set i c) = 11 := by
  have hc := chkD_range l
  have hl := headB_len h
  by_cases h11 : i = 11
  · subst h11
    have e1 : ((madeL l).set 11 c).take 11 = l := by
      rw [List.take_set_of_le (Nat.le_refl _), made_take h]
    have e2 : ((madeL l).set 11 c).getD 11 0 = c := by simp [madeL, List.getD_eq_getElem?_getD, hl]
    unfold isinN
    rw [e1, e2, if_pos ⟨by simp [made_len h], h, h2⟩, if_neg]
    intro e
    exact hne ((made_last h).trans e.symm)
  · have e0 : (madeL l).getD i 0 = l.getD i 0 := by
      simp only [madeL, List.getD_eq_getElem?_getD]
      rw [List.getElem?_append_left (by omega)]
    rw [e0] at h1 hne
    have e1 : ((madeL l).set i c).take 11 = l.set i c := by
      unfold madeL
      rw [List.set_append_left _ _ (by omega), List.take_append_of_le_length (by simp; omega), List.take_of_length_le (by simp; omega)]
    have e2 : ((madeL l).set i c).getD 11 0 = 48 + chkD l := by
      rw [← made_last h]
      simp [List.getD_eq_getElem?_getD, List.getElem?_set_ne h11]
    unfold isinN
    rw [e1, e2, if_pos ⟨by simp [made_len h], head_turned h (by omega) c h1 h2, (dgB_iff _).2 (by omega)⟩, if_neg]
    intro e
    exact hne (chk_turned (by omega) c h1 h2 (by omega))

/-! ### The reference's loops -/
/-- The sum over the row's digits behind the first k, the loop's own way. -/
theorem RF_drop {l : List Int} {k : Nat} (h : k < l.length) : RF (l.drop k) = gD (ev (l.length - (k + 1))) (l.getD k 0) + RF (l.drop (k + 1)) := by
  rw [List.drop_eq_getElem_cons h, List.getD_eq_getElem?_getD, List.getElem?_eq_getElem h]
  simp only [RF, List.length_drop]
  rfl
theorem gD_big (d : Int) (h : 5 ≤ d) (h9 : d ≤ 9) : gD true d = 2 * d - 9 := by unfold gD; simp; omega
theorem gD_small (d : Int) (h0 : 0 ≤ d) (h : d ≤ 4) : gD true d = 2 * d := by unfold gD; simp; omega
theorem gD_plain (d : Int) : gD false d = d := by simp [gD]
end Go.Proofs.Ytcidbmkmnlneiaa.Id
