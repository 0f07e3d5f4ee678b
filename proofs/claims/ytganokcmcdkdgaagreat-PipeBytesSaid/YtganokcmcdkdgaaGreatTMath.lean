/-
  Plain mathematics of tables: keys in order, lists of rows that rise by their keys, what is put, dropped, looked up and gathered. Conditions: none.
-/

namespace Go.Proofs.YtganokcmcdkdgaaGreat.Tb

/-- Keys in a strict order. -/
class Ky (κ : Type) extends Inhabited κ where
  lt : κ → κ → Bool
  irr : ∀ a, lt a a = false
  tr : ∀ a b c, lt a b = true → lt b c = true → lt a c = true
  tri : ∀ a b, lt a b = false → lt b a = false → a = b
  dec : DecidableEq κ
open Ky
instance {κ : Type} [Ky κ] : DecidableEq κ := Ky.dec
instance : Ky Int where
  lt := fun a b => decide (a < b)
  irr := fun a => by simp
  tr := fun a b c h k => by simp at *; omega
  tri := fun a b h k => by simp at *; omega
  dec := inferInstance
theorem ltI (a b : Int) : Ky.lt a b = decide (a < b) := rfl

variable {κ V : Type} [Ky κ]
/-- What cmp.Compare answers. -/
def cmpK (a b : κ) : Int := if lt a b = true then -1 else if lt b a = true then 1 else 0
theorem lt_asym {a b : κ} (h : lt a b = true) : lt b a = false := by
  cases k : lt b a
  · rfl
  · have := tr a b a h k; rw [irr] at this; cases this
theorem cmpK_neg (a b : κ) : cmpK a b < 0 ↔ lt a b = true := by
  unfold cmpK
  by_cases h : lt a b = true
  · simp [h]
  · rw [if_neg h]
    split <;> simp [h]
theorem cmpK_zero (a b : κ) : cmpK a b = 0 ↔ a = b := by
  unfold cmpK
  by_cases h : lt a b = true
  · rw [if_pos h]
    constructor
    · intro e; exact absurd e (by decide)
    · rintro rfl; rw [irr] at h; cases h
  · rw [if_neg h]
    by_cases k : lt b a = true
    · rw [if_pos k]
      constructor
      · intro e; exact absurd e (by decide)
      · rintro rfl; rw [irr] at k; cases k
    · rw [if_neg k]
      exact ⟨fun _ => tri a b (by simpa using h) (by simpa using k), fun _ => rfl⟩
theorem cmpK_range (a b : κ) : -1 ≤ cmpK a b ∧ cmpK a b ≤ 1 := by
  unfold cmpK
  split
  · exact ⟨by decide, by decide⟩
  · split <;> exact ⟨by decide, by decide⟩
theorem lt_of_lt_not {a b c : κ} (h : lt a b = true) (k : lt c b = false) : lt a c = true := by
  cases e : lt a c
  · cases f : lt c a
    · rw [tri a c e f] at h; rw [h] at k; cases k
    · rw [tr c a b f h] at k; cases k
  · rfl

/-- Rows that rise by their keys, each once. -/
def asc (l : List (κ × V)) : Prop := l.Pairwise fun a b => lt a.1 b.1 = true
/-- How many keys stand ahead of k. -/
def pl (l : List (κ × V)) (k : κ) : Nat := (l.takeWhile fun r => lt r.1 k).length
/-- Is there the key k? -/
def hasB (l : List (κ × V)) (k : κ) : Bool := match l[pl l k]? with | some r => decide (r.1 = k) | none => false
/-- The value of the key k. -/
def look (l : List (κ × V)) (k : κ) : Option V := (l.find? fun r => decide (r.1 = k)).map (·.2)
def putL (l : List (κ × V)) (k : κ) (v : V) : List (κ × V) := l.take (pl l k) ++ (k, v) :: l.drop (pl l k + if hasB l k = true then 1 else 0)
def dropL (l : List (κ × V)) (k : κ) : List (κ × V) := if hasB l k = true then l.take (pl l k) ++ l.drop (pl l k + 1) else l
def fromL (l : List (κ × V)) (k : κ) : List (κ × V) := l.drop (pl l k)

theorem pl_nil (k : κ) : pl ([] : List (κ × V)) k = 0 := rfl
theorem pl_cons_lt {r : κ × V} {l : List (κ × V)} {k : κ} (h : lt r.1 k = true) : pl (r :: l) k = pl l k + 1 := by
  unfold pl; rw [List.takeWhile_cons, if_pos h]; rfl
theorem pl_cons_not {r : κ × V} {l : List (κ × V)} {k : κ} (h : lt r.1 k = false) : pl (r :: l) k = 0 := by
  unfold pl; rw [List.takeWhile_cons, if_neg (by rw [h]; decide)]; rfl
theorem pl_le (l : List (κ × V)) (k : κ) : pl l k ≤ l.length := List.Sublist.length_le (List.takeWhile_sublist _)
/-- Below the place the keys are below. -/
theorem pl_below : ∀ (l : List (κ × V)) (k : κ) (i : Nat) (r : κ × V), l[i]? = some r → i < pl l k → lt r.1 k = true
  | [], _, _, _, h, _ => by simp at h
  | a :: l, k, i, r, h, hi => by
    cases e : lt a.1 k
    · rw [pl_cons_not e] at hi; omega
    · rw [pl_cons_lt e] at hi
      cases i with
      | zero => simp at h; rw [← h]; exact e
      | succ i => exact pl_below l k i r (by simpa using h) (by omega)
/-- From the place on they are not. -/
theorem pl_above : ∀ (l : List (κ × V)) (k : κ) (_ : asc l) (i : Nat) (r : κ × V), l[i]? = some r → pl l k ≤ i → lt r.1 k = false
  | [], _, _, _, _, h, _ => by simp at h
  | a :: l, k, hl, i, r, h, hi => by
    have hl' := List.pairwise_cons.1 hl
    cases e : lt a.1 k
    · cases i with
      | zero => simp at h; rw [← h]; exact e
      | succ i =>
        have hr : r ∈ l := List.mem_of_getElem? (by simpa using h)
        have := hl'.1 r hr
        cases f : lt r.1 k
        · rfl
        · rw [tr _ _ _ this f] at e; cases e
    · rw [pl_cons_lt e] at hi
      cases i with
      | zero => omega
      | succ i => exact pl_above l k hl'.2 i r (by simpa using h) (by omega)
theorem pl_iff (l : List (κ × V)) (k : κ) (hl : asc l) (i : Nat) (r : κ × V) (h : l[i]? = some r) : lt r.1 k = true ↔ i < pl l k := by
  constructor
  · intro e
    rcases Nat.lt_or_ge i (pl l k) with h1 | h1
    · exact h1
    · rw [pl_above l k hl i r h h1] at e; cases e
  · exact pl_below l k i r h
/-- The linear scan ends at the place. -/
theorem pl_eq (l : List (κ × V)) (k : κ) (i : Nat) (hi : i ≤ l.length) (hb : ∀ j, j < i → ∀ r, l[j]? = some r → lt r.1 k = true) (he : ∀ r, l[i]? = some r → lt r.1 k = false) : i = pl l k := by
  induction l generalizing i with
  | nil => simp at hi; subst hi; rfl
  | cons a l ih =>
    cases i with
    | zero => rw [pl_cons_not (he a (by simp))]
    | succ i =>
      rw [pl_cons_lt (hb 0 (by omega) a (by simp))]
      have := ih i (by simpa using hi) (fun j hj r hr => hb (j + 1) (by omega) r (by simpa using hr)) (fun r hr => he r (by simpa using hr))
      omega

theorem has_lt (l : List (κ × V)) (k : κ) (h : hasB l k = true) : pl l k < l.length ∧ ∃ v, l[pl l k]? = some (k, v) := by
  unfold hasB at h
  cases e : l[pl l k]? with
  | none => rw [e] at h; cases h
  | some r =>
    rw [e] at h
    refine ⟨(List.getElem?_eq_some_iff.1 e).1, r.2, ?_⟩
    have : r.1 = k := by simpa using h
    rw [← this]
theorem look_cons (r : κ × V) (l : List (κ × V)) (k : κ) : look (r :: l) k = if r.1 = k then some r.2 else look l k := by
  unfold look
  rw [List.find?_cons]
  by_cases h : r.1 = k <;> simp [h]
theorem look_append (a b : List (κ × V)) (k : κ) : look (a ++ b) k = match look a k with | some v => some v | none => look b k := by
  induction a with
  | nil => rfl
  | cons r a ih =>
    rw [List.cons_append, look_cons, look_cons]
    by_cases h : r.1 = k <;> simp [h, ih]
theorem look_none (l : List (κ × V)) (k : κ) (h : ∀ r ∈ l, r.1 ≠ k) : look l k = none := by
  induction l with
  | nil => rfl
  | cons r l ih =>
    rw [look_cons, if_neg (h r (by simp))]
    exact ih fun r hr => h r (by simp [hr])
theorem look_some (l : List (κ × V)) (k : κ) (v : V) (h : look l k = some v) : (k, v) ∈ l := by
  induction l with
  | nil => cases h
  | cons r l ih =>
    rw [look_cons] at h
    by_cases e : r.1 = k
    · rw [if_pos e] at h; cases h; rw [← e]; simp
    · rw [if_neg e] at h; exact List.mem_cons_of_mem _ (ih h)
theorem look_mem (l : List (κ × V)) (hl : asc l) (r : κ × V) (h : r ∈ l) : look l r.1 = some r.2 := by
  induction l with
  | nil => cases h
  | cons a l ih =>
    have hl' := List.pairwise_cons.1 hl
    rw [look_cons]
    rcases List.mem_cons.1 h with rfl | h
    · rw [if_pos rfl]
    · rw [if_neg, ih hl'.2 h]
      intro e
      have := hl'.1 r h
      rw [e, irr] at this; cases this
/-- Two rising lists with one answer at every key are one list. -/
theorem asc_ext : ∀ (a b : List (κ × V)), asc a → asc b → (∀ k, look a k = look b k) → a = b
  | [], [], _, _, _ => rfl
  | [], r :: b, _, _, h => by have := h r.1; rw [look_cons, if_pos rfl] at this; cases this
  | r :: a, [], _, _, h => by have := h r.1; rw [look_cons, if_pos rfl] at this; cases this
  | r :: a, s :: b, ha, hb, h => by
    have ha' := List.pairwise_cons.1 ha
    have hb' := List.pairwise_cons.1 hb
    have e : r.1 = s.1 := by
      refine tri _ _ ?_ ?_
      · cases f : lt r.1 s.1
        · rfl
        · have h1 := h r.1
          rw [look_cons, if_pos rfl, look_cons, if_neg (by intro e; rw [e, irr] at f; cases f)] at h1
          have h2 := look_some b r.1 r.2 h1.symm
          have h3 := hb'.1 _ h2
          have := tr _ _ _ f h3
          rw [irr] at this; cases this
      · cases f : lt s.1 r.1
        · rfl
        · have h1 := h s.1
          rw [look_cons, look_cons, if_pos rfl, if_neg (by intro e; rw [e, irr] at f; cases f)] at h1
          have h2 := look_some a s.1 s.2 h1
          have h3 := ha'.1 _ h2
          have := tr _ _ _ f h3
          rw [irr] at this; cases this
    have ev : r.2 = s.2 := by
      have h1 := h r.1
      rw [look_cons, if_pos rfl, look_cons, if_pos e.symm] at h1
      exact Option.some.inj h1
    have : a = b := asc_ext a b ha'.2 hb'.2 fun k => by
      have h1 := h k
      rw [look_cons, look_cons] at h1
      by_cases hk : r.1 = k
      · rw [look_none a k, look_none b k]
        · intro x hx ek; have := hb'.1 x hx; rw [ek, ← hk, e, irr] at this; cases this
        · intro x hx ek; have := ha'.1 x hx; rw [ek, ← hk, irr] at this; cases this
      · rw [if_neg hk, if_neg (by rw [← e]; exact hk)] at h1; exact h1
    rw [this, show r = s from Prod.ext e ev]

theorem take_pl (l : List (κ × V)) (k : κ) : ∀ r ∈ l.take (pl l k), lt r.1 k = true := fun r hr => by
  obtain ⟨i, hi, e⟩ := List.mem_iff_getElem.1 hr
  rw [List.length_take] at hi
  rw [List.getElem_take] at e
  exact pl_below l k i r (by rw [List.getElem?_eq_getElem (by omega), e]) (by omega)
theorem drop_pl (l : List (κ × V)) (k : κ) (hl : asc l) : ∀ r ∈ l.drop (pl l k), lt r.1 k = false := fun r hr => by
  obtain ⟨i, hi, e⟩ := List.mem_iff_getElem.1 hr
  rw [List.length_drop] at hi
  rw [List.getElem_drop] at e
  exact pl_above l k hl (pl l k + i) r (by rw [List.getElem?_eq_getElem (by omega), e]) (by omega)
theorem drop_has (l : List (κ × V)) (k : κ) (hl : asc l) : ∀ r ∈ l.drop (pl l k + if hasB l k = true then 1 else 0), lt k r.1 = true := fun r hr => by
  by_cases h : hasB l k = true
  · rw [if_pos h] at hr
    obtain ⟨hlt, v, hv⟩ := has_lt l k h
    have e := List.drop_eq_getElem_cons hlt
    have hd : asc (l.drop (pl l k)) := List.Pairwise.drop hl
    rw [e] at hd
    have := (List.pairwise_cons.1 hd).1 r hr
    rw [List.getElem?_eq_getElem hlt] at hv
    rw [Option.some.inj hv] at this
    exact this
  · rw [if_neg h] at hr
    have h1 := drop_pl l k hl r hr
    cases e : lt k r.1
    · exfalso
      have ek := tri _ _ h1 e
      obtain ⟨i, hi, er⟩ := List.mem_iff_getElem.1 hr
      rw [List.length_drop] at hi
      rw [List.getElem_drop] at er
      have h0 : pl l k < l.length := by omega
      apply h
      unfold hasB
      rw [List.getElem?_eq_getElem h0]
      simp only [decide_eq_true_eq]
      by_cases hi0 : i = 0
      · subst hi0
        have er' : l[pl l k]'h0 = r := by simpa using er
        rw [er']; exact ek
      · have hp := List.pairwise_iff_getElem.1 hl (pl l k) (pl l k + i) h0 (by omega) (by omega)
        have er' : l[pl l k + i]'(by omega) = r := by simpa using er
        rw [er', ek] at hp
        have := pl_above l k hl (pl l k) _ (List.getElem?_eq_getElem h0) (Nat.le_refl _)
        rw [hp] at this; cases this
    · rfl
theorem asc_putL (l : List (κ × V)) (k : κ) (v : V) (hl : asc l) : asc (putL l k v) := by
  unfold putL asc
  refine List.pairwise_append.2 ⟨List.Pairwise.take hl, List.pairwise_cons.2 ⟨fun r hr => drop_has l k hl r hr, List.Pairwise.drop hl⟩, fun a ha b hb => ?_⟩
  have h1 := take_pl l k a ha
  rcases List.mem_cons.1 hb with rfl | hb
  · exact h1
  · exact tr _ _ _ h1 (drop_has l k hl b hb)
theorem asc_dropL (l : List (κ × V)) (k : κ) (hl : asc l) : asc (dropL l k) := by
  unfold dropL
  split
  · next h =>
    refine List.pairwise_append.2 ⟨List.Pairwise.take hl, List.Pairwise.drop hl, fun a ha b hb => ?_⟩
    have h1 := take_pl l k a ha
    have h2 := drop_has l k hl b (by rw [if_pos h]; exact hb)
    exact tr _ _ _ h1 h2
  · exact hl
theorem look_putL (l : List (κ × V)) (k : κ) (v : V) (_hl : asc l) (q : κ) : look (putL l k v) q = if k = q then some v else look l q := by
  unfold putL
  rw [look_append, look_cons]
  by_cases h : k = q
  · subst h
    rw [if_pos rfl, if_pos rfl, look_none]
    intro r hr e
    have := take_pl l k r hr
    rw [e, irr] at this; cases this
  · rw [if_neg h, if_neg h]
    have e : look l q = look (l.take (pl l k) ++ l.drop (pl l k)) q := by rw [List.take_append_drop]
    rw [e, look_append]
    have e2 : look (l.drop (pl l k + if hasB l k = true then 1 else 0)) q = look (l.drop (pl l k)) q := by
      by_cases hh : hasB l k = true
      · obtain ⟨hlt, w, hw⟩ := has_lt l k hh
        rw [if_pos hh, List.drop_eq_getElem_cons hlt, look_cons, if_neg]
        rw [List.getElem?_eq_getElem hlt] at hw
        rw [Option.some.inj hw]; exact h
      · rw [if_neg hh, Nat.add_zero]
    rw [e2]
/-- What is put one behind the other. -/
def putAll (l : List (κ × V)) : List (κ × V) := l.foldl (fun t r => putL t r.1 r.2) []
theorem putAll_snoc (l : List (κ × V)) (r : κ × V) : putAll (l ++ [r]) = putL (putAll l) r.1 r.2 := by unfold putAll; rw [List.foldl_append]; rfl
theorem asc_putAll (l : List (κ × V)) : asc (putAll l) := by
  suffices h : ∀ (l t : List (κ × V)), asc t → asc (l.foldl (fun t r => putL t r.1 r.2) t) from h l [] List.Pairwise.nil
  intro l
  induction l with
  | nil => exact fun t h => h
  | cons r l ih => exact fun t h => ih _ (asc_putL t _ _ h)
theorem len_putL (l : List (κ × V)) (k : κ) (v : V) : l.length ≤ (putL l k v).length ∧ (putL l k v).length ≤ l.length + 1 := by
  unfold putL
  have := pl_le l k
  rw [List.length_append, List.length_take, List.length_cons, List.length_drop]
  by_cases h : hasB l k = true
  · obtain ⟨h1, _⟩ := has_lt l k h
    rw [if_pos h]; omega
  · rw [if_neg h]; omega
theorem len_dropL (l : List (κ × V)) (k : κ) : (dropL l k).length ≤ l.length := by
  unfold dropL
  split
  · rw [List.length_append, List.length_take, List.length_drop]; omega
  · exact Nat.le_refl _
theorem len_putAll (l : List (κ × V)) : (putAll l).length ≤ l.length := by
  suffices h : ∀ (l t : List (κ × V)), (l.foldl (fun t r => putL t r.1 r.2) t).length ≤ t.length + l.length from by have := h l []; simpa [putAll] using this
  intro l
  induction l with
  | nil => exact fun t => by simp
  | cons r l ih =>
    intro t
    have h1 := ih (putL t r.1 r.2)
    have h2 := (len_putL t r.1 r.2).2
    simp only [List.foldl_cons, List.length_cons]
    omega

/-! ### Gathering -/
/-- One row onto those that stand. -/
def gs (j : V → V → V) (acc : List (κ × V)) (r : κ × V) : List (κ × V) := match acc.getLast? with
  | some p => if p.1 = r.1 then acc.dropLast ++ [(r.1, j p.2 r.2)] else acc ++ [r]
  | none => acc ++ [r]
def gath (j : V → V → V) (l : List (κ × V)) : List (κ × V) := l.foldl (gs j) []
theorem gath_snoc (j : V → V → V) (l : List (κ × V)) (r : κ × V) : gath j (l ++ [r]) = gs j (gath j l) r := by unfold gath; rw [List.foldl_append]; rfl
theorem gs_len (j : V → V → V) (acc : List (κ × V)) (r : κ × V) : (gs j acc r).length ≤ acc.length + 1 := by
  unfold gs
  cases acc.getLast? with
  | none => simp
  | some p =>
    by_cases h : p.1 = r.1
    · simp only [if_pos h]; rw [List.length_append, List.length_dropLast]; simp <;> omega
    · simp only [if_neg h]; simp
theorem gath_len (j : V → V → V) (l : List (κ × V)) : (gath j l).length ≤ l.length := by
  suffices h : ∀ (l t : List (κ × V)), (l.foldl (gs j) t).length ≤ t.length + l.length from by have := h l []; simpa [gath] using this
  intro l
  induction l with
  | nil => exact fun t => by simp
  | cons r l ih =>
    intro t
    have h1 := ih (gs j t r)
    have h2 := gs_len j t r
    simp only [List.foldl_cons, List.length_cons]
    omega
/-- The values of a key, one behind the other. -/
def kv (l : List (κ × V)) (k : κ) : List V := (l.filter fun r => decide (r.1 = k)).map (·.2)
def fj (j : V → V → V) : List V → Option V | [] => none | v :: vs => some (vs.foldl j v)
theorem kv_append (a b : List (κ × V)) (k : κ) : kv (a ++ b) k = kv a k ++ kv b k := by simp [kv]
theorem kv_one (r : κ × V) (k : κ) : kv [r] k = if r.1 = k then [r.2] else [] := by
  unfold kv
  by_cases h : r.1 = k <;> simp [h]
theorem fj_snoc (j : V → V → V) (l : List V) (v : V) : fj j (l ++ [v]) = match fj j l with | some u => some (j u v) | none => some v := by
  cases l with
  | nil => rfl
  | cons a l => simp [fj, List.foldl_append]
/-- Rows that do not fall. -/
def srt (l : List (κ × V)) : Prop := l.Pairwise fun a b => lt b.1 a.1 = false
theorem gath_spec (j : V → V → V) (l : List (κ × V)) (hl : srt l) : asc (gath j l) ∧ (∀ k, look (gath j l) k = fj j (kv l k)) ∧ (∀ r, (gath j l).getLast? = some r → ∃ s, l.getLast? = some s ∧ r.1 = s.1) ∧ (∀ r ∈ gath j l, ∃ s ∈ l, s.1 = r.1) ∧ (l ≠ [] → gath j l ≠ []) := by
  suffices h : ∀ (m : List (κ × V)), srt m.reverse → asc (gath j m.reverse) ∧ (∀ k, look (gath j m.reverse) k = fj j (kv m.reverse k)) ∧ (∀ r, (gath j m.reverse).getLast? = some r → ∃ s, m.reverse.getLast? = some s ∧ r.1 = s.1) ∧ (∀ r ∈ gath j m.reverse, ∃ s ∈ m.reverse, s.1 = r.1) ∧ (m.reverse ≠ [] → gath j m.reverse ≠ []) by
    have := h l.reverse (by rw [List.reverse_reverse]; exact hl)
    rwa [List.reverse_reverse] at this
  intro m
  induction m with
  | nil => exact fun _ => ⟨List.Pairwise.nil, fun _ => rfl, fun r h => by simp [gath] at h, fun r h => by simp [gath] at h, fun h => absurd rfl h⟩
  | cons x m ih =>
    intro hs
    rw [List.reverse_cons] at hs ⊢
    have hs' := List.pairwise_append.1 hs
    obtain ⟨ha, hb, hc, hd, he⟩ := ih hs'.1
    have hle : ∀ r ∈ gath j m.reverse, lt x.1 r.1 = false := fun r hr => by
      obtain ⟨s, hs1, hs2⟩ := hd r hr
      rw [← hs2]; exact hs'.2.2 s hs1 x (by simp)
    rw [gath_snoc]
    cases e : (gath j m.reverse).getLast? with
    | none =>
      have e0 : gath j m.reverse = [] := List.getLast?_eq_none_iff.1 e
      have em : m.reverse = [] := by
        rcases Classical.em (m.reverse = []) with h | h
        · exact h
        · exact absurd e0 (he h)
      rw [e0, em]
      refine ⟨List.pairwise_singleton _ _, fun k => ?_, fun r h => ?_, fun r h => ?_, fun _ => ?_⟩
      · rw [List.nil_append, kv_one]
        show look [x] k = _
        rw [look_cons]
        by_cases h : x.1 = k <;> simp [h, fj, look]
      · simp [gs] at h; exact ⟨x, by simp, by rw [h]⟩
      · simp [gs] at h; exact ⟨x, by simp, by rw [h]⟩
      · simp [gs]
    | some p =>
      have hne : gath j m.reverse ≠ [] := by intro h; rw [h] at e; cases e
      obtain ⟨init, hinit⟩ : ∃ init, gath j m.reverse = init ++ [p] := by
        refine ⟨(gath j m.reverse).dropLast, ?_⟩
        have h1 := List.dropLast_concat_getLast hne
        have h2 : (gath j m.reverse).getLast hne = p := by rw [List.getLast?_eq_some_getLast hne] at e; exact Option.some.inj e
        rw [h2] at h1; exact h1.symm
      have hg : gs j (gath j m.reverse) x = if p.1 = x.1 then init ++ [(x.1, j p.2 x.2)] else (init ++ [p]) ++ [x] := by
        unfold gs; rw [e]
        by_cases h : p.1 = x.1
        · simp only [if_pos h]; rw [hinit, List.dropLast_concat]
        · simp only [if_neg h]; rw [hinit]
      rw [hg]
      rw [hinit] at ha hb hd hle
      have hpa := List.pairwise_append.1 ha
      have hin : ∀ r ∈ init, lt r.1 p.1 = true := fun r hr => hpa.2.2 r hr p (by simp)
      by_cases h : p.1 = x.1
      · simp only [if_pos h]
        refine ⟨List.pairwise_append.2 ⟨hpa.1, List.pairwise_singleton _ _, fun a ha b hb => ?_⟩, fun k => ?_, fun r hr => ?_, fun r hr => ?_, fun _ => by simp⟩
        · simp at hb; rw [hb]; show lt a.1 x.1 = true; rw [← h]; exact hin a ha
        · have hk := hb k
          rw [look_append, look_cons] at hk
          rw [kv_append, kv_one, look_append, look_cons]
          by_cases hx : x.1 = k
          · have hl0 : look init k = none := look_none _ _ fun r hr ek => by have := hin r hr; rw [ek, h, hx, irr] at this; cases this
            rw [hl0] at hk
            rw [hl0, if_pos hx, if_pos hx, fj_snoc, ← hk, if_pos (by rw [h]; exact hx)]
          · rw [if_neg hx, if_neg hx, List.append_nil, ← hk, if_neg (by rw [h]; exact hx)]
        · rw [List.getLast?_append] at hr; simp at hr; exact ⟨x, by simp, by rw [← hr]⟩
        · rcases List.mem_append.1 hr with hr | hr
          · obtain ⟨s, h1, h2⟩ := hd r (List.mem_append.2 (.inl hr))
            exact ⟨s, List.mem_append.2 (.inl h1), h2⟩
          · simp at hr; exact ⟨x, by simp, by rw [hr]⟩
      · simp only [if_neg h]
        have hpx : lt p.1 x.1 = true := by
          have h1 := hle p (by simp)
          cases f : lt p.1 x.1
          · exact absurd (tri _ _ f h1) h
          · rfl
        have hall : ∀ r ∈ init ++ [p], lt r.1 x.1 = true := fun r hr => by
          rcases List.mem_append.1 hr with hr | hr
          · exact tr _ _ _ (hin r hr) hpx
          · simp at hr; rw [hr]; exact hpx
        refine ⟨List.pairwise_append.2 ⟨ha, List.pairwise_singleton _ _, fun a ha b hb => ?_⟩, fun k => ?_, fun r hr => ?_, fun r hr => ?_, fun _ => by simp⟩
        · simp at hb; rw [hb]; exact hall a ha
        · rw [look_append, hb k, kv_append, kv_one, look_cons]
          by_cases hx : x.1 = k
          · have hl0 : look (init ++ [p]) k = none := look_none _ _ fun r hr ek => by have := hall r hr; rw [ek, hx, irr] at this; cases this
            rw [hb k] at hl0
            rw [hl0, if_pos hx, if_pos hx, fj_snoc, hl0]
          · rw [if_neg hx, if_neg hx, List.append_nil]
            cases fj j (kv m.reverse k) <;> rfl
        · rw [List.getLast?_append] at hr; simp at hr; exact ⟨x, by simp, by rw [hr]⟩
        · rcases List.mem_append.1 hr with hr | hr
          · obtain ⟨s, h1, h2⟩ := hd r hr
            exact ⟨s, List.mem_append.2 (.inl h1), h2⟩
          · simp at hr; exact ⟨x, by simp, by rw [hr]⟩
/-- d holds the rows of l, sorted, those of one key in their order. -/
def Stab (l d : List (κ × V)) : Prop := srt d ∧ ∀ k, kv d k = kv l k
def lastV : V → V → V := fun _ b => b
theorem look_putAll (l : List (κ × V)) (k : κ) : look (putAll l) k = fj lastV (kv l k) := by
  suffices h : ∀ (m : List (κ × V)), look (putAll m.reverse) k = fj lastV (kv m.reverse k) by
    have := h l.reverse
    rwa [List.reverse_reverse] at this
  intro m
  induction m with
  | nil => rfl
  | cons x m ih =>
    rw [List.reverse_cons, putAll_snoc, look_putL _ _ _ (asc_putAll _), ih, kv_append, kv_one]
    by_cases h : x.1 = k
    · rw [if_pos h, if_pos h, fj_snoc]
      cases fj lastV (kv m.reverse k) <;> rfl
    · rw [if_neg h, if_neg h, List.append_nil]
/-- What Of makes: the rows put one behind the other. -/
theorem gath_last (l d : List (κ × V)) (h : Stab l d) : gath lastV d = putAll l := by
  have hg := gath_spec lastV d h.1
  exact asc_ext _ _ hg.1 (asc_putAll l) fun k => by rw [hg.2.1, h.2, look_putAll]
theorem gath_asc_last (j : V → V → V) (l d : List (κ × V)) (h : Stab l d) : asc (gath j d) := (gath_spec j d h.1).1
end Go.Proofs.YtganokcmcdkdgaaGreat.Tb
