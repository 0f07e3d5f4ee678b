/-
  Two sorted lists merged: what the merge must be, and how the symmetric merge's parts make it. Conditions: none.
-/
import Derived.Test.YtflhpijcfiamgaaTSort
namespace Go.Proofs.Ytflhpijcfiamgaa.Tb
open Go.Sort Ky

section
variable {κ V : Type} [Ky κ]
/-- C holds the rows of L and those of M, sorted; of one key L's come first, each list's in their order. -/
def Mrg (L M C : List (κ × V)) : Prop := C.length = L.length + M.length ∧ srt C ∧ ∀ k, kv C k = kv L k ++ kv M k
theorem kv_mem (l : List (κ × V)) (r : κ × V) : r ∈ l ↔ r.2 ∈ kv l r.1 := by
  unfold kv
  simp only [List.mem_map, List.mem_filter, decide_eq_true_eq]
  constructor
  · exact fun h => ⟨r, ⟨h, rfl⟩, rfl⟩
  · rintro ⟨s, ⟨h, e⟩, e2⟩
    rwa [show r = s from Prod.ext e.symm e2.symm]
theorem Mrg.mem {L M C : List (κ × V)} (h : Mrg L M C) {r : κ × V} (hr : r ∈ C) : r ∈ L ∨ r ∈ M := by
  have := (kv_mem C r).1 hr
  rw [h.2.2, List.mem_append] at this
  exact this.imp (kv_mem L r).2 (kv_mem M r).2
theorem kv_none (l : List (κ × V)) (k : κ) (h : ∀ r ∈ l, r.1 ≠ k) : kv l k = [] := by
  unfold kv
  rw [List.map_eq_nil_iff, List.filter_eq_nil_iff]
  intro r hr
  simpa using h r hr
theorem kv_apart (R1 L2 : List (κ × V)) (h : ∀ r ∈ R1, ∀ l ∈ L2, lt r.1 l.1 = true) (k : κ) : kv R1 k ++ kv L2 k = kv L2 k ++ kv R1 k := by
  by_cases hk : ∃ r ∈ R1, r.1 = k
  · obtain ⟨r, hr, e⟩ := hk
    rw [kv_none L2 k fun l hl e2 => by have := h r hr l hl; rw [e, e2, irr] at this; cases this]
    simp
  · rw [kv_none R1 k fun r hr e => hk ⟨r, hr, e⟩]
    simp
theorem Mrg.left {L : List (κ × V)} (h : srt L) : Mrg L [] L := ⟨by simp, h, fun k => by simp [kv]⟩
theorem Mrg.right {M : List (κ × V)} (h : srt M) : Mrg [] M M := ⟨by simp, h, fun k => by simp [kv]⟩
theorem not_le {a b : κ} (h : lt a b = true) : lt b a = false := lt_asym h
theorem Mrg.split {L1 L2 R1 R2 C1 C2 : List (κ × V)} (hL : srt (L1 ++ L2)) (hR : srt (R1 ++ R2)) (h1 : ∀ l ∈ L1, ∀ r ∈ R2, lt r.1 l.1 = false) (h2 : ∀ r ∈ R1, ∀ l ∈ L2, lt r.1 l.1 = true)
    (hC1 : Mrg L1 R1 C1) (hC2 : Mrg L2 R2 C2) : Mrg (L1 ++ L2) (R1 ++ R2) (C1 ++ C2) := by
  have pL := List.pairwise_append.1 hL
  have pR := List.pairwise_append.1 hR
  refine ⟨?_, List.pairwise_append.2 ⟨hC1.2.1, hC2.2.1, fun x hx y hy => ?_⟩, fun k => ?_⟩
  · have e1 := hC1.1
    have e2 := hC2.1
    simp only [List.length_append]
    omega
  · rcases hC1.mem hx with hx | hx <;> rcases hC2.mem hy with hy | hy
    · exact pL.2.2 x hx y hy
    · exact h1 x hx y hy
    · exact lt_asym (h2 x hx y hy)
    · exact pR.2.2 x hx y hy
  · rw [kv_append, kv_append, kv_append, hC1.2.2, hC2.2.2]
    have := kv_apart R1 L2 h2 k
    rw [List.append_assoc, ← List.append_assoc (kv R1 k), this]
    simp only [List.append_assoc]
theorem Mrg.one_left {x : κ × V} {R1 R2 : List (κ × V)} (hR : srt (R1 ++ R2)) (h1 : ∀ r ∈ R1, lt r.1 x.1 = true) (h2 : ∀ r ∈ R2, lt r.1 x.1 = false) : Mrg [x] (R1 ++ R2) (R1 ++ x :: R2) := by
  have pR := List.pairwise_append.1 hR
  have hx : Mrg [x] R2 (x :: R2) := ⟨by simp; omega, List.pairwise_cons.2 ⟨fun r hr => h2 r hr, pR.2.1⟩, fun k => by rw [← kv_append]; rfl⟩
  exact Mrg.split (L1 := []) (List.pairwise_singleton _ _) hR (fun l hl => absurd hl List.not_mem_nil) (fun r hr l hl => by rw [List.mem_singleton.1 hl]; exact h1 r hr) (Mrg.right pR.1) hx
theorem Mrg.one_right {y : κ × V} {L1 L2 : List (κ × V)} (hL : srt (L1 ++ L2)) (h1 : ∀ l ∈ L1, lt y.1 l.1 = false) (h2 : ∀ l ∈ L2, lt y.1 l.1 = true) : Mrg (L1 ++ L2) [y] (L1 ++ y :: L2) := by
  have pL := List.pairwise_append.1 hL
  have hy : Mrg L2 [y] (y :: L2) := ⟨by simp, List.pairwise_cons.2 ⟨fun l hl => lt_asym (h2 l hl), pL.2.1⟩, fun k => by
    have := kv_apart [y] L2 (fun r hr l hl => by rw [List.mem_singleton.1 hr]; exact h2 l hl) k
    rw [← this, ← kv_append]
    rfl⟩
  exact Mrg.split (R1 := []) hL (List.pairwise_singleton _ _) (fun l hl r hr => by rw [List.mem_singleton.1 hr]; exact h1 l hl) (fun r hr => absurd hr List.not_mem_nil) (Mrg.left pL.1) hy

/-! ### places -/
variable [Inhabited V]
/-- The rows from a up to b do not fall. -/
def SIn (d : Array (κ × V)) (a b : Nat) : Prop := ∀ i j, a ≤ i → i ≤ j → j < b → lt d[j]!.1 d[i]!.1 = false
theorem part_get {d : Array (κ × V)} {A L T : List (κ × V)} (h : d.toList = A ++ (L ++ T)) (i : Nat) (r : κ × V) (hi : L[i]? = some r) : d[A.length + i]! = r := by
  refine get_bang _ _ _ ?_
  have hlt := (List.getElem?_eq_some_iff.1 hi).1
  rw [h, List.getElem?_append_right (by omega), Nat.add_sub_cancel_left, List.getElem?_append_left hlt, hi]
theorem sin_of {d : Array (κ × V)} {A L T : List (κ × V)} (h : d.toList = A ++ (L ++ T)) (hs : srt L) : SIn d A.length (A.length + L.length) := by
  intro i j hi hij hj
  obtain ⟨i, rfl⟩ : ∃ k, i = A.length + k := ⟨i - A.length, by omega⟩
  obtain ⟨j, rfl⟩ : ∃ k, j = A.length + k := ⟨j - A.length, by omega⟩
  rw [part_get h i _ (List.getElem?_eq_getElem (by omega)), part_get h j _ (List.getElem?_eq_getElem (by omega))]
  by_cases e : i = j
  · subst e; exact irr _
  · exact List.pairwise_iff_getElem.1 hs i j (by omega) (by omega) (by omega)
theorem mem_take_get {d : Array (κ × V)} {A L T : List (κ × V)} (h : d.toList = A ++ (L ++ T)) {n : Nat} {r : κ × V} (hr : r ∈ L.take n) : ∃ i, A.length ≤ i ∧ i < A.length + n ∧ i < A.length + L.length ∧ d[i]! = r := by
  obtain ⟨i, hi, e⟩ := List.mem_iff_getElem.1 hr
  rw [List.length_take] at hi
  rw [List.getElem_take] at e
  exact ⟨A.length + i, by omega, by omega, by omega, part_get h i r (by rw [List.getElem?_eq_getElem (by omega), e])⟩
theorem mem_drop_get {d : Array (κ × V)} {A L T : List (κ × V)} (h : d.toList = A ++ (L ++ T)) {n : Nat} {r : κ × V} (hr : r ∈ L.drop n) : ∃ i, A.length + n ≤ i ∧ i < A.length + L.length ∧ d[i]! = r := by
  obtain ⟨i, hi, e⟩ := List.mem_iff_getElem.1 hr
  rw [List.length_drop] at hi
  rw [List.getElem_drop] at e
  exact ⟨A.length + (n + i), by omega, by omega, part_get h (n + i) r (by rw [List.getElem?_eq_getElem (by omega), e])⟩
theorem le_lt {a b c : κ} (h : lt b a = false) (k : lt b c = true) : lt a c = true := by
  cases e : lt a c
  · cases f : lt c a
    · have := tri a c e f; rw [this] at h; rw [h] at k; cases k
    · have := tr b c a k f; rw [this] at h; cases h
  · rfl

/-- Where the symmetric merge's search may look: from lo to hi. -/
def symLo (a m b : Nat) : Nat := if (a + b) / 2 < m then (a + b) / 2 + m - b else a
def symHi (a m b : Nat) : Nat := if (a + b) / 2 < m then (a + b) / 2 else m
theorem sym_rng {a m b : Nat} (h1 : a < m) (h2 : m < b) : a ≤ symLo a m b ∧ symLo a m b ≤ symHi a m b ∧ symHi a m b ≤ m ∧ symHi a m b ≤ (a + b) / 2 ∧ (a + b) / 2 + m ≤ b + symLo a m b ∧ (a + b) / 2 < b ∧ a ≤ (a + b) / 2 := by
  unfold symLo symHi
  split <;> omega
/-- Of the search: all that lies below s was found not to be above its mirror, all from s on was. -/
def SymS (d : Array (κ × V)) (a m b s r : Nat) : Prop :=
  symLo a m b ≤ s ∧ s ≤ r ∧ r ≤ symHi a m b ∧ (∀ c, symLo a m b ≤ c → c < s → lt d[(a + b) / 2 + m - 1 - c]!.1 d[c]!.1 = false) ∧ ∀ c, r ≤ c → c < symHi a m b → lt d[(a + b) / 2 + m - 1 - c]!.1 d[c]!.1 = true
theorem SymS.start (d : Array (κ × V)) {a m b : Nat} (h1 : a < m) (h2 : m < b) : SymS d a m b (symLo a m b) (symHi a m b) :=
  ⟨Nat.le_refl _, (sym_rng h1 h2).2.1, Nat.le_refl _, fun _ _ _ => by omega, fun _ _ _ => by omega⟩
theorem SymS.up {d : Array (κ × V)} {a m b s r c : Nat} (h1 : a < m) (h2 : m < b) (hL : SIn d a m) (hR : SIn d m b) (h : SymS d a m b s r) (hc1 : s ≤ c) (hc2 : c < r) (hc : lt d[(a + b) / 2 + m - 1 - c]!.1 d[c]!.1 = false) : SymS d a m b (c + 1) r := by
  obtain ⟨g1, g2, g3, g4, g5, g6, g7⟩ := sym_rng h1 h2
  obtain ⟨k1, k2, k3, k4, k5⟩ := h
  refine ⟨by omega, by omega, k3, fun e he1 he2 => ?_, k5⟩
  cases f : lt d[(a + b) / 2 + m - 1 - e]!.1 d[e]!.1
  · rfl
  · have q1 := hL e c (by omega) (by omega) (by omega)
    have q2 := hR ((a + b) / 2 + m - 1 - c) ((a + b) / 2 + m - 1 - e) (by omega) (by omega) (by omega)
    have := le_lt q2 (lt_of_lt_not f q1)
    rw [hc] at this
    cases this
theorem SymS.down {d : Array (κ × V)} {a m b s r c : Nat} (h1 : a < m) (h2 : m < b) (hL : SIn d a m) (hR : SIn d m b) (h : SymS d a m b s r) (hc1 : s ≤ c) (hc2 : c < r) (hc : lt d[(a + b) / 2 + m - 1 - c]!.1 d[c]!.1 = true) : SymS d a m b s c := by
  obtain ⟨g1, g2, g3, g4, g5, g6, g7⟩ := sym_rng h1 h2
  obtain ⟨k1, k2, k3, k4, k5⟩ := h
  refine ⟨k1, hc1, by omega, k4, fun e he1 he2 => ?_⟩
  have q1 := hL c e (by omega) (by omega) (by omega)
  have q2 := hR ((a + b) / 2 + m - 1 - e) ((a + b) / 2 + m - 1 - c) (by omega) (by omega) (by omega)
  exact le_lt q2 (lt_of_lt_not hc q1)
/-- Where the search ends the four parts stand as the merge wants them. -/
theorem SymS.parts {d : Array (κ × V)} {A L M B : List (κ × V)} {a m b s : Nat} (hd : d.toList = A ++ (L ++ (M ++ B))) (ha : a = A.length) (hm : m = a + L.length) (hb : b = m + M.length) (h1 : a < m) (h2 : m < b) (hL : srt L) (hM : srt M) (h : SymS d a m b s s) :
    (∀ l ∈ L.take (s - a), ∀ r ∈ M.drop ((a + b) / 2 + m - s - m), lt r.1 l.1 = false) ∧ (∀ r ∈ M.take ((a + b) / 2 + m - s - m), ∀ l ∈ L.drop (s - a), lt r.1 l.1 = true) := by
  have sL : SIn d a m := by rw [hm, ha]; exact sin_of hd hL
  have hd2 : d.toList = (A ++ L) ++ (M ++ B) := by rw [hd]; simp
  have lAL : (A ++ L).length = m := by rw [List.length_append]; omega
  have sM : SIn d m b := by have := sin_of hd2 hM; rwa [lAL, ← hb] at this
  obtain ⟨g1, g2, g3, g4, g5, g6, g7⟩ := sym_rng h1 h2
  obtain ⟨k1, k2, k3, k4, k5⟩ := h
  constructor
  · intro l hl r hr
    obtain ⟨i, i1, i2, i3, rfl⟩ := mem_take_get hd hl
    obtain ⟨j, j1, j2, rfl⟩ := mem_drop_get hd2 hr
    rw [lAL] at j1 j2
    by_cases hlo : symLo a m b = s
    · exfalso
      unfold symLo at hlo
      split at hlo <;> omega
    · have q := k4 (s - 1) (by omega) (by omega)
      rw [show (a + b) / 2 + m - 1 - (s - 1) = (a + b) / 2 + m - s by omega] at q
      have q1 := sL i (s - 1) (by omega) (by omega) (by omega)
      have q2 := sM ((a + b) / 2 + m - s) j (by omega) (by omega) (by omega)
      cases f : lt d[j]!.1 d[i]!.1
      · rfl
      · have := le_lt q2 (lt_of_lt_not f q1)
        rw [q] at this
        cases this
  · intro r hr l hl
    obtain ⟨i, i1, i2, rfl⟩ := mem_drop_get hd hl
    obtain ⟨j, j1, j2, j3, rfl⟩ := mem_take_get hd2 hr
    rw [lAL] at j1 j2 j3
    by_cases hhi : symHi a m b = s
    · exfalso
      unfold symHi at hhi
      split at hhi <;> omega
    · have q := k5 s (by omega) (by omega)
      have q1 := sL s i (by omega) (by omega) (by omega)
      have q2 := sM j ((a + b) / 2 + m - 1 - s) (by omega) (by omega) (by omega)
      exact le_lt q2 (lt_of_lt_not q q1)
end
end Go.Proofs.Ytflhpijcfiamgaa.Tb
