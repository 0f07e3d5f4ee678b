/-
  The symmetric merge, whatever its parts; a row in sorted chunks. Conditions: the parts are sorted.
-/
import Derived.Test.YtflhpijcfiamgaaTSymcIi
namespace Go.Proofs.Ytflhpijcfiamgaa.Tb.Ii
open Go.RowKit Go.Sort

theorem sym_all (w0 : World) (blk off cap N : Nat) (d0 : Array R) (Rw : RowK enc 2 w0 blk off d0) (hs : N = d0.size) (hsz : N < 1000000000) : ∀ n, SymOK w0 blk off cap N n := by
  intro n
  induction n with
  | zero =>
    intro a m b w d A L M B hn _ _ _ h1 h2 ha hm hb _ _
    omega
  | succ n ih =>
    intro a m b w d A L M B hn S hN hd h1 h2 ha hm hb hsL hsM
    by_cases c1 : L.length = 1
    · obtain ⟨x, rfl⟩ := List.length_eq_one_iff.1 c1
      exact sym_first w0 w blk off cap N a m b d0 d A x M B S Rw (by omega) hN (by omega) hd h2 ha hm hb hsM
    · by_cases c2 : M.length = 1
      · obtain ⟨y, rfl⟩ := List.length_eq_one_iff.1 c2
        exact sym_second w0 w blk off cap N a m b d0 d A L y B S Rw (by omega) hN (by omega) hd (by omega) ha hm hb hsL
      · exact sym_step w0 w blk off cap N n a m b d0 d A L M B ih S Rw hs hN hsz hd (by omega) (by omega) ha hm hb hsL hsM hn

/-- A step of the sort on the places from a up to b: they are sorted behind it; elsewhere nothing changes; the values of each key stay in their order. -/
def StepP (w0 : World) (blk off N a b : Nat) (d : Array R) (w' : World) : Prop :=
  ∃ d' : Array R, d'.size = N ∧ SIn d' a b ∧ (∀ i, i < a ∨ b ≤ i → d'[i]! = d[i]!) ∧ (∀ k, kv d'.toList k = kv d.toList k) ∧ SWK enc 2 w0 blk off d' w'

theorem srt_of_sin {d : Array R} {a b : Nat} (h : SIn d a b) (hb : b ≤ d.size) : srt ((d.toList.drop a).take (b - a)) := by
  unfold srt
  rw [List.pairwise_iff_getElem]
  intro i j hi hj hij
  rw [List.length_take, List.length_drop] at hi hj
  have h1 := h (a + i) (a + j) (by omega) (by omega) (by omega)
  have e1 := get_bang d (a + i) _ (List.getElem?_eq_getElem (l := d.toList) (by simp at hi ⊢; omega))
  have e2 := get_bang d (a + j) _ (List.getElem?_eq_getElem (l := d.toList) (by simp at hj ⊢; omega))
  rw [e1, e2] at h1
  simpa using h1
theorem out_get {d d' : Array R} {A C C' B : List R} (h : d.toList = A ++ (C ++ B)) (h' : d'.toList = A ++ (C' ++ B)) (hl : C'.length = C.length) (i : Nat) (hi : i < A.length ∨ A.length + C.length ≤ i) : d'[i]! = d[i]! := by
  have e : d'.toList[i]? = d.toList[i]? := by
    rw [h, h']
    rcases hi with hi | hi
    · rw [List.getElem?_append_left hi, List.getElem?_append_left hi]
    · rw [List.getElem?_append_right (by omega), List.getElem?_append_right (by omega), List.getElem?_append_right (by omega), List.getElem?_append_right (by omega), hl]
  rw [Array.getElem!_eq_getD, Array.getD_eq_getD_getElem?, ← Array.getElem?_toList, e, Array.getElem?_toList, ← Array.getD_eq_getD_getElem?, ← Array.getElem!_eq_getD]

theorem stp_merge (w0 w : World) (blk off cap N a m b : Nat) (d0 d : Array R) (Rw : RowK enc 2 w0 blk off d0) (hs : N = d0.size) (hsz : N < 1000000000) (S : SWK enc 2 w0 blk off d w) (hN : d.size = N) (h1 : a < m) (h2 : m < b) (h3 : b ≤ N) (sL : SIn d a m) (sM : SIn d m b) :
    Calls Try.prog 91 #[.slice (some ⟨blk, off, none⟩) N cap, .int .i64 a, .int .i64 m, .int .i64 b, .func (.func 70) #[] #[]] w fun e w' => e = .returned (.tuple #[]) ∧ StepP w0 blk off N a b d w' := by
  have ln : d.toList.length = N := by simpa using hN
  obtain ⟨A, hA⟩ : ∃ A, A = d.toList.take a := ⟨_, rfl⟩
  obtain ⟨L, hL⟩ : ∃ L, L = (d.toList.drop a).take (m - a) := ⟨_, rfl⟩
  obtain ⟨M, hM⟩ : ∃ M, M = (d.toList.drop m).take (b - m) := ⟨_, rfl⟩
  obtain ⟨B, hB⟩ : ∃ B, B = d.toList.drop b := ⟨_, rfl⟩
  have lA : A.length = a := by rw [hA, List.length_take]; omega
  have lL : L.length = m - a := by rw [hL, List.length_take, List.length_drop]; omega
  have lM : M.length = b - m := by rw [hM, List.length_take, List.length_drop]; omega
  have e1 : M ++ B = d.toList.drop m := by
    rw [hM, hB, show d.toList.drop b = (d.toList.drop m).drop (b - m) by rw [List.drop_drop]; congr 1; omega, List.take_append_drop]
  have e2 : L ++ (M ++ B) = d.toList.drop a := by
    rw [e1, hL, show d.toList.drop m = (d.toList.drop a).drop (m - a) by rw [List.drop_drop]; congr 1; omega, List.take_append_drop]
  have hd : d.toList = A ++ (L ++ (M ++ B)) := by rw [e2, hA, List.take_append_drop]
  refine (sym_all w0 blk off cap N d0 Rw hs hsz (b - a) a m b w d A L M B (Nat.le_refl _) S hN hd (by omega) (by omega) lA.symm (by omega) (by omega) (by rw [hL]; exact srt_of_sin sL (by omega)) (by rw [hM]; exact srt_of_sin sM (by omega))).mono fun e w' ⟨he, d', C, hd', hm, hS⟩ => ⟨he, d', ?_, ?_, ?_, ?_, hS⟩
  · have := size_of_list hd'
    have := size_of_list hd
    have := hm.1
    simp only [List.length_append] at *
    omega
  · have := sin_of hd' hm.2.1
    rwa [lA, show a + C.length = b by have := hm.1; omega] at this
  · intro i hi
    refine out_get (C := L ++ M) (by rw [hd]; simp only [List.append_assoc]) hd' (by rw [hm.1, List.length_append]) i ?_
    rw [List.length_append, lA, lL, lM]
    omega
  · intro k
    rw [hd, hd', kv_append, kv_append, kv_append, kv_append, kv_append, hm.2.2]
    simp only [List.append_assoc]

theorem stp_insert (w0 w : World) (blk off cap N a b : Nat) (d0 d : Array R) (Rw : RowK enc 2 w0 blk off d0) (hs : N = d0.size) (hsz : N < 1000000000) (S : SWK enc 2 w0 blk off d w) (hN : d.size = N) (h1 : a ≤ b) (h3 : b ≤ N) :
    Calls Try.prog 90 #[.slice (some ⟨blk, off, none⟩) N cap, .int .i64 a, .int .i64 b, .func (.func 70) #[] #[]] w fun e w' => e = .returned (.tuple #[]) ∧ StepP w0 blk off N a b d w' := by
  subst hN
  refine (ins_any w0 w blk off cap a b d0 d S Rw.hH hs Rw.hblk h1 h3 (by omega)).mono fun e w' ⟨he, hS⟩ => ⟨he, _, size_insertion d a b h1 h3, ?_, ?_, fun k => kv_insertion d a b h3 k, hS⟩
  · have h := (insertionSort_holds (lt := ltOf (cfR : R → R → Int)) swo_cfR d a b h1 h3).2
    intro i j hi hij hj
    by_cases e : i = j
    · subst e; exact Ky.irr _
    · have := h i j hi (by omega) hj
      rwa [ltOf_cfR] at this
  · exact (insertionSort_holds (lt := ltOf (cfR : R → R → Int)) swo_cfR d a b h1 h3).1.2.1

/-- Chunks of s rows, from the beginning up to a, are sorted. -/
def ChD (d : Array R) (s N a : Nat) : Prop := ∀ x, s ∣ x → x < a → SIn d x (min (x + s) N)
/-- Those from a on are. -/
def ChR (d : Array R) (s N a : Nat) : Prop := ∀ x, s ∣ x → a ≤ x → x < N → SIn d x (min (x + s) N)
theorem sin_same {d d' : Array R} {x y : Nat} (h : SIn d x y) (he : ∀ i, x ≤ i → i < y → d'[i]! = d[i]!) : SIn d' x y := fun i j hi hij hj => by
  rw [he i hi (by omega), he j (by omega) hj]
  exact h i j hi hij hj
theorem dvd_gap {s x a : Nat} (h1 : s ∣ x) (h2 : s ∣ a) (h : x < a) : x + s ≤ a := by
  have := Nat.le_of_dvd (by omega) (Nat.dvd_sub h2 h1)
  omega
theorem ChD.next {d d' : Array R} {s N a b : Nat} (h : ChD d s N a) (ha : s ∣ a) (hb : b = min (a + s) N) (hs : SIn d' a b) (he : ∀ i, i < a ∨ b ≤ i → d'[i]! = d[i]!) : ChD d' s N (a + s) := by
  intro x hx hlt
  by_cases e : x = a
  · subst e; rw [← hb]; exact hs
  · have hxa : x < a := by
      rcases Nat.lt_or_ge x a with h | h
      · exact h
      · have := dvd_gap ha hx (by omega); omega
    have hg := dvd_gap hx ha hxa
    exact sin_same (h x hx hxa) fun i _ hi => he i (.inl (by omega))
theorem ChR.next {d d' : Array R} {s N a b : Nat} (h : ChR d s N a) (hab : a ≤ b) (he : ∀ i, i < a ∨ b ≤ i → d'[i]! = d[i]!) : ChR d' s N b := by
  intro x hx hbx hN
  exact sin_same (h x hx (by omega) hN) fun i hi _ => he i (.inr (by omega))
theorem ChD.all {d : Array R} {s N a : Nat} (h : ChD d s N a) (ha : N ≤ a) : ChR d s N 0 := fun x hx _ hN => h x hx (by omega)
theorem ChD.zero (d : Array R) (s N : Nat) : ChD d s N 0 := fun _ _ h => by omega
end Go.Proofs.Ytflhpijcfiamgaa.Tb.Ii
