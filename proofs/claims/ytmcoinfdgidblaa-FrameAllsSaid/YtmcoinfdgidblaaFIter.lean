/-
  All frames of bytes; the contracts of frames, of the function that it gives, and of Whole. Conditions: at most a thousand bytes.
-/
import Derived.Test.YtmcoinfdgidblaaFLoop
import Derived.Test.YtmcoinfdgidblaaFAt
namespace Go.Proofs.Ytmcoinfdgidblaa.Fr
open Go.RowKit Go.Shelf
attribute [local go_sem] Oper.semAt_some

/-- The frames at the beginning of l, that stands at p; at most k. -/
def frs : Nat → Nat → List Int → List Fr
  | 0, _, _ => []
  | k + 1, p, l => if nxE l = 0 then (p, nxB l) :: frs k (p + nxN l) (l.drop (nxN l)) else []
def allF (L : List Int) : List Fr := frs (L.length + 1) 0 L
def whF (xs : List Fr) : Nat := (xs.map (fun x => x.2.length + 8)).sum
theorem whF_snoc (xs : List Fr) (x : Fr) : whF (xs ++ [x]) = whF xs + (x.2.length + 8) := by simp [whF]
theorem nxN_ok {l : List Int} (h : nxE l = 0) : nxN l = (nxB l).length + 8 ∧ nxN l ≤ l.length := by
  have h1 : nxN l = nn l + 8 := if_pos h
  have h2 := nxB_len l h
  have := (nxE_ok h).2.2.1
  omega
/-- Behind pre the bytes from p on are left. -/
def AtP (L : List Int) (pre : List Fr) (p : Nat) : Prop := ∃ k, allF L = pre ++ frs k p (L.drop p) ∧ L.length < p + k ∧ p ≤ L.length ∧ p = whF pre
theorem AtP.start (L : List Int) : AtP L [] 0 := ⟨L.length + 1, rfl, by omega, Nat.zero_le _, rfl⟩
theorem AtP.step {L : List Int} {pre : List Fr} {p : Nat} (h : AtP L pre p) (he : nxE (L.drop p) = 0) : AtP L (pre ++ [(p, nxB (L.drop p))]) (p + nxN (L.drop p)) ∧ ∃ r, allF L = pre ++ (p, nxB (L.drop p)) :: r := by
  obtain ⟨k, h1, h2, h3, h4⟩ := h
  obtain ⟨h5, h6⟩ := nxN_ok he
  rw [List.length_drop] at h6
  cases k with
  | zero => omega
  | succ k =>
    have h7 : frs (k + 1) p (L.drop p) = (p, nxB (L.drop p)) :: frs k (p + nxN (L.drop p)) (L.drop (p + nxN (L.drop p))) := by
      rw [frs, if_pos he, List.drop_drop]
    rw [h7] at h1
    refine ⟨⟨k, by rw [h1]; simp, by omega, by omega, ?_⟩, _, h1⟩
    rw [whF_snoc, ← h4, h5]
theorem AtP.done {L : List Int} {pre : List Fr} {p : Nat} (h : AtP L pre p) (he : ¬ nxE (L.drop p) = 0) : allF L = pre := by
  obtain ⟨k, h1, h2, h3, h4⟩ := h
  cases k with
  | zero => omega
  | succ k =>
    rw [h1, frs, if_neg he, List.append_nil]
theorem AtP.le {L : List Int} {pre : List Fr} {p : Nat} (h : AtP L pre p) : p ≤ L.length := by
  obtain ⟨_, _, _, h, _⟩ := h; exact h
/-- The frames that are given. -/
theorem AtP.fit {L : List Int} {pre r : List Fr} {x : Fr} (h : allF L = pre ++ x :: r) : x.1 = whF pre ∧ x.2.length + 8 ≤ L.length ∧ whF pre ≤ L.length := by
  have key : ∀ (m : Nat) (pre : List Fr) (q : Nat) (pre0 : List Fr), pre.length = m → (∃ k, allF L = pre0 ++ frs k q (L.drop q) ∧ L.length < q + k ∧ q ≤ L.length ∧ q = whF pre0) → allF L = pre0 ++ pre ++ x :: r → x.1 = whF (pre0 ++ pre) ∧ x.2.length + 8 ≤ L.length ∧ whF (pre0 ++ pre) ≤ L.length := by
    intro m
    induction m with
    | zero =>
      rintro pre q pre0 hm ⟨k, h1, h2, h3, h4⟩ h5
      have h6 : pre = [] := List.length_eq_zero_iff.1 hm
      subst h6
      rw [List.append_nil] at h5 ⊢
      rw [h1] at h5
      have h7 := List.append_cancel_left h5
      cases k with
      | zero => omega
      | succ k =>
        rw [frs] at h7
        split at h7
        · rename_i he
          obtain ⟨h8, h9⟩ := nxN_ok he
          rw [List.length_drop] at h9
          have h10 := (List.cons.inj h7).1
          rw [← h10]
          exact ⟨h4, by show (nxB (L.drop q)).length + 8 ≤ _; omega, by omega⟩
        · cases h7
    | succ m ih =>
      rintro pre q pre0 hm ⟨k, h1, h2, h3, h4⟩ h5
      cases pre with
      | nil => cases hm
      | cons y ys =>
        have h6 := h5
        rw [h1, List.append_assoc] at h6
        have h7 := List.append_cancel_left h6
        cases k with
        | zero => cases h7
        | succ k =>
          rw [frs] at h7
          split at h7
          · rename_i he
            have h8 : AtP L pre0 q := ⟨k + 1, h1, h2, h3, h4⟩
            obtain ⟨h9, _⟩ := h8.step he
            have h10 := (List.cons.inj h7).1
            rw [h10] at h9
            have := ih ys (q + nxN (L.drop q)) (pre0 ++ [y]) (by simpa using hm) h9 (by simpa using h5)
            simpa using this
          · cases h7
  have := key pre.length pre 0 [] rfl (AtP.start L) (by simpa using h)
  simpa using this
theorem fits_bok {L : List Int} (hb : bok L) {pre r : List Fr} {x : Fr} (h : allF L = pre ++ x :: r) : bok x.2 := by
  have key : ∀ (k q : Nat) (M : List Int), bok M → ∀ y ∈ frs k q M, bok y.2 := by
    intro k
    induction k with
    | zero => intro q M _ y hy; rw [frs] at hy; exact absurd hy (List.not_mem_nil)
    | succ k ih =>
      intro q M hM y hy
      rw [frs] at hy
      split at hy
      · rename_i he
        rcases List.mem_cons.1 hy with rfl | h2
        · show bok (nxB M)
          unfold nxB
          rw [if_pos he]
          exact bok_take (bok_drop hM 4) _
        · exact ih _ _ (bok_drop hM _) y h2
      · exact absurd hy (List.not_mem_nil)
  exact key _ _ L hb x (by show x ∈ allF L; rw [h]; simp)
theorem allF_len (L : List Int) : (allF L).length ≤ L.length := by
  have key : ∀ (k q : Nat) (M : List Int), (frs k q M).length ≤ M.length := by
    intro k
    induction k with
    | zero => intro q M; simp [frs]
    | succ k ih =>
      intro q M
      rw [frs]
      split
      · rename_i he
        obtain ⟨h1, h2⟩ := nxN_ok he
        have := ih (q + nxN M) (M.drop (nxN M))
        rw [List.length_drop] at this
        simp only [List.length_cons]
        omega
      · simp
  exact key _ _ L
end Go.Proofs.Ytmcoinfdgidblaa.Fr
