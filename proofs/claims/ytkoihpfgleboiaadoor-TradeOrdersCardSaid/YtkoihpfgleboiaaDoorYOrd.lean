/-
  Trades are in one order: opposite, the same for the same alone, transitive. No program.
-/
import Derived.Test.YtkoihpfgleboiaaDoorYCmp
namespace Go.Proofs.YtkoihpfgleboiaaDoor.Td
open Go.RowKit

/-- Three comparisons of three things fit together. -/
def Tri (a b c : Int) : Prop := (a = 0 → c = b) ∧ (b = 0 → c = a) ∧ (a < 0 → b < 0 → c < 0)
theorem Tri.or {a1 b1 c1 a2 b2 c2 : Int} (h : Tri a1 b1 c1) (k : Tri a2 b2 c2) : Tri (if a1 = 0 then a2 else a1) (if b1 = 0 then b2 else b1) (if c1 = 0 then c2 else c1) := by
  obtain ⟨h1, h2, h3⟩ := h
  obtain ⟨k1, k2, k3⟩ := k
  unfold Tri
  by_cases ha : a1 = 0
  · have hc : c1 = b1 := h1 ha
    rw [if_pos ha, hc]
    by_cases hb : b1 = 0
    · rw [if_pos hb, if_pos hb]; exact ⟨k1, k2, k3⟩
    · rw [if_neg hb, if_neg hb]
      refine ⟨fun _ => rfl, fun e => absurd e hb, fun _ e => e⟩
  · rw [if_neg ha]
    by_cases hb : b1 = 0
    · have hc : c1 = a1 := h2 hb
      rw [if_pos hb, hc, if_neg ha]
      exact ⟨fun e => absurd e ha, fun _ => rfl, fun e _ => e⟩
    · rw [if_neg hb]
      refine ⟨fun e => absurd e ha, fun e => absurd e hb, fun e f => ?_⟩
      have := h3 e f
      rw [if_neg (by omega)]; exact this
theorem Tri.le {a b c : Int} (h : Tri a b c) (ha : a ≤ 0) (hb : b ≤ 0) : c ≤ 0 := by
  obtain ⟨h1, h2, h3⟩ := h
  by_cases ea : a = 0
  · rw [h1 ea]; exact hb
  · by_cases eb : b = 0
    · rw [h2 eb]; exact ha
    · have := h3 (by omega) (by omega); omega

theorem triI (x y z : Int) : Tri (cmpI x y) (cmpI y z) (cmpI x z) := by
  unfold Tri cmpI
  refine ⟨?_, ?_, ?_⟩ <;> (repeat' split) <;> intros <;> omega
theorem ltS_irr (a : ByteArray) : ltS a a = false := bl_irr _
theorem ltS_tr {a b c : ByteArray} (h : ltS a b = true) (k : ltS b c = true) : ltS a c = true := bl_tr _ _ _ h k
theorem ltS_tri {a b : ByteArray} (h : ltS a b = false) (k : ltS b a = false) : a = b := bytes_inj (bl_tri _ _ h k)
theorem ltS_asym {a b : ByteArray} (h : ltS a b = true) : ltS b a = false := by
  cases k : ltS b a
  · rfl
  · have := ltS_tr h k; rw [ltS_irr] at this; cases this
theorem cmpS_self (a : ByteArray) : cmpS a a = 0 := by unfold cmpS; rw [ltS_irr]; rfl
theorem cmpS_lt {a b : ByteArray} (h : ltS a b = true) : cmpS a b = -1 ∧ cmpS b a = 1 := by
  unfold cmpS
  rw [h, ltS_asym h]
  exact ⟨rfl, rfl⟩
theorem cmpS_cases (a b : ByteArray) : (ltS a b = true ∧ cmpS a b = -1 ∧ cmpS b a = 1) ∨ (a = b ∧ cmpS a b = 0 ∧ cmpS b a = 0) ∨ (ltS b a = true ∧ cmpS a b = 1 ∧ cmpS b a = -1) := by
  cases h : ltS a b
  · cases k : ltS b a
    · obtain rfl := ltS_tri h k
      exact .inr (.inl ⟨rfl, cmpS_self _, cmpS_self _⟩)
    · exact .inr (.inr ⟨rfl, (cmpS_lt k).2, (cmpS_lt k).1⟩)
  · exact .inl ⟨rfl, cmpS_lt h⟩
theorem triS (x y z : ByteArray) : Tri (cmpS x y) (cmpS y z) (cmpS x z) := by
  unfold Tri
  rcases cmpS_cases x y with ⟨h, h1, _⟩ | ⟨rfl, h1, _⟩ | ⟨h, h1, _⟩
  · rcases cmpS_cases y z with ⟨k, k1, _⟩ | ⟨rfl, k1, _⟩ | ⟨k, k1, _⟩
    · have := (cmpS_lt (ltS_tr h k)).1
      rw [h1, k1, this]; omega
    · rw [k1, h1]; omega
    · rw [h1, k1]; omega
  · rw [h1]
    exact ⟨fun _ => rfl, fun e => e, fun e => absurd e (by decide)⟩
  · rw [h1]
    refine ⟨fun e => absurd e (by decide), fun e => ?_, fun e => absurd e (by decide)⟩
    rcases cmpS_cases y z with ⟨k, k1, _⟩ | ⟨rfl, k1, _⟩ | ⟨k, k1, _⟩
    · rw [k1] at e; omega
    · exact h1
    · rw [k1] at e; omega

theorem cmpI_opp (a b : Int) : cmpI b a = -cmpI a b := by unfold cmpI; (repeat' split) <;> omega
theorem cmpS_opp (a b : ByteArray) : cmpS b a = -cmpS a b := by
  rcases cmpS_cases a b with ⟨_, h1, h2⟩ | ⟨_, h1, h2⟩ | ⟨_, h1, h2⟩ <;> rw [h1, h2] <;> rfl
theorem cmpI_zero {a b : Int} (h : cmpI a b = 0) : a = b := by unfold cmpI at h; (repeat' split at h) <;> omega
theorem cmpS_zero {a b : ByteArray} (h : cmpS a b = 0) : a = b := by
  rcases cmpS_cases a b with ⟨_, h1, _⟩ | ⟨e, _⟩ | ⟨_, h1, _⟩
  · rw [h1] at h; cases h
  · exact e
  · rw [h1] at h; cases h
theorem cmpI_self (a : Int) : cmpI a a = 0 := by unfold cmpI; (repeat' split) <;> omega
theorem cmpI_rng (a b : Int) : -1 ≤ cmpI a b ∧ cmpI a b ≤ 1 := cmpI_bd a b
theorem cmpS_rng (a b : ByteArray) : -1 ≤ cmpS a b ∧ cmpS a b ≤ 1 := by
  rcases cmpS_cases a b with ⟨_, h1, _⟩ | ⟨_, h1, _⟩ | ⟨_, h1, _⟩ <;> rw [h1] <;> decide

theorem orL_cons (a : Int) (l : List Int) : orL (a :: l) = if a = 0 then orL l else a := rfl
theorem tri_nil : Tri (orL []) (orL []) (orL []) := ⟨fun _ => rfl, fun _ => rfl, fun e => absurd e (by decide)⟩
theorem Tri.cons {a b c : Int} {k l m : List Int} (h : Tri a b c) (t : Tri (orL k) (orL l) (orL m)) : Tri (orL (a :: k)) (orL (b :: l)) (orL (c :: m)) := by
  rw [orL_cons, orL_cons, orL_cons]; exact Tri.or h t
theorem tcmp_tri (x y z : Tr) : Tri (tcmp x y) (tcmp y z) (tcmp x z) :=
  (triI _ _ _).cons ((triS _ _ _).cons ((triS _ _ _).cons ((triS _ _ _).cons ((triI _ _ _).cons ((triI _ _ _).cons tri_nil)))))
theorem orL_neg : ∀ l : List Int, orL (l.map fun a => -a) = -orL l
  | [] => rfl
  | a :: l => by
    rw [List.map_cons, orL_cons, orL_cons, orL_neg l]
    split <;> split <;> omega
theorem tcmp_opp (x y : Tr) : tcmp y x = -tcmp x y := by
  unfold tcmp
  rw [← orL_neg]
  unfold tlist
  simp only [List.map_cons, List.map_nil, cmpI_opp x.n y.n, cmpS_opp x.b y.b, cmpS_opp x.s y.s, cmpS_opp x.i y.i, cmpI_opp x.q y.q, cmpI_opp x.p y.p]
theorem orL_zero : ∀ {l : List Int}, orL l = 0 → ∀ a ∈ l, a = 0
  | [], _, a, h => by cases h
  | b :: l, h, a, ha => by
    rw [orL_cons] at h
    by_cases hb : b = 0
    · rw [if_pos hb] at h
      rcases List.mem_cons.1 ha with rfl | ha
      · exact hb
      · exact orL_zero h a ha
    · rw [if_neg hb] at h; exact absurd h hb
theorem tcmp_self (x : Tr) : tcmp x x = 0 := by
  unfold tcmp tlist
  simp only [cmpI_self, cmpS_self]; rfl
theorem tcmp_zero {x y : Tr} (h : tcmp x y = 0) : x = y := by
  have k := orL_zero h
  unfold tlist at k
  have e1 := cmpI_zero (k (cmpI x.n y.n) (by simp))
  have e2 := cmpS_zero (k (cmpS x.b y.b) (by simp))
  have e3 := cmpS_zero (k (cmpS x.s y.s) (by simp))
  have e4 := cmpS_zero (k (cmpS x.i y.i) (by simp))
  have e5 := cmpI_zero (k (cmpI x.q y.q) (by simp))
  have e6 := cmpI_zero (k (cmpI x.p y.p) (by simp))
  cases x; cases y
  simp only at e1 e2 e3 e4 e5 e6
  subst e1; subst e2; subst e3; subst e4; subst e5; subst e6
  rfl
theorem orL_rng : ∀ {l : List Int}, (∀ a ∈ l, -1 ≤ a ∧ a ≤ 1) → -1 ≤ orL l ∧ orL l ≤ 1
  | [], _ => by decide
  | a :: l, h => by
    rw [orL_cons]
    split
    · exact orL_rng fun b hb => h b (List.mem_cons_of_mem _ hb)
    · exact h a (List.mem_cons_self ..)
theorem tcmp_rng (x y : Tr) : -1 ≤ tcmp x y ∧ tcmp x y ≤ 1 := by
  refine orL_rng fun a ha => ?_
  unfold tlist at ha
  simp only [List.mem_cons, List.not_mem_nil, or_false] at ha
  rcases ha with rfl | rfl | rfl | rfl | rfl | rfl
  · exact cmpI_rng _ _
  · exact cmpS_rng _ _
  · exact cmpS_rng _ _
  · exact cmpS_rng _ _
  · exact cmpI_rng _ _
  · exact cmpI_rng _ _
end Go.Proofs.YtkoihpfgleboiaaDoor.Td
