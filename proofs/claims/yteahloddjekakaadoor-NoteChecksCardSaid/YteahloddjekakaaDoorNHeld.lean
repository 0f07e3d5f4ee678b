/-
  Moves of a walk under held cells, with the temporary written out; an operation as a list of one. No program.
-/
import Derived.Test.YteahloddjekakaaDoorNTwo
namespace Go.Proofs.YteahloddjekakaaDoor
open Go Go.RowKit

/-- Behind one operation; any other way out is the region's. -/
def thenK (Q : Exit → Act → World → Prop) (K : Act → World → Prop) : Exit → Act → World → Prop
  | .normal, a, w => K a w
  | .exit i, a, w => Q (.exit i) a w
  | .ret, a, w => Q .ret a w
  | .goto l, a, w => Q (.goto l) a w
  | .panic c, a, w => Q (.panic c) a w
  | .outgrown, a, w => Q .outgrown a w
section
variable {P : Program} {ops : Array Oper} {md : Region.Mode} {S : World → Prop}
theorem held_step {Q : Exit → Act → World → Prop} (i d : Nat) (v : Value) {oi : Oper} {fuel : Nat} {listed : Array Bool} {a : Act} {w : World} (hi : ops[i]? = some oi) (hd : oi.dst = some d) (hg : oi.guard = none)
    (hB : (Region.noSelect ops && (Region.free md ops listed i && (Region.ready md ops listed).contains i)) = true)
    (hQ : ∀ c a w, Q (.panic c) (a.put oi.dst v) w → Q (.panic c) a w) (hS : S w) (hy : ∀ w, S w → (execOp a.eval oi).run P w = .ok (.value v) w)
    (h : wpAnyH P md ops Q S fuel (listed.setIfInBounds i true) (a.put (some d) v) w) : wpAnyH P md ops Q S (fuel + 1) listed a w := by
  simp only [Bool.and_eq_true] at hB
  exact wpAnyH_take hi hB.1 hB.2.1 hB.2.2 hQ (.inl ⟨by unfold Region.wanted; rw [hg], hy⟩) hS (by rw [hd]; exact h)
theorem wpOp_of_list {Q : Exit → Act → World → Prop} {K : Act → World → Prop} {i : Nat} {o : Oper} {a : Act} {w : World} (ho : ops[i]? = some o) (h : wpList P ops (thenK Q K) [o] a w) : wpOp P ops Q i K a w := by
  unfold wpOp
  simp only [ho]
  unfold wpList at h
  split
  · rename_i hwt
    simp only [hwt, if_true] at h
    rcases h with h | ⟨ha, a1, w1, hl⟩
    · refine .inl ?_
      unfold Oper.wp at *
      generalize (execOp a.eval o).run P w = r at *
      cases r with
      | ok n w' =>
        cases n <;> simp only [Oper.upon] at h ⊢
        case value u => exact h
        case skip => exact h
        case defer d => exact h
        case enter f args =>
          refine Calls.mono h fun e w'' he => ?_
          cases e with
          | returned u => exact he
          | panicked c => exact he
          | outgrown => obtain ⟨a1, w1, hl⟩ := he; exact ⟨a1, w1, hl⟩
        case row row args => exact Rows.mono h fun u w'' he => he
      | halt x w' =>
        cases x <;> simp only [Oper.upon] at h ⊢
        case panic u => exact h
    · exact .inr ⟨ha, a1, w1, hl⟩
  · rename_i hwt
    simp only [hwt] at h
    exact h
/-- The last two, one behind the other. -/
theorem held_two {Q : Exit → Act → World → Prop} (k : Nat) {o1 o2 : Oper} {listed : Array Bool} {a : Act} {w : World} (h1 : ops[k]? = some o1) (h2 : ops[k + 1]? = some o2)
    (hB : (decide (Region.ready md ops listed = [k]) && (decide (Region.ready md ops (listed.setIfInBounds k true) = [k + 1]) && (Region.ready md ops ((listed.setIfInBounds k true).setIfInBounds (k + 1) true)).isEmpty)) = true)
    (h : wpList P ops (thenK Q fun a1 w1 => S w1 ∧ wpList P ops (thenK Q fun a2 w2 => S w2 ∧ Q .normal a2 w2) [o2] a1 w1) [o1] a w) : wpAnyH P md ops Q S 2 listed a w := by
  simp only [Bool.and_eq_true, decide_eq_true_eq, List.isEmpty_iff] at hB
  obtain ⟨r1, r2, r3⟩ := hB
  refine ⟨fun h0 => (by rw [r1] at h0; cases h0), fun i hi => ?_⟩
  rw [r1] at hi
  obtain rfl : i = k := by simpa using hi
  refine wpOp_mono (fun a1 w1 h' => ⟨h'.1, ?_⟩) (wpOp_of_list h1 h)
  refine ⟨fun h0 => (by rw [r2] at h0; cases h0), fun i hi => ?_⟩
  rw [r2] at hi
  obtain rfl : i = _ := by simpa using hi
  exact wpOp_mono (fun a2 w2 h'' => ⟨h''.1, r3, h''.2⟩) (wpOp_of_list h2 h'.2)
end
end Go.Proofs.YteahloddjekakaaDoor
