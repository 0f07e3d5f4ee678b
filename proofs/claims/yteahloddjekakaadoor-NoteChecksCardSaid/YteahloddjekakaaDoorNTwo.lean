/-
  A region that draws its order, in two: the first n operations in whatever order; behind all of them the others, one behind the other. No program.
-/
import Derived.Test.YteahloddjekakaaDoorNTail
import Derived.OrdersHeld
namespace Go.Proofs.YteahloddjekakaaDoor
open Go Go.RowKit

/-- Behind the first operations come the others; any other way out is the region's. -/
def thenTail (P : Program) (ops : Array Oper) (Q : Exit → Act → World → Prop) (tl : List Oper) : Exit → Act → World → Prop
  | .normal, a, w => wpList P ops Q tl a w
  | .exit i, a, w => Q (.exit i) a w
  | .ret, a, w => Q .ret a w
  | .goto l, a, w => Q (.goto l) a w
  | .panic c, a, w => Q (.panic c) a w
  | .outgrown, a, w => Q .outgrown a w
section
variable {P : Program} {ops oh : Array Oper} {md : Region.Mode}
theorem wpOp_two {Q : Exit → Act → World → Prop} {tl : List Oper} {i : Nat} {o : Oper} (ho : ops[i]? = some o) (hoh : oh[i]? = some o) {a : Act} {w : World} (hw : Region.wanted o (yielded oh a.tmps) = Region.wanted o (yielded ops a.tmps)) {K K' : Act → World → Prop} (hK : ∀ a w, K a w → K' a w)
    (h : wpOp P oh (thenTail P ops Q tl) i K a w) : wpOp P ops Q i K' a w := by
  unfold wpOp at *
  simp only [ho, hoh] at *
  rw [hw] at h
  split
  · rename_i hwt
    simp only [hwt, if_true] at h
    rcases h with h | ⟨ha, a1, w1, hl⟩
    · refine .inl ?_
      unfold Oper.wp at *
      generalize (execOp a.eval o).run P w = r at *
      cases r with
      | ok n w' =>
        cases n <;> simp only [Oper.upon] at h ⊢
        case value u => exact hK _ _ h
        case skip => exact hK _ _ h
        case defer d => exact hK _ _ h
        case enter f args =>
          refine Calls.mono h fun e w'' he => ?_
          cases e with
          | returned u => exact hK _ _ he
          | panicked c => exact he
          | outgrown => obtain ⟨a1, w1, hl⟩ := he; exact ⟨a1, w1, hl⟩
        case row row args => exact Rows.mono h fun u w'' he => hK _ _ he
      | halt x w' =>
        cases x <;> simp only [Oper.upon] at h ⊢
        case panic u => exact h
    · exact .inr ⟨ha, a1, w1, hl⟩
  · rename_i hwt
    simp only [hwt] at h
    exact hK _ _ h
theorem wpAny_two {n g : Nat} {Q : Exit → Act → World → Prop} {tl : List Oper} (hh : ∀ i, i < n → oh[i]? = ops[i]?) (hn : n < ops.size) (hsz : oh.size = n) (hb : backB ops n = true) (hs : Region.sinkB md ops n = true) (hc : Region.chainB md ops n = true)
    (hQ : ∀ lh listed a w, Both md ops n lh listed → (∀ i, i < n → lh.getD i true = true) → wpList P ops Q tl a w → wpAny P md ops Q g listed a w) :
    ∀ (f : Nat) (lh listed : Array Bool) (a : Act) (w : World), Both md ops n lh listed → wpAny P md oh (thenTail P ops Q tl) f lh a w → wpAny P md ops Q (f + g) listed a w := by
  have hdone : ∀ (lh listed : Array Bool) (a : Act) (w : World) (f : Nat), Both md ops n lh listed → Region.ready md oh lh = [] → wpList P ops Q tl a w → wpAny P md ops Q (f + g) listed a w := fun lh listed a w f B h0 h => by
    refine wpAny_add f (hQ lh listed a w B (fun i hi => ?_) h)
    cases hu : lh.getD i true with
    | true => rfl
    | false =>
      obtain ⟨j, _, hj⟩ := head_ready hh hn hb B i hi hu
      rw [h0] at hj; cases hj
  intro f
  induction f with
  | zero => intro lh listed a w B h; exact hdone lh listed a w 0 B h.1 h.2
  | succ f ih =>
    intro lh listed a w B h
    cases h0 : Region.ready md oh lh with
    | nil => exact hdone lh listed a w (f + 1) B h0 (h.1 h0)
    | cons i0 r0 =>
      have hi0 : i0 ∈ Region.ready md oh lh := by rw [h0]; exact List.mem_cons_self
      have hi0n : i0 < n := by
        obtain ⟨_, o, ho, _⟩ := mem_ready.1 hi0
        have := (Array.getElem?_eq_some_iff.1 ho).1
        omega
      have hun : listed.getD i0 true = false := by rw [B.same i0 hi0n]; exact (mem_ready.1 hi0).1
      rw [show f + 1 + g = f + g + 1 by omega]
      refine ⟨fun hnil => ?_, fun i hi => ?_⟩
      · have := (ready_of_head hh hb B hi0n).1 hi0
        rw [hnil] at this; cases this
      · have hin : i < n := by
          rcases Nat.lt_or_ge i n with hlt | hge
          · exact hlt
          · exact absurd hi (tail_waits hs hc hn B.inv _ i0 rfl hi0n hun i hge)
        have hih := (ready_of_head hh hb B hin).2 hi
        obtain ⟨_, o, ho, _⟩ := mem_ready.1 hi
        have hoh : oh[i]? = some o := by rw [hh i hin]; exact ho
        exact wpOp_two ho hoh (wanted_head hh hb hin ho a.tmps) (fun a' w' h' => ih _ _ a' w' (B.set hin hi) h') (h.2 i hih)
end
theorem wp_region_two {P : Program} {id : Nat} {Q : Exit → Act → World → Prop} {a : Act} {w : World} {l : List Oper} (n : Nat) (hm : P.follows .mixedOrders = true)
    (hT : (decide (n < l.length) && (backB l.toArray n && (Region.sinkB .any l.toArray n && (Region.chainB .any l.toArray n && Region.seqB .any l.toArray (l.length - n) n (Array.replicate n true ++ Array.replicate (l.length - n) false))))) = true)
    (h : wpAny P .any (l.take n).toArray (thenTail P l.toArray Q (l.drop n)) n (Array.replicate n false) a w.drew) : (Code.region id l.toArray true).wp P Q a w := by
  simp only [Bool.and_eq_true, decide_eq_true_eq] at hT
  obtain ⟨hn, hb, hs, hc, hq⟩ := hT
  have htl : (l.take n).length = n := by rw [List.length_take]; omega
  have hdl : (l.drop n).length = l.length - n := by simp
  have hh : ∀ i, i < n → (l.take n).toArray[i]? = l.toArray[i]? := fun i hi => by simp [hi]
  refine wp_region_any hm ?_
  have := wpAny_two (P := P) (ops := l.toArray) (oh := (l.take n).toArray) (md := .any) (n := n) (g := l.length - n) (Q := Q) (tl := l.drop n) hh (by simpa using hn) (by simpa using htl) hb hs hc (fun lh listed a' w' B hall hwp => by
    have e : listed = Array.replicate n true ++ Array.replicate (l.length - n) false := by
      have hls : listed.size = l.length := by simpa using B.inv.size
      apply Array.ext (by simp; omega)
      intro i h1 h2
      rcases Nat.lt_or_ge i n with hlt | hge
      · rw [Array.getElem_append_left (by simpa using hlt), Array.getElem_replicate]
        have := hall i hlt
        rw [← B.same i hlt] at this
        simpa [h1] using this
      · rw [Array.getElem_append_right (by simpa using hge), Array.getElem_replicate]
        have := B.inv.tail i hge (by simpa using (by omega : i < l.length))
        simpa [h1] using this
    have hs2 := wpAny_of_seq (md := .any) (Q' := Q) (l.drop n) n listed a' w' (fun j => by simp [List.getElem?_drop]) (by rw [hdl, e]; exact hq) hwp
    rwa [hdl] at hs2) n (Array.replicate n false) (Array.replicate l.length false) a w.drew
    ⟨by simp, fun j hj b => by
      have h1 : j < l.length := by omega
      simp [h1, hj], ⟨by simp, fun j oj _ hl => (by rw [getD_replicate_false] at hl; cases hl), fun t _ ht => getD_in (by simpa using ht) (getD_replicate_false _ _)⟩⟩ h
  rw [show n + (l.length - n) = l.length by omega] at this
  simpa using this
end Go.Proofs.YteahloddjekakaaDoor
