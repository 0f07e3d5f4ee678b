/-
  A region that draws its order, whose first n operations are quiet in a class of worlds and whose others all wait for the n-th: the head is walked once; behind it the others in whatever order. No program.
-/
import Derived.Test.YteahloddjekakaaDoorNHeld
namespace Go.Proofs.YteahloddjekakaaDoor
open Go Go.RowKit

section
variable {P : Program} {ops oh : Array Oper} {C : World → Prop} {md : Region.Mode}
/-- All of the head are waited for by its last one; the others wait for that one or for one another. -/
def sinkL (md : Region.Mode) (ops : Array Oper) (n : Nat) : Bool :=
  (List.range (n - 1)).all fun i => (List.range n).any fun j => decide (i < j) && Region.waitsFor md ops j i
def chainL (md : Region.Mode) (ops : Array Oper) (n : Nat) : Bool :=
  (List.range ops.size).all fun t => decide (t < n) || (List.range t).any fun u => decide (n ≤ u + 1) && Region.waitsFor md ops t u
theorem last_waits {n : Nat} {lh listed : Array Bool} (hs : sinkL md ops n = true) (hn : n ≤ ops.size) (B : Both md ops n lh listed) : ∀ (d i : Nat), n - i = d → i < n → listed.getD i true = false → listed.getD (n - 1) true = false := by
  intro d
  induction d using Nat.strongRecOn with
  | _ d ih =>
    intro i hd hi hun
    by_cases hin : i = n - 1
    · rw [← hin]; exact hun
    · obtain ⟨j, hj, hj2⟩ := List.any_eq_true.1 (List.all_eq_true.1 hs i (List.mem_range.2 (by omega)))
      simp only [Bool.and_eq_true, decide_eq_true_eq] at hj2
      obtain ⟨oj, hoj, e, he, hb, hon⟩ := Region.waitsFor_spec hj2.2
      have hjn : j < n := List.mem_range.1 hj
      cases hl : listed.getD j false with
      | true =>
        have h2 := B.inv.closed j oj hoj hl e he hb
        rw [hon, getD_both hun] at h2
        cases h2
      | false => exact ih (n - j) (by omega) j rfl hjn (getD_in (by rw [B.inv.size]; omega) hl)
theorem tail_waitsL {n : Nat} {lh listed : Array Bool} (hs : sinkL md ops n = true) (hc : chainL md ops n = true) (hn : n ≤ ops.size) (B : Both md ops n lh listed) (i : Nat) (hi : i < n) (hun : listed.getD i true = false) : ∀ t, n ≤ t → t ∉ Region.ready md ops listed := by
  intro t ht hr
  have hlast := last_waits hs hn B _ i rfl hi hun
  obtain ⟨_, ot, hot, hall⟩ := mem_ready.1 hr
  have htlt := (Array.getElem?_eq_some_iff.1 hot).1
  have h1 := List.all_eq_true.1 hc t (List.mem_range.2 htlt)
  simp only [Bool.or_eq_true, decide_eq_true_eq] at h1
  rcases h1 with h1 | h1
  · omega
  · obtain ⟨u, hu, hu2⟩ := List.any_eq_true.1 h1
    simp only [Bool.and_eq_true, decide_eq_true_eq] at hu2
    obtain ⟨o', ho', e, he, hb, hon⟩ := Region.waitsFor_spec hu2.2
    have e1 : o' = ot := Option.some.inj (ho'.symm.trans hot)
    subst e1
    have hut := List.mem_range.1 hu
    have h2 := hall e he hb
    by_cases hun1 : u = n - 1
    · rw [hon, hun1, getD_both hlast] at h2; cases h2
    · rw [hon, getD_both (B.inv.tail u (by omega) (by omega))] at h2; cases h2
theorem wpAny_of_qheadL {n g : Nat} {Q : Act → World → Prop} {Q' : Exit → Act → World → Prop} (hh : ∀ i, i < n → oh[i]? = ops[i]?) (hsz : oh.size = n) (hn : n < ops.size) (hb : backB ops n = true) (hs : sinkL md ops n = true) (hc : chainL md ops n = true)
    (hQ : ∀ lh listed a w, C w → Both md ops n lh listed → (∀ i, i < n → lh.getD i true = true) → Q a w → wpAny P md ops Q' g listed a w) :
    ∀ (f : Nat) (lh listed : Array Bool) (a : Act) (w : World), C w → Both md ops n lh listed → wpAnyQ P md oh C (fun a' => ∀ w', C w' → Q a' w') f lh a → wpAny P md ops Q' (f + g) listed a w := by
  have hdone : ∀ (lh listed : Array Bool) (a : Act) (w : World) (f : Nat), C w → Both md ops n lh listed → Region.ready md oh lh = [] → (∀ w', C w' → Q a w') → wpAny P md ops Q' (f + g) listed a w := fun lh listed a w f hw B h0 h => by
    refine wpAny_add f (hQ lh listed a w hw B (fun i hi => ?_) (h w hw))
    cases hu : lh.getD i true with
    | true => rfl
    | false =>
      obtain ⟨j, _, hj⟩ := head_ready hh hn hb B i hi hu
      rw [h0] at hj; cases hj
  intro f
  induction f with
  | zero => intro lh listed a w hw B h; exact hdone lh listed a w 0 hw B h.1 h.2
  | succ f ih =>
    intro lh listed a w hw B h
    cases h0 : Region.ready md oh lh with
    | nil => exact hdone lh listed a w (f + 1) hw B h0 (h.1 h0)
    | cons i0 r0 =>
      have hi0 : i0 ∈ Region.ready md oh lh := by rw [h0]; exact List.mem_cons_self
      have hi0n : i0 < n := by
        obtain ⟨_, o, ho, _⟩ := mem_ready.1 hi0
        have := (Array.getElem?_eq_some_iff.1 ho).1
        omega
      have hun : listed.getD i0 true = false := by rw [B.same i0 hi0n]; exact (mem_ready.1 hi0).1
      rw [show f + 1 + g = f + g + 1 by omega]
      refine ⟨fun hnil => ?_, fun i hi => ?_⟩
      · have := (ready_of_head hh hb B hi0n).1 hi0
        rw [hnil] at this; cases this
      · have hin : i < n := by
          rcases Nat.lt_or_ge i n with hlt | hge
          · exact hlt
          · exact absurd hi (tail_waitsL hs hc (Nat.le_of_lt hn) B i0 hi0n hun i hge)
        have hih := (ready_of_head hh hb B hin).2 hi
        have hq := h.2 i hih
        obtain ⟨_, o, ho, _⟩ := mem_ready.1 hi
        have hoh : oh[i]? = some o := by rw [hh i hin]; exact ho
        unfold qOp at hq
        simp only [hoh] at hq
        unfold wpOp
        simp only [ho]
        rw [wanted_head hh hb hin ho] at hq
        split
        · rename_i hwt
          simp only [hwt, if_true] at hq
          exact .inl (Oper.wp_of_quiet hw (fun a' w' hw' h' => ih _ _ a' w' hw' (B.set hin hi) h') hq)
        · rename_i hwt
          simp only [hwt] at hq
          exact ih _ _ _ w hw (B.set hin hi) hq
end

theorem held_stepG {P : Program} {ops : Array Oper} {md : Region.Mode} {S : World → Prop} {Q : Exit → Act → World → Prop} (i d : Nat) (v : Value) {oi : Oper} {fuel : Nat} {listed : Array Bool} {a : Act} {w : World} (hi : ops[i]? = some oi) (hd : oi.dst = some d) (hg : Region.wanted oi (yielded ops a.tmps) = true)
    (hB : (Region.noSelect ops && (Region.free md ops listed i && (Region.ready md ops listed).contains i)) = true)
    (hQ : ∀ c a w, Q (.panic c) (a.put oi.dst v) w → Q (.panic c) a w) (hS : S w) (hy : ∀ w, S w → (execOp a.eval oi).run P w = .ok (.value v) w)
    (h : wpAnyH P md ops Q S fuel (listed.setIfInBounds i true) (a.put (some d) v) w) : wpAnyH P md ops Q S (fuel + 1) listed a w := by
  simp only [Bool.and_eq_true] at hB
  exact wpAnyH_take hi hB.1 hB.2.1 hB.2.2 hQ (.inl ⟨hg, hy⟩) hS (by rw [hd]; exact h)
theorem wp_region_quiet_any {P : Program} {C : World → Prop} {id : Nat} {Q : Exit → Act → World → Prop} {a : Act} {w : World} {l : List Oper} (n : Nat) (hm : P.follows .mixedOrders = true) (hB : Region.lexB .any (l.take n).toArray = true)
    (hT : (decide (n < l.length) && (backB l.toArray n && (sinkL .any l.toArray n && chainL .any l.toArray n))) = true) (hC : C w.drew)
    (h : wpQuiet P (l.take n).toArray C (fun a' => ∀ w', C w' → wpAny P .any l.toArray Q (l.length - n) (Array.replicate n true ++ Array.replicate (l.length - n) false) a' w') (l.take n) a) : (Code.region id l.toArray true).wp P Q a w := by
  simp only [Bool.and_eq_true, decide_eq_true_eq] at hT
  obtain ⟨hn, hb, hs, hc⟩ := hT
  simp only [Region.lexB, Bool.and_eq_true] at hB
  have htl : (l.take n).length = n := by rw [List.length_take]; omega
  have hh : ∀ i, i < n → (l.take n).toArray[i]? = l.toArray[i]? := fun i hi => by simp [hi]
  have hlex := wpAnyQ_lex (C := C) (md := .any) hB.1 (l.take n) 0 (Array.replicate (l.take n).toArray.size false) a (by simp) (by simpa using hB.2) h
  refine wp_region_any hm ?_
  have := wpAny_of_qheadL (P := P) (ops := l.toArray) (oh := (l.take n).toArray) (C := C) (md := .any) (n := n) (g := l.length - n) (Q := fun a' w' => wpAny P .any l.toArray Q (l.length - n) (Array.replicate n true ++ Array.replicate (l.length - n) false) a' w') (Q' := Q) hh (by simpa using htl) (by simpa using hn) hb hs hc (fun lh listed a' w' _ B hall hwp => by
    have e : listed = Array.replicate n true ++ Array.replicate (l.length - n) false := by
      have hls : listed.size = l.length := by simpa using B.inv.size
      apply Array.ext (by simp; omega)
      intro i h1 h2
      rcases Nat.lt_or_ge i n with hlt | hge
      · rw [Array.getElem_append_left (by simpa using hlt), Array.getElem_replicate]
        have := hall i hlt
        rw [← B.same i hlt] at this
        simpa [h1] using this
      · rw [Array.getElem_append_right (by simpa using hge), Array.getElem_replicate]
        have := B.inv.tail i hge (by simpa using (by omega : i < l.length))
        simpa [h1] using this
    rw [e]; exact hwp) (l.take n).length (Array.replicate (l.take n).toArray.size false) (Array.replicate l.length false) a w.drew hC
    ⟨by simpa using htl, fun j hj b => by
      have h1 : j < l.length := by omega
      have h2 : min n l.length = n := by omega
      simp [h1, hj, h2], ⟨by simp, fun j oj _ hl => (by rw [getD_replicate_false] at hl; cases hl), fun t _ ht => getD_in (by simpa using ht) (getD_replicate_false _ _)⟩⟩ hlex
  rw [htl, show n + (l.length - n) = l.length by omega] at this
  simpa using this
end Go.Proofs.YteahloddjekakaaDoor
