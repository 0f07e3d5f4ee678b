/-
  A region that draws its order, whose first n operations are quiet in a class of worlds (calls that lay blocks among them) and whose others come one behind the other, behind all of the first n: the head is walked once, then the tail as it stands. No program.
-/
import Derived.Test.YtganokcmcdkdgaaGreatPZ19
import Derived.StillTail
namespace Go.Proofs.YtganokcmcdkdgaaGreat
open Go Go.RowKit

/-- Of the first n operations each one waits for earlier ones alone, and its guard is an earlier one's. -/
def backB (ops : Array Oper) (n : Nat) : Bool :=
  (List.range n).all fun i => match ops[i]? with
    | some o => (o.after.all fun e => decide (e.on < i)) && (match o.guard with | some (j, _) => decide (j < i) | none => true)
    | none => true
theorem backB_spec {ops : Array Oper} {n i : Nat} {o : Oper} (h : backB ops n = true) (hi : i < n) (ho : ops[i]? = some o) : (∀ e ∈ o.after, e.on < i) ∧ ∀ j b, o.guard = some (j, b) → j < i := by
  have h1 := List.all_eq_true.1 h i (List.mem_range.2 hi)
  simp only [ho, Bool.and_eq_true] at h1
  refine ⟨fun e he => ?_, fun j b hg => ?_⟩
  · have := Array.all_eq_true'.1 h1.1 e he
    simpa using this
  · have h2 := h1.2
    rw [hg] at h2
    simpa using h2

section
variable {P : Program} {ops oh : Array Oper} {C : World → Prop} {md : Region.Mode}

theorem wpAny_more {Q' : Exit → Act → World → Prop} : ∀ (f : Nat) (listed : Array Bool) (a : Act) (w : World), wpAny P md ops Q' f listed a w → wpAny P md ops Q' (f + 1) listed a w
  | 0, _, _, _, h => ⟨fun _ => h.2, fun i hi => by rw [h.1] at hi; cases hi⟩
  | f + 1, _, _, _, h => ⟨h.1, fun i hi => wpOp_mono (fun a' w' => wpAny_more f _ a' w') (h.2 i hi)⟩
theorem wpAny_add {Q' : Exit → Act → World → Prop} (f : Nat) {g : Nat} {listed : Array Bool} {a : Act} {w : World} (h : wpAny P md ops Q' g listed a w) : wpAny P md ops Q' (f + g) listed a w := by
  induction f with
  | zero => rw [Nat.zero_add]; exact h
  | succ f ih => rw [show f + 1 + g = f + g + 1 by omega]; exact wpAny_more _ _ _ _ ih
theorem yielded_head {n j : Nat} (hh : ∀ i, i < n → oh[i]? = ops[i]?) (hj : j < n) (tmps : Array Value) : yielded oh tmps j = yielded ops tmps j := by
  unfold yielded; rw [hh j hj]
theorem wanted_head {n i : Nat} {o : Oper} (hh : ∀ i, i < n → oh[i]? = ops[i]?) (hb : backB ops n = true) (hi : i < n) (ho : ops[i]? = some o) (tmps : Array Value) : Region.wanted o (yielded oh tmps) = Region.wanted o (yielded ops tmps) := by
  have h := (backB_spec hb hi ho).2
  unfold Region.wanted
  cases hg : o.guard with
  | none => rfl
  | some x =>
    obtain ⟨j, b⟩ := x
    have := h j b hg
    simp only [yielded_head hh (by omega : j < n)]

/-- The listing of the whole is that of the head, and nothing of the tail. -/
structure Both (md : Region.Mode) (ops : Array Oper) (n : Nat) (lh listed : Array Bool) : Prop where
  size : lh.size = n
  same : ∀ j, j < n → ∀ b, listed.getD j b = lh.getD j b
  inv : HeadInv md ops n listed
theorem ready_of_head {n i : Nat} {lh listed : Array Bool} (hh : ∀ i, i < n → oh[i]? = ops[i]?) (hb : backB ops n = true) (B : Both md ops n lh listed) (hi : i < n) : i ∈ Region.ready md oh lh ↔ i ∈ Region.ready md ops listed := by
  rw [mem_ready, mem_ready, hh i hi, B.same i hi]
  refine and_congr_right fun _ => ⟨fun ⟨o, ho, h⟩ => ⟨o, ho, fun e he hbe => ?_⟩, fun ⟨o, ho, h⟩ => ⟨o, ho, fun e he hbe => ?_⟩⟩
  · rw [B.same e.on (by have := (backB_spec hb hi ho).1 e he; omega)]; exact h e he hbe
  · rw [← B.same e.on (by have := (backB_spec hb hi ho).1 e he; omega)]; exact h e he hbe
/-- As long as one of the head is not listed, one of the head is ready. -/
theorem head_ready {n : Nat} {lh listed : Array Bool} (hh : ∀ i, i < n → oh[i]? = ops[i]?) (hn : n < ops.size) (hb : backB ops n = true) (B : Both md ops n lh listed) : ∀ i, i < n → lh.getD i true = false → ∃ j, j < n ∧ j ∈ Region.ready md oh lh := by
  intro i
  induction i using Nat.strongRecOn with
  | _ i ih =>
    intro hi hun
    by_cases h : ∃ j, j < i ∧ lh.getD j true = false
    · obtain ⟨j, hj, hju⟩ := h
      exact ih j hj (by omega) hju
    · refine ⟨i, hi, mem_ready.2 ⟨hun, ops[i]'(by omega), ?_, fun e he _ => ?_⟩⟩
      · rw [hh i hi]; exact Array.getElem?_eq_getElem (by omega)
      · have h1 := (backB_spec hb hi (Array.getElem?_eq_getElem (by omega))).1 e he
        cases h2 : lh.getD e.on false with
        | true => rfl
        | false => exact absurd ⟨e.on, h1, getD_in (by rw [B.size]; omega) h2⟩ h
theorem Both.set {n i : Nat} {lh listed : Array Bool} (B : Both md ops n lh listed) (hi : i < n) (hr : i ∈ Region.ready md ops listed) : Both md ops n (lh.setIfInBounds i true) (listed.setIfInBounds i true) := by
  refine ⟨by simp [B.size], fun j hj b => ?_, B.inv.set hr hi⟩
  by_cases hij : i = j
  · subst hij
    have h1 : i < lh.size := by rw [B.size]; exact hi
    have h2 : i < listed.size := by
      rw [B.inv.size]
      obtain ⟨_, o, ho, _⟩ := mem_ready.1 hr
      exact (Array.getElem?_eq_some_iff.1 ho).1
    simp [h1, h2]
  · rw [getD_set_ne b hij, getD_set_ne b hij]; exact B.same j hj b

theorem wpAny_of_qhead {n g : Nat} {Q : Act → World → Prop} {Q' : Exit → Act → World → Prop} (hh : ∀ i, i < n → oh[i]? = ops[i]?) (hsz : oh.size = n) (hn : n < ops.size) (hb : backB ops n = true) (hs : Region.sinkB md ops n = true) (hc : Region.chainB md ops n = true)
    (hQ : ∀ lh listed a w, C w → Both md ops n lh listed → (∀ i, i < n → lh.getD i true = true) → Q a w → wpAny P md ops Q' g listed a w) :
    ∀ (f : Nat) (lh listed : Array Bool) (a : Act) (w : World), C w → Both md ops n lh listed → wpAnyQ P md oh C (fun a' => ∀ w', C w' → Q a' w') f lh a → wpAny P md ops Q' (f + g) listed a w := by
  have hdone : ∀ (lh listed : Array Bool) (a : Act) (w : World) (f : Nat), C w → Both md ops n lh listed → Region.ready md oh lh = [] → (∀ w', C w' → Q a w') → wpAny P md ops Q' (f + g) listed a w := fun lh listed a w f hw B h0 h => by
    refine wpAny_add f (hQ lh listed a w hw B (fun i hi => ?_) (h w hw))
    cases hu : lh.getD i true with
    | true => rfl
    | false =>
      obtain ⟨j, _, hj⟩ := head_ready hh hn hb B i hi hu
      rw [h0] at hj; cases hj
  intro f
  induction f with
  | zero => intro lh listed a w hw B h; exact hdone lh listed a w 0 hw B h.1 h.2
  | succ f ih =>
    intro lh listed a w hw B h
    cases h0 : Region.ready md oh lh with
    | nil => exact hdone lh listed a w (f + 1) hw B h0 (h.1 h0)
    | cons i0 r0 =>
      have hi0 : i0 ∈ Region.ready md oh lh := by rw [h0]; exact List.mem_cons_self
      have hi0n : i0 < n := by
        obtain ⟨_, o, ho, _⟩ := mem_ready.1 hi0
        have := (Array.getElem?_eq_some_iff.1 ho).1
        omega
      have hun : listed.getD i0 true = false := by rw [B.same i0 hi0n]; exact (mem_ready.1 hi0).1
      rw [show f + 1 + g = f + g + 1 by omega]
      refine ⟨fun hnil => ?_, fun i hi => ?_⟩
      · have := (ready_of_head hh hb B hi0n).1 hi0
        rw [hnil] at this; cases this
      · have hin : i < n := by
          rcases Nat.lt_or_ge i n with hlt | hge
          · exact hlt
          · exact absurd hi (tail_waits hs hc hn B.inv _ i0 rfl hi0n hun i hge)
        have hih := (ready_of_head hh hb B hin).2 hi
        have hq := h.2 i hih
        obtain ⟨_, o, ho, _⟩ := mem_ready.1 hi
        have hoh : oh[i]? = some o := by rw [hh i hin]; exact ho
        unfold qOp at hq
        simp only [hoh] at hq
        unfold wpOp
        simp only [ho]
        rw [wanted_head hh hb hin ho] at hq
        split
        · rename_i hwt
          simp only [hwt, if_true] at hq
          exact .inl (Oper.wp_of_quiet hw (fun a' w' hw' h' => ih _ _ a' w' hw' (B.set hin hi) h') hq)
        · rename_i hwt
          simp only [hwt] at hq
          exact ih _ _ _ w hw (B.set hin hi) hq
end

theorem wp_region_quiet_tail {P : Program} {C : World → Prop} {id : Nat} {Q : Exit → Act → World → Prop} {a : Act} {w : World} {l : List Oper} (n : Nat) (hm : P.follows .mixedOrders = true) (hB : Region.lexB .any (l.take n).toArray = true)
    (hT : (decide (n < l.length) && (backB l.toArray n && (Region.sinkB .any l.toArray n && (Region.chainB .any l.toArray n && Region.seqB .any l.toArray (l.length - n) n (Array.replicate n true ++ Array.replicate (l.length - n) false))))) = true) (hC : C w.drew)
    (h : wpQuiet P (l.take n).toArray C (fun a' => ∀ w', C w' → wpList P l.toArray Q (l.drop n) a' w') (l.take n) a) : (Code.region id l.toArray true).wp P Q a w := by
  simp only [Bool.and_eq_true, decide_eq_true_eq] at hT
  obtain ⟨hn, hb, hs, hc, hq⟩ := hT
  simp only [Region.lexB, Bool.and_eq_true] at hB
  have htl : (l.take n).length = n := by rw [List.length_take]; omega
  have hdl : (l.drop n).length = l.length - n := by simp
  have hh : ∀ i, i < n → (l.take n).toArray[i]? = l.toArray[i]? := fun i hi => by simp [hi]
  have hlex := wpAnyQ_lex (C := C) (md := .any) hB.1 (l.take n) 0 (Array.replicate (l.take n).toArray.size false) a (by simp) (by simpa using hB.2) h
  refine wp_region_any hm ?_
  have := wpAny_of_qhead (P := P) (ops := l.toArray) (oh := (l.take n).toArray) (C := C) (md := .any) (n := n) (g := l.length - n) (Q := fun a' w' => wpList P l.toArray Q (l.drop n) a' w') (Q' := Q) hh (by simpa using htl) (by simpa using hn) hb hs hc (fun lh listed a' w' _ B hall hwp => by
    have e : listed = Array.replicate n true ++ Array.replicate (l.length - n) false := by
      have hls : listed.size = l.length := by simpa using B.inv.size
      apply Array.ext (by simp; omega)
      intro i h1 h2
      rcases Nat.lt_or_ge i n with hlt | hge
      · rw [Array.getElem_append_left (by simpa using hlt), Array.getElem_replicate]
        have := hall i hlt
        rw [← B.same i hlt] at this
        simpa [h1] using this
      · rw [Array.getElem_append_right (by simpa using hge), Array.getElem_replicate]
        have := B.inv.tail i hge (by simpa using (by omega : i < l.length))
        simpa [h1] using this
    have hs2 := wpAny_of_seq (md := .any) (Q' := Q) (l.drop n) n listed a' w' (fun j => by simp [List.getElem?_drop]) (by rw [hdl, e]; exact hq) hwp
    rwa [hdl] at hs2) (l.take n).length (Array.replicate (l.take n).toArray.size false) (Array.replicate l.length false) a w.drew hC
    ⟨by simpa using htl, fun j hj b => by
      have h1 : j < l.length := by omega
      have h2 : min n l.length = n := by omega
      simp [h1, hj, h2], ⟨by simp, fun j oj _ hl => (by rw [getD_replicate_false] at hl; cases hl), fun t _ ht => getD_in (by simpa using ht) (getD_replicate_false _ _)⟩⟩ hlex
  rw [htl, show n + (l.length - n) = l.length by omega] at this
  simpa using this
end Go.Proofs.YtganokcmcdkdgaaGreat
