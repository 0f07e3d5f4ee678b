/-
  A range over an iterator that itself ranges over one: what a round leaves alone is told of all that was made since the loop began, the loop's own book-keeping too. Conditions: the loop is no part of another one.
-/
import Derived.Test.YtklngdmpledgeaaGreatJZ2
namespace Go.Proofs.YtklngdmpledgeaaGreat.Fr
open Go.RowKit
variable {F : Fence} {n : Nat} {P : Program}

/-- The blocks of K lie as they lay. -/
def KS (K : Nat → Prop) (W W' : World) : Prop := W.heap.size ≤ W'.heap.size ∧ ∀ k, K k → k < W.heap.size → W'.heap[k]? = W.heap[k]?
theorem KS.refl (K : Nat → Prop) (W : World) : KS K W W := ⟨Nat.le_refl _, fun _ _ _ => rfl⟩
theorem KS.trans {K : Nat → Prop} {X Y Z : World} (h : KS K X Y) (k : KS K Y Z) : KS K X Z := ⟨Nat.le_trans h.1 k.1, fun i h1 h2 => (k.2 i h1 (Nat.lt_of_lt_of_le h2 h.1)).trans (h.2 i h1 h2)⟩
theorem KS.mono {K K' : Nat → Prop} {W W' : World} (h : KS K W W') (hk : ∀ k, K' k → K k) : KS K' W W' := ⟨h.1, fun k h1 h2 => h.2 k (hk k h1) h2⟩
theorem KS.of_below {K : Nat → Prop} {W W' : World} (h : Below W.heap.size W W') : KS K W W' := ⟨h.size, fun k _ h2 => h.block k h2⟩
theorem KS.set {K : Nat → Prop} {W : World} {p : Addr} (h : ¬ K p.block) (u : Value) : KS K W (W.setCell p u) := ⟨by simp [World.setCell], fun k h1 _ => Below.heap_setCell _ _ _ _ (fun e => h (by rw [← e]; exact h1))⟩
theorem KS.put {K : Nat → Prop} (W : World) {l : Nat} (o : Obj) (h : ¬ K l) : KS K W (W.putObj l o) := ⟨by simp, fun k h1 _ => World.putObj_heap_other (fun e => h (by rw [← e]; exact h1))⟩
/-- A frame: where it begins, and its body. -/
abbrev Fr := Nat × List Int

/-- How a round may be left. -/
def oPost (K K' : Nat → Prop) (I : List Fr → World → Prop) (Ix : Code → List Fr → World → Prop) (xs : List Fr) (W : World) : Exit → Act → World → Prop
  | .normal, _, W' => KS K W W' ∧ I xs W'
  | .ret, _, W' => KS K' W W' ∧ Ix .ret xs W'
  | .exit id, _, W' => KS K' W W' ∧ Ix (.exit id) xs W'
  | .goto t, _, W' => KS K' W W' ∧ Ix (.goto t) xs W'
  | .panic _, _, _ => False
  | .outgrown, _, _ => False
/-- An iterator's contract: it gives the frames S, to rounds that leave the blocks of K alone. -/
def OSeq (F : Fence) (n : Nat) (P : Program) (g : Nat) (lb : Array Value) (K : Nat → Prop) (S : List Fr) (w : World) : Prop :=
  ∀ (l : Nat) (J Jx : List Fr → World → Prop) (W : World), Below w.heap.size w W → OwnFrom W.heap.size J → OwnFrom W.heap.size Jx →
    (∀ pre x v W1, J pre W1 → BAt W1 v x.2 → (∃ r, S = pre ++ x :: r) → YieldAt F (n - 1) P l #[.int .i64 (x.1 : Int), v] W1 fun e W' =>
      (e = .returned (.bool true) ∧ J (pre ++ [x]) W' ∧ KS K W1 W') ∨ (e = .returned (.bool false) ∧ Jx (pre ++ [x]) W' ∧ KS (fun k => W.heap.size ≤ k) W1 W')) →
    J [] W →
    CallsIn F n P g (#[.func (.yield l) #[] #[]] ++ lb) W fun e W' => (∃ v, e = .returned v) ∧ (J S W' ∨ (∃ pre, (∃ r, S = pre ++ r) ∧ Jx pre W'))
theorem BAt.put {w : World} {v : Value} {l : List Int} {k : Nat} {r : Loop} {o : Obj} (h : BAt w v l) (hk : w.heap[k]? = some (.loop r)) : BAt (w.putObj k o) v l := by
  obtain ⟨A, cap, h1, h2, h3⟩ := h
  refine ⟨A, cap, h1, h2, fun hp => ?_⟩
  obtain ⟨g, o, h4, h5, h6⟩ := h3 hp
  refine ⟨g, o, h4, by simpa using h5, fun i hi => ?_⟩
  have hne : g ≠ k := fun e => by
    have h7 := h6 i hi
    simp only [World.cell?] at h7
    rw [e, hk] at h7
    cases h7
  have h8 := h6 i hi
  simp only [World.cell?] at h8 ⊢
  rw [World.putObj_heap_other hne]
  exact h8

theorem range_o {g : Operand} {ps : Array Tmp} {assign body : Code} {Q : Exit → Act → World → Prop} {a : Act} {w : World}
    (hro : F.round = none) (h1 : 1 ≤ n) {gf : Nat} {lb : Array Value} (hg : a.eval g = .func (.func gf) #[] lb) (hFg : F.fn gf) (eg : ∀ args w, (callFunc gf args).run P w = .ok (.enter gf args) w)
    {K K' : Nat → Prop} (hKK : ∀ k, w.heap.size ≤ k → K k) (hKK' : ∀ k, w.heap.size ≤ k → K' k) {S : List Fr}
    (hseq : OSeq F (n - 1) P gf lb K S w) (hps : ps.size = 2)
    (I : List Fr → World → Prop) (Ix : Code → List Fr → World → Prop) (hI : OwnFrom w.heap.size I) (hIx : ∀ c, OwnFrom w.heap.size (Ix c)) (h0 : I [] w) (a₁ : Fr → Value → Act)
    (hassign : ∀ (l : Nat) (x : Fr) (v : Value) (W : World) (K : Act → World → Prop), K (a₁ x v) W → assign.wpIn (F.inRound l) (n - 1 - 1) P (Exit.then K (fun _ _ _ => False)) { tmps := (ps.zip #[.int .i64 (x.1 : Int), v]).foldl (fun t (p, v) => t.setIfInBounds p v) a.tmps, defers := [] } W)
    (hbody : ∀ (l : Nat) (pre : List Fr) (x : Fr) (v : Value) (W : World), I pre W → BAt W v x.2 → (∃ r, S = pre ++ x :: r) → body.wpIn (F.inRound l) (n - 1 - 1) P (oPost K K' I Ix (pre ++ [x]) W) (a₁ x v) W)
    (hdone : ∀ (D : Nat) (W : World), w.heap.size ≤ D → I S W → W.heap[D]? = some (.deferred (some [])) → Q .normal { a with defers := { target := .collected D, args := #[] } :: a.defers } W)
    (hstop : ∀ (D : Nat) (c : Code) (pre r : List Fr) (W : World), w.heap.size ≤ D → S = pre ++ r → Ix c pre W → W.heap[D]? = some (.deferred (some [])) → c.wpIn F n P Q { a with defers := { target := .collected D, args := #[] } :: a.defers } W) :
    (Code.rangeFunc g ps assign body).wpIn F n P Q a w := by
  refine wpIn_rangeFunc fun fn hfn => ?_
  rw [hro]
  obtain ⟨D, hD⟩ : ∃ D, D = w.heap.size := ⟨_, rfl⟩
  obtain ⟨rc, hrc⟩ : ∃ rc : LoopState → Option Code → Loop, rc = fun st pe => { state := st, pending := pe, fn, tmps := a.tmps, params := ps, assign, body, defers := w.heap.size } := ⟨_, rfl⟩
  have hpar : ∀ st pe, (rc st pe).params = ps := fun st pe => by rw [hrc]
  obtain ⟨W1, hW1⟩ : ∃ W1, W1 = (w.alloc (.deferred (some []))).alloc (.loop (rc .ready none)) := ⟨_, rfl⟩
  have hsz : W1.heap.size = D + 1 + 1 := by rw [hW1, hD]; simp
  have hL : W1.heap[D + 1]? = some (.loop (rc .ready none)) := by
    have := World.alloc_heap_new (w.alloc (.deferred (some []))) (.loop (rc .ready none))
    rw [World.size_alloc, ← hD] at this
    rw [hW1]; exact this
  have hK : W1.heap[D]? = some (.deferred (some [])) := by
    have := World.alloc_heap_new w (.deferred (some []))
    rw [← hD] at this
    rw [hW1]
    exact (Below.heap_alloc _ _ _ (by simp; omega)).trans this
  have hI1 : I [] W1 := by rw [hW1]; exact hI.alloc _ (hI.alloc _ h0)
  have hb1 : Below w.heap.size w W1 := by rw [hW1]; exact ((Below.refl _ w).alloc (Nat.le_refl _) _).alloc (by simp) _
  refine ⟨D + 1, [{ target := .collected D, args := #[] }], W1, { target := .fn (.func gf) lb, args := #[.func (.yield (D + 1)) #[] #[]] }, W1, gf, #[.func (.yield (D + 1)) #[] #[]] ++ lb, W1, ?_, ?_, ?_, ?_, fun _ => h1, ?_⟩
  · rw [hW1, hrc, hD]; exact run_enterLoop_outer _ _ _ _ _
  · simp only [resolve, hg]
    simp [go_sem]
  · intro f' hf'
    simp [Target.leads] at hf'
    subst hf'
    exact hFg
  · simp [invoke, go_sem, eg]
  -- what is kept beside the caller's own
  have keep : ∀ {A C : World} {row : Option Nat} {k : Nat} {o : Obj}, A.grownBy C row → (∀ r, row = some r → W1.heap.size ≤ r ∧ ∃ o : Obj, A.heap[r]? = some o ∧ o.isCells = false) → k < D + 2 → A.heap[k]? = some o → C.heap[k]? = some o := fun hgr hr hk ho =>
    (hgr.block _ (Array.getElem?_eq_some_iff.1 ho).1 (fun e => by have := (hr _ e.symm).1; omega)).trans ho
  have weak : ∀ {A : World} {row : Option Nat}, (∀ r, row = some r → W1.heap.size ≤ r ∧ ∃ o : Obj, A.heap[r]? = some o ∧ o.isCells = false) → ∀ r, row = some r → w.heap.size ≤ r ∧ ∃ o : Obj, A.heap[r]? = some o ∧ o.isCells = false := fun hr r e => ⟨by have := (hr r e).1; omega, (hr r e).2⟩
  refine (hseq (D + 1)
    (fun pre W => I pre W ∧ W.heap[D + 1]? = some (.loop (rc .ready none)) ∧ W.heap[D]? = some (.deferred (some [])))
    (fun pre W => ∃ c, Ix c pre W ∧ W.heap[D + 1]? = some (.loop (rc .done (some c))) ∧ W.heap[D]? = some (.deferred (some [])))
    W1 hb1
    (fun s A C row hs hgr hr => ⟨hI s A C row hs.1 hgr (weak hr), keep hgr hr (by omega) hs.2.1, keep hgr hr (by omega) hs.2.2⟩)
    (fun s A C row ⟨c, hc, h2, h3⟩ hgr hr => ⟨c, hIx c s A C row hc hgr (weak hr), keep hgr hr (by omega) h2, keep hgr hr (by omega) h3⟩)
    ?_ ⟨hI1, hL, hK⟩).mono ?_
  · -- one round
    rintro pre x v W ⟨hi, hl, hk⟩ hok hfit
    have hlt : D + 1 < W.heap.size := (Array.getElem?_eq_some_iff.1 hl).1
    have hy := run_yield (P := P) (args := #[.int .i64 (x.1 : Int), v]) hl (by rw [hpar, hps]; rfl)
    have hfn' : (rc .ready none).fn = fn := by rw [hrc]
    have hta : (rc .ready none).tmps = a.tmps := by rw [hrc]
    have has : (rc .ready none).assign = assign := by rw [hrc]
    have hbo : (rc .ready none).body = body := by rw [hrc]
    rw [hpar, hfn', hta, has, hbo] at hy
    refine ⟨fn, _, assign, body, hy, roundIn_of_wpIn hfn (hassign _ x v W _ ?_)⟩
    clear hy
    have hst : (rc .ready none).state = .ready := by rw [hrc]
    have hbz : ({ rc .ready none with state := .busy } : Loop) = rc .busy none := by rw [hrc]
    refine ⟨_, run_beginRound hl hst, ?_⟩
    rw [hbz]
    have hl2 : (W.putObj (D + 1) (.loop (rc .busy none))).heap[D + 1]? = some (.loop (rc .busy none)) := World.putObj_heap_same hlt
    have hk2 : (W.putObj (D + 1) (.loop (rc .busy none))).heap[D]? = some (.deferred (some [])) := (World.putObj_heap_other (by omega)).trans hk
    have hi2 : I pre (W.putObj (D + 1) (.loop (rc .busy none))) := hI.putObj _ hi (by omega) hl rfl
    refine wpIn_mono (hbody _ pre x v _ hi2 (hok.put hl) hfit) ?_
    -- the round's end
    have fin : ∀ (j : Option Code) (K0 : Nat → Prop) (W3 : World), (∀ k, w.heap.size ≤ k → K0 k) → KS K0 (W.putObj (D + 1) (.loop (rc .busy none))) W3 →
        (Instr.endRound (D + 1) j).run P W3 = .ok (.bool j.isNone) (W3.putObj (D + 1) (.loop (rc (if j.isNone then .ready else .done) j))) ∧
        W3.heap[D + 1]? = some (.loop (rc .busy none)) ∧
        (W3.putObj (D + 1) (.loop (rc (if j.isNone then .ready else .done) j))).heap[D + 1]? = some (.loop (rc (if j.isNone then .ready else .done) j)) ∧
        (W3.putObj (D + 1) (.loop (rc (if j.isNone then .ready else .done) j))).heap[D]? = some (.deferred (some [])) ∧
        KS (fun k => W1.heap.size ≤ k) W (W3.putObj (D + 1) (.loop (rc (if j.isNone then .ready else .done) j))) := fun j K0 W3 hk0 hk3 => by
      have hl3 : W3.heap[D + 1]? = some (.loop (rc .busy none)) := (hk3.2 _ (hk0 _ (by omega)) (by simp; omega)).trans hl2
      have hk4 : W3.heap[D]? = some (.deferred (some [])) := (hk3.2 _ (hk0 _ (by omega)) (by simp; omega)).trans hk2
      have hr := run_endRound (P := P) j hl3
      have e : ({ rc .busy none with state := if j.isNone then .ready else .done, pending := j } : Loop) = rc (if j.isNone then .ready else .done) j := by rw [hrc]
      rw [e] at hr
      exact ⟨hr, hl3, World.putObj_heap_same (Array.getElem?_eq_some_iff.1 hl3).1, (World.putObj_heap_other (by omega)).trans hk4,
        ((KS.put W _ (by omega)).trans (hk3.mono (fun k hk => hk0 k (by omega)))).trans (KS.put W3 _ (by omega))⟩
    rintro e a3 W3 hp
    cases e with
    | normal =>
      obtain ⟨hk3, hi3⟩ := hp
      obtain ⟨hr, hl3, hl4, hk4, _⟩ := fin none K W3 hKK hk3
      refine ⟨_, _, hr, .inl ⟨rfl, ⟨hI.putObj _ hi3 (by omega) hl3 rfl, hl4, hk4⟩, ?_⟩⟩
      refine ⟨Nat.le_trans (by simpa using hk3.1) (by simp), fun k h2 h3 => ?_⟩
      by_cases hkd : k = D + 1
      · subst hkd; exact hl4.trans hl.symm
      · exact (World.putObj_heap_other hkd).trans ((hk3.2 k h2 (by simpa using h3)).trans (World.putObj_heap_other hkd))
    | ret =>
      obtain ⟨hk3, hi3⟩ := hp
      obtain ⟨hr, hl3, hl4, hk4, hk5⟩ := fin (some .ret) K' W3 hKK' hk3
      exact ⟨_, _, hr, .inr ⟨rfl, ⟨.ret, (hIx _).putObj _ hi3 (by omega) hl3 rfl, hl4, hk4⟩, hk5⟩⟩
    | exit id =>
      obtain ⟨hk3, hi3⟩ := hp
      obtain ⟨hr, hl3, hl4, hk4, hk5⟩ := fin (some (.exit id)) K' W3 hKK' hk3
      exact ⟨_, _, hr, .inr ⟨rfl, ⟨.exit id, (hIx _).putObj _ hi3 (by omega) hl3 rfl, hl4, hk4⟩, hk5⟩⟩
    | goto t =>
      obtain ⟨hk3, hi3⟩ := hp
      obtain ⟨hr, hl3, hl4, hk4, hk5⟩ := fin (some (.goto t)) K' W3 hKK' hk3
      exact ⟨_, _, hr, .inr ⟨rfl, ⟨.goto t, (hIx _).putObj _ hi3 (by omega) hl3 rfl, hl4, hk4⟩, hk5⟩⟩
    | panic ch => exact hp.elim
    | outgrown => exact hp.elim
  · -- behind the iterator
    have hnb : ∀ st pe, st ≠ LoopState.busy → (rc st pe).state ≠ .busy := fun st pe h => by rw [hrc]; exact h
    have hpe : ∀ st pe, (rc st pe).pending = pe := fun st pe => by rw [hrc]
    rintro e W2 ⟨⟨v, rfl⟩, (⟨hi, hl, hk⟩ | ⟨pre, ⟨r, hSp⟩, c, hi, hl, hk⟩)⟩
    · have hr := run_endLoop (P := P) hl (hnb _ _ (by decide))
      rw [hpe] at hr
      rw [hD] at hl hk hr ⊢
      exact ⟨none, _, hr, hdone _ _ (Nat.le_refl _) (hI.putObj _ hi (by omega) hl rfl) ((World.putObj_heap_other (by omega)).trans hk)⟩
    · have hr := run_endLoop (P := P) hl (hnb _ _ (by decide))
      rw [hpe] at hr
      rw [hD] at hl hk hr ⊢
      exact ⟨some c, _, hr, hstop _ c pre r _ (Nat.le_refl _) hSp ((hIx c).putObj _ hi (by omega) hl rfl) ((World.putObj_heap_other (by omega)).trans hk)⟩
end Go.Proofs.YtklngdmpledgeaaGreat.Fr

namespace Go.Proofs.YtklngdmpledgeaaGreat.Jo
open Go.RowKit Fr
variable {F : Fence} {n : Nat} {P : Program} {α β : Type}

/-- What is left alone in one state is left alone in the next. -/
def Goes (K K' : Nat → Prop) (W : World) : Prop := ∀ k, K k → k < W.heap.size → K' k
/-- How a round may be left. -/
def gPost (B : Nat) (seen : β → List α) (K : β → Nat → Prop) (I : β → World → Prop) (Ix : Code → β → World → Prop) (s : β) (x : α) (W : World) : Exit → Act → World → Prop
  | .normal, _, W' => KS (K s) W W' ∧ ∃ s', seen s' = seen s ++ [x] ∧ I s' W' ∧ Goes (K s) (K s') W
  | .ret, _, W' => KS (fun k => K s k ∧ B ≤ k) W W' ∧ ∃ s', seen s' = seen s ++ [x] ∧ Ix .ret s' W'
  | .exit id, _, W' => KS (fun k => K s k ∧ B ≤ k) W W' ∧ ∃ s', seen s' = seen s ++ [x] ∧ Ix (.exit id) s' W'
  | .goto t, _, W' => KS (fun k => K s k ∧ B ≤ k) W W' ∧ ∃ s', seen s' = seen s ++ [x] ∧ Ix (.goto t) s' W'
  | .panic _, _, _ => False
  | .outgrown, _, _ => False
/-- An iterator's contract: it gives S, to rounds that leave the blocks of K alone. -/
def GSeq (seen : β → List α) (K : β → Nat → Prop) (C : (Nat → Prop) → Prop) (E : (β → World → Prop) → Nat → Prop) (key : α → Int) (R : (Nat → Prop) → α → Value → World → Prop) (F : Fence) (n : Nat) (P : Program) (g : Nat) (lb : Array Value) (S : List α) (w : World) : Prop :=
  ∀ (l : Nat) (J Jx : β → World → Prop) (W : World), Below w.heap.size w W → OwnFrom W.heap.size J → OwnFrom W.heap.size Jx →
    (∀ s W', J s W' → ∀ k, W'.heap.size ≤ k → K s k) → E J W.heap.size →
    (∀ s x v W1, J s W1 → R (K s) x v W1 → (∃ r, S = seen s ++ x :: r) → YieldAt F (n - 1) P l #[.int .i64 (key x), v] W1 fun e W' =>
      (e = .returned (.bool true) ∧ KS (K s) W1 W' ∧ ∃ s', seen s' = seen s ++ [x] ∧ J s' W' ∧ Goes (K s) (K s') W1) ∨ (e = .returned (.bool false) ∧ KS (fun k => K s k ∧ W.heap.size ≤ k) W1 W' ∧ ∃ s', seen s' = seen s ++ [x] ∧ Jx s' W')) →
    ∀ s0, seen s0 = [] → J s0 W → C (K s0) →
    CallsIn F n P g (#[.func (.yield l) #[] #[]] ++ lb) W fun e W' => (∃ v, e = .returned v) ∧ ((∃ s, seen s = S ∧ J s W') ∨ (∃ s, (∃ r, S = seen s ++ r) ∧ Jx s W'))
theorem range_g {seen : β → List α} {K : β → Nat → Prop} {C : (Nat → Prop) → Prop} {E : (β → World → Prop) → Nat → Prop} {key : α → Int} {R : (Nat → Prop) → α → Value → World → Prop} (hput : ∀ {Kx : Nat → Prop} {x : α} {v : Value} {W : World} {k : Nat} {r : Loop} {o : Obj}, R Kx x v W → W.heap[k]? = some (.loop r) → R Kx x v (W.putObj k o)) {g : Operand} {ps : Array Tmp} {assign body : Code} {Q : Exit → Act → World → Prop} {a : Act} {w : World}
    (hro : F.round = none) (h1 : 1 ≤ n) {gf : Nat} {lb : Array Value} (hg : a.eval g = .func (.func gf) #[] lb) (hFg : F.fn gf) (eg : ∀ args w, (callFunc gf args).run P w = .ok (.enter gf args) w)
    {B : Nat} (hB : B ≤ w.heap.size) {S : List α}
    (hseq : GSeq seen K C E key R F (n - 1) P gf lb S w) (hps : ps.size = 2)
    (I : β → World → Prop) (Ix : Code → β → World → Prop) (hI : OwnFrom w.heap.size I) (hIx : ∀ c, OwnFrom w.heap.size (Ix c)) (hIK : ∀ s W, I s W → ∀ k, W.heap.size ≤ k → K s k) (hE : ∀ (D : Nat) (o1 o2 : Obj), o1.isCells = false → o2.isCells = false → w.heap.size ≤ D → E (fun s W => I s W ∧ W.heap[D + 1]? = some o1 ∧ W.heap[D]? = some o2 ∧ K s D ∧ K s (D + 1)) (D + 1 + 1)) (s0 : β) (hs0 : seen s0 = []) (h0 : I s0 w) (hC : C (K s0)) (a₁ : α → Value → Act)
    (hassign : ∀ (l : Nat) (x : α) (v : Value) (W : World) (K : Act → World → Prop), K (a₁ x v) W → assign.wpIn (F.inRound l) (n - 1 - 1) P (Exit.then K (fun _ _ _ => False)) { tmps := (ps.zip #[.int .i64 (key x), v]).foldl (fun t (p, v) => t.setIfInBounds p v) a.tmps, defers := [] } W)
    (hbody : ∀ (l : Nat) (s : β) (x : α) (v : Value) (W : World), I s W → R (K s) x v W → (∃ r, S = seen s ++ x :: r) → body.wpIn (F.inRound l) (n - 1 - 1) P (gPost B seen K I Ix s x W) (a₁ x v) W)
    (hdone : ∀ (D : Nat) (s : β) (W : World), w.heap.size ≤ D → seen s = S → I s W → W.heap[D]? = some (.deferred (some [])) → Q .normal { a with defers := { target := .collected D, args := #[] } :: a.defers } W)
    (hstop : ∀ (D : Nat) (c : Code) (s : β) (r : List α) (W : World), w.heap.size ≤ D → S = seen s ++ r → Ix c s W → W.heap[D]? = some (.deferred (some [])) → c.wpIn F n P Q { a with defers := { target := .collected D, args := #[] } :: a.defers } W) :
    (Code.rangeFunc g ps assign body).wpIn F n P Q a w := by
  refine wpIn_rangeFunc fun fn hfn => ?_
  rw [hro]
  obtain ⟨D, hD⟩ : ∃ D, D = w.heap.size := ⟨_, rfl⟩
  obtain ⟨rc, hrc⟩ : ∃ rc : LoopState → Option Code → Loop, rc = fun st pe => { state := st, pending := pe, fn, tmps := a.tmps, params := ps, assign, body, defers := w.heap.size } := ⟨_, rfl⟩
  have hpar : ∀ st pe, (rc st pe).params = ps := fun st pe => by rw [hrc]
  obtain ⟨W1, hW1⟩ : ∃ W1, W1 = (w.alloc (.deferred (some []))).alloc (.loop (rc .ready none)) := ⟨_, rfl⟩
  have hsz : W1.heap.size = D + 1 + 1 := by rw [hW1, hD]; simp
  have hL : W1.heap[D + 1]? = some (.loop (rc .ready none)) := by
    have := World.alloc_heap_new (w.alloc (.deferred (some []))) (.loop (rc .ready none))
    rw [World.size_alloc, ← hD] at this
    rw [hW1]; exact this
  have hK : W1.heap[D]? = some (.deferred (some [])) := by
    have := World.alloc_heap_new w (.deferred (some []))
    rw [← hD] at this
    rw [hW1]
    exact (Below.heap_alloc _ _ _ (by simp; omega)).trans this
  have hI1 : I s0 W1 := by rw [hW1]; exact hI.alloc _ (hI.alloc _ h0)
  have hb1 : Below w.heap.size w W1 := by rw [hW1]; exact ((Below.refl _ w).alloc (Nat.le_refl _) _).alloc (by simp) _
  refine ⟨D + 1, [{ target := .collected D, args := #[] }], W1, { target := .fn (.func gf) lb, args := #[.func (.yield (D + 1)) #[] #[]] }, W1, gf, #[.func (.yield (D + 1)) #[] #[]] ++ lb, W1, ?_, ?_, ?_, ?_, fun _ => h1, ?_⟩
  · rw [hW1, hrc, hD]; exact run_enterLoop_outer _ _ _ _ _
  · simp only [resolve, hg]
    simp [go_sem]
  · intro f' hf'
    simp [Target.leads] at hf'
    subst hf'
    exact hFg
  · simp [invoke, go_sem, eg]
  -- what is kept beside the caller's own
  have keep : ∀ {A C : World} {row : Option Nat} {k : Nat} {o : Obj}, A.grownBy C row → (∀ r, row = some r → W1.heap.size ≤ r ∧ ∃ o : Obj, A.heap[r]? = some o ∧ o.isCells = false) → k < D + 2 → A.heap[k]? = some o → C.heap[k]? = some o := fun hgr hr hk ho =>
    (hgr.block _ (Array.getElem?_eq_some_iff.1 ho).1 (fun e => by have := (hr _ e.symm).1; omega)).trans ho
  have weak : ∀ {A : World} {row : Option Nat}, (∀ r, row = some r → W1.heap.size ≤ r ∧ ∃ o : Obj, A.heap[r]? = some o ∧ o.isCells = false) → ∀ r, row = some r → w.heap.size ≤ r ∧ ∃ o : Obj, A.heap[r]? = some o ∧ o.isCells = false := fun hr r e => ⟨by have := (hr r e).1; omega, (hr r e).2⟩
  refine (hseq (D + 1)
    (fun s W => I s W ∧ W.heap[D + 1]? = some (.loop (rc .ready none)) ∧ W.heap[D]? = some (.deferred (some [])) ∧ K s D ∧ K s (D + 1))
    (fun s W => ∃ c, Ix c s W ∧ W.heap[D + 1]? = some (.loop (rc .done (some c))) ∧ W.heap[D]? = some (.deferred (some [])))
    W1 hb1
    (fun s A C row hs hgr hr => ⟨hI s A C row hs.1 hgr (weak hr), keep hgr hr (by omega) hs.2.1, keep hgr hr (by omega) hs.2.2.1, hs.2.2.2⟩)
    (fun s A C row ⟨c, hc, h2, h3⟩ hgr hr => ⟨c, hIx c s A C row hc hgr (weak hr), keep hgr hr (by omega) h2, keep hgr hr (by omega) h3⟩)
    (fun s W' h => hIK s W' h.1) (by rw [hsz]; exact hE D _ _ rfl rfl (by omega))
    ?_ s0 hs0 ⟨hI1, hL, hK, hIK s0 w h0 D (by omega), hIK s0 w h0 (D + 1) (by omega)⟩ hC).mono ?_
  · -- one round
    rintro s x v W ⟨hi, hl, hk, kd0, kd1⟩ hok hfit
    have hlt : D + 1 < W.heap.size := (Array.getElem?_eq_some_iff.1 hl).1
    have hy := run_yield (P := P) (args := #[.int .i64 (key x), v]) hl (by rw [hpar, hps]; rfl)
    have hfn' : (rc .ready none).fn = fn := by rw [hrc]
    have hta : (rc .ready none).tmps = a.tmps := by rw [hrc]
    have has : (rc .ready none).assign = assign := by rw [hrc]
    have hbo : (rc .ready none).body = body := by rw [hrc]
    rw [hpar, hfn', hta, has, hbo] at hy
    refine ⟨fn, _, assign, body, hy, roundIn_of_wpIn hfn (hassign _ x v W _ ?_)⟩
    clear hy
    have hst : (rc .ready none).state = .ready := by rw [hrc]
    have hbz : ({ rc .ready none with state := .busy } : Loop) = rc .busy none := by rw [hrc]
    refine ⟨_, run_beginRound hl hst, ?_⟩
    rw [hbz]
    have hl2 : (W.putObj (D + 1) (.loop (rc .busy none))).heap[D + 1]? = some (.loop (rc .busy none)) := World.putObj_heap_same hlt
    have hk2 : (W.putObj (D + 1) (.loop (rc .busy none))).heap[D]? = some (.deferred (some [])) := (World.putObj_heap_other (by omega)).trans hk
    have hi2 : I s (W.putObj (D + 1) (.loop (rc .busy none))) := hI.putObj _ hi (by omega) hl rfl
    refine wpIn_mono (hbody _ s x v _ hi2 (hput hok hl) hfit) ?_
    -- the round's end
    have fin : ∀ (j : Option Code) (K0 : Nat → Prop) (W3 : World), K0 D → K0 (D + 1) → KS K0 (W.putObj (D + 1) (.loop (rc .busy none))) W3 →
        (Instr.endRound (D + 1) j).run P W3 = .ok (.bool j.isNone) (W3.putObj (D + 1) (.loop (rc (if j.isNone then .ready else .done) j))) ∧
        W3.heap[D + 1]? = some (.loop (rc .busy none)) ∧
        (W3.putObj (D + 1) (.loop (rc (if j.isNone then .ready else .done) j))).heap[D + 1]? = some (.loop (rc (if j.isNone then .ready else .done) j)) ∧
        (W3.putObj (D + 1) (.loop (rc (if j.isNone then .ready else .done) j))).heap[D]? = some (.deferred (some [])) ∧
        KS (fun k => K0 k ∧ W1.heap.size ≤ k) W (W3.putObj (D + 1) (.loop (rc (if j.isNone then .ready else .done) j))) := fun j K0 W3 k0 k1 hk3 => by
      have hl3 : W3.heap[D + 1]? = some (.loop (rc .busy none)) := (hk3.2 _ k1 (by simp; omega)).trans hl2
      have hk4 : W3.heap[D]? = some (.deferred (some [])) := (hk3.2 _ k0 (by simp; omega)).trans hk2
      have hr := run_endRound (P := P) j hl3
      have e : ({ rc .busy none with state := if j.isNone then .ready else .done, pending := j } : Loop) = rc (if j.isNone then .ready else .done) j := by rw [hrc]
      rw [e] at hr
      exact ⟨hr, hl3, World.putObj_heap_same (Array.getElem?_eq_some_iff.1 hl3).1, (World.putObj_heap_other (by omega)).trans hk4,
        ((KS.put W _ (by omega)).trans (hk3.mono (fun k hk => hk.1))).trans (KS.put W3 _ (by omega))⟩
    rintro e a3 W3 hp
    cases e with
    | normal =>
      obtain ⟨hk3, s', hs', hi3, hgo⟩ := hp
      obtain ⟨hr, hl3, hl4, hk4, _⟩ := fin none (K s) W3 kd0 kd1 hk3
      refine ⟨_, _, hr, .inl ⟨rfl, ?_, s', hs', ⟨hI.putObj _ hi3 (by omega) hl3 rfl, hl4, hk4, hgo D kd0 (by simp; omega), hgo (D + 1) kd1 (by simp; omega)⟩, fun k h2 h3 => hgo k h2 (by simpa using h3)⟩⟩
      refine ⟨Nat.le_trans (by simpa using hk3.1) (by simp), fun k h2 h3 => ?_⟩
      by_cases hkd : k = D + 1
      · subst hkd; exact hl4.trans hl.symm
      · exact (World.putObj_heap_other hkd).trans ((hk3.2 k h2 (by simpa using h3)).trans (World.putObj_heap_other hkd))
    | ret =>
      obtain ⟨hk3, s', hs', hi3⟩ := hp
      obtain ⟨hr, hl3, hl4, hk4, hk5⟩ := fin (some .ret) _ W3 ⟨kd0, by omega⟩ ⟨kd1, by omega⟩ hk3
      exact ⟨_, _, hr, .inr ⟨rfl, hk5.mono fun k h => ⟨⟨h.1, by omega⟩, h.2⟩, s', hs', .ret, (hIx _).putObj _ hi3 (by omega) hl3 rfl, hl4, hk4⟩⟩
    | exit id =>
      obtain ⟨hk3, s', hs', hi3⟩ := hp
      obtain ⟨hr, hl3, hl4, hk4, hk5⟩ := fin (some (.exit id)) _ W3 ⟨kd0, by omega⟩ ⟨kd1, by omega⟩ hk3
      exact ⟨_, _, hr, .inr ⟨rfl, hk5.mono fun k h => ⟨⟨h.1, by omega⟩, h.2⟩, s', hs', .exit id, (hIx _).putObj _ hi3 (by omega) hl3 rfl, hl4, hk4⟩⟩
    | goto t =>
      obtain ⟨hk3, s', hs', hi3⟩ := hp
      obtain ⟨hr, hl3, hl4, hk4, hk5⟩ := fin (some (.goto t)) _ W3 ⟨kd0, by omega⟩ ⟨kd1, by omega⟩ hk3
      exact ⟨_, _, hr, .inr ⟨rfl, hk5.mono fun k h => ⟨⟨h.1, by omega⟩, h.2⟩, s', hs', .goto t, (hIx _).putObj _ hi3 (by omega) hl3 rfl, hl4, hk4⟩⟩
    | panic ch => exact hp.elim
    | outgrown => exact hp.elim
  · -- behind the iterator
    have hnb : ∀ st pe, st ≠ LoopState.busy → (rc st pe).state ≠ .busy := fun st pe h => by rw [hrc]; exact h
    have hpe : ∀ st pe, (rc st pe).pending = pe := fun st pe => by rw [hrc]
    rintro e W2 ⟨⟨v, rfl⟩, (⟨s, hsS, hi, hl, hk, _⟩ | ⟨s, ⟨r, hSp⟩, c, hi, hl, hk⟩)⟩
    · have hr := run_endLoop (P := P) hl (hnb _ _ (by decide))
      rw [hpe] at hr
      rw [hD] at hl hk hr ⊢
      exact ⟨none, _, hr, hdone _ s _ (Nat.le_refl _) hsS (hI.putObj _ hi (by omega) hl rfl) ((World.putObj_heap_other (by omega)).trans hk)⟩
    · have hr := run_endLoop (P := P) hl (hnb _ _ (by decide))
      rw [hpe] at hr
      rw [hD] at hl hk hr ⊢
      exact ⟨some c, _, hr, hstop _ c s r _ (Nat.le_refl _) hSp ((hIx c).putObj _ hi (by omega) hl rfl) ((World.putObj_heap_other (by omega)).trans hk)⟩
end Go.Proofs.YtklngdmpledgeaaGreat.Jo
