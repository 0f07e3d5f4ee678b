/-
  A range over an iterator that itself ranges over one, over whatever it gives (a number and a value), with rounds that may write blocks of their own, which may move: which these are goes by the state. Conditions: the loop is no part of another one.
-/
import Derived.Test.YtjijgoflbjbnfaaGreatVM3
namespace Go.Proofs.YtjijgoflbjbnfaaGreat.Jo
open Go.RowKit Fr
variable {F : Fence} {n : Nat} {P : Program} {α β : Type}

/-- What is left alone in one state is left alone in the next. -/
def Goes (K K' : Nat → Prop) (W : World) : Prop := ∀ k, K k → k < W.heap.size → K' k
/-- How a round may be left. -/
def gPost (B : Nat) (seen : β → List α) (K : β → Nat → Prop) (I : β → World → Prop) (Ix : Code → β → World → Prop) (s : β) (x : α) (W : World) : Exit → Act → World → Prop
  | .normal, _, W' => KS (K s) W W' ∧ ∃ s', seen s' = seen s ++ [x] ∧ I s' W' ∧ Goes (K s) (K s') W
  | .ret, _, W' => KS (fun k => K s k ∧ B ≤ k) W W' ∧ ∃ s', seen s' = seen s ++ [x] ∧ Ix .ret s' W'
  | .exit id, _, W' => KS (fun k => K s k ∧ B ≤ k) W W' ∧ ∃ s', seen s' = seen s ++ [x] ∧ Ix (.exit id) s' W'
  | .goto t, _, W' => KS (fun k => K s k ∧ B ≤ k) W W' ∧ ∃ s', seen s' = seen s ++ [x] ∧ Ix (.goto t) s' W'
  | .panic _, _, _ => False
  | .outgrown, _, _ => False
/-- An iterator's contract: it gives S, to rounds that leave the blocks of K alone. -/
def GSeq (seen : β → List α) (K : β → Nat → Prop) (C : (Nat → Prop) → Prop) (E : (β → World → Prop) → Nat → Prop) (key : α → Int) (R : (Nat → Prop) → α → Value → World → Prop) (F : Fence) (n : Nat) (P : Program) (g : Nat) (lb : Array Value) (S : List α) (w : World) : Prop :=
  ∀ (l : Nat) (J Jx : β → World → Prop) (W : World), Below w.heap.size w W → OwnFrom W.heap.size J → OwnFrom W.heap.size Jx →
    (∀ s W', J s W' → ∀ k, W'.heap.size ≤ k → K s k) → E J W.heap.size →
    (∀ s x v W1, J s W1 → R (K s) x v W1 → (∃ r, S = seen s ++ x :: r) → YieldAt F (n - 1) P l #[.int .i64 (key x), v] W1 fun e W' =>
      (e = .returned (.bool true) ∧ KS (K s) W1 W' ∧ ∃ s', seen s' = seen s ++ [x] ∧ J s' W' ∧ Goes (K s) (K s') W1) ∨ (e = .returned (.bool false) ∧ KS (fun k => K s k ∧ W.heap.size ≤ k) W1 W' ∧ ∃ s', seen s' = seen s ++ [x] ∧ Jx s' W')) →
    ∀ s0, seen s0 = [] → J s0 W → C (K s0) →
    CallsIn F n P g (#[.func (.yield l) #[] #[]] ++ lb) W fun e W' => (∃ v, e = .returned v) ∧ ((∃ s, seen s = S ∧ J s W') ∨ (∃ s, (∃ r, S = seen s ++ r) ∧ Jx s W'))
theorem range_g {seen : β → List α} {K : β → Nat → Prop} {C : (Nat → Prop) → Prop} {E : (β → World → Prop) → Nat → Prop} {key : α → Int} {R : (Nat → Prop) → α → Value → World → Prop} (hput : ∀ {Kx : Nat → Prop} {x : α} {v : Value} {W : World} {k : Nat} {r : Loop} {o : Obj}, R Kx x v W → W.heap[k]? = some (.loop r) → R Kx x v (W.putObj k o)) {g : Operand} {ps : Array Tmp} {assign body : Code} {Q : Exit → Act → World → Prop} {a : Act} {w : World}
    (hro : F.round = none) (h1 : 1 ≤ n) {gf : Nat} {lb : Array Value} (hg : a.eval g = .func (.func gf) #[] lb) (hFg : F.fn gf) (eg : ∀ args w, (callFunc gf args).run P w = .ok (.enter gf args) w)
    {B : Nat} (hB : B ≤ w.heap.size) {S : List α}
    (hseq : GSeq seen K C E key R F (n - 1) P gf lb S w) (hps : ps.size = 2)
    (I : β → World → Prop) (Ix : Code → β → World → Prop) (hI : OwnFrom w.heap.size I) (hIx : ∀ c, OwnFrom w.heap.size (Ix c)) (hIK : ∀ s W, I s W → ∀ k, W.heap.size ≤ k → K s k) (hE : ∀ (D : Nat) (o1 o2 : Obj), o1.isCells = false → o2.isCells = false → w.heap.size ≤ D → E (fun s W => I s W ∧ W.heap[D + 1]? = some o1 ∧ W.heap[D]? = some o2 ∧ K s D ∧ K s (D + 1)) (D + 1 + 1)) (s0 : β) (hs0 : seen s0 = []) (h0 : I s0 w) (hC : C (K s0)) (a₁ : α → Value → Act)
    (hassign : ∀ (l : Nat) (x : α) (v : Value) (W : World) (K : Act → World → Prop), K (a₁ x v) W → assign.wpIn (F.inRound l) (n - 1 - 1) P (Exit.then K (fun _ _ _ => False)) { tmps := (ps.zip #[.int .i64 (key x), v]).foldl (fun t (p, v) => t.setIfInBounds p v) a.tmps, defers := [] } W)
    (hbody : ∀ (l : Nat) (s : β) (x : α) (v : Value) (W : World), I s W → R (K s) x v W → (∃ r, S = seen s ++ x :: r) → body.wpIn (F.inRound l) (n - 1 - 1) P (gPost B seen K I Ix s x W) (a₁ x v) W)
    (hdone : ∀ (D : Nat) (s : β) (W : World), w.heap.size ≤ D → seen s = S → I s W → W.heap[D]? = some (.deferred (some [])) → Q .normal { a with defers := { target := .collected D, args := #[] } :: a.defers } W)
    (hstop : ∀ (D : Nat) (c : Code) (s : β) (r : List α) (W : World), w.heap.size ≤ D → S = seen s ++ r → Ix c s W → W.heap[D]? = some (.deferred (some [])) → c.wpIn F n P Q { a with defers := { target := .collected D, args := #[] } :: a.defers } W) :
    (Code.rangeFunc g ps assign body).wpIn F n P Q a w := by
  refine wpIn_rangeFunc fun fn hfn => ?_
  rw [hro]
  obtain ⟨D, hD⟩ : ∃ D, D = w.heap.size := ⟨_, rfl⟩
  obtain ⟨rc, hrc⟩ : ∃ rc : LoopState → Option Code → Loop, rc = fun st pe => { state := st, pending := pe, fn, tmps := a.tmps, params := ps, assign, body, defers := w.heap.size } := ⟨_, rfl⟩
  have hpar : ∀ st pe, (rc st pe).params = ps := fun st pe => by rw [hrc]
  obtain ⟨W1, hW1⟩ : ∃ W1, W1 = (w.alloc (.deferred (some []))).alloc (.loop (rc .ready none)) := ⟨_, rfl⟩
  have hsz : W1.heap.size = D + 1 + 1 := by rw [hW1, hD]; simp
  have hL : W1.heap[D + 1]? = some (.loop (rc .ready none)) := by
    have := World.alloc_heap_new (w.alloc (.deferred (some []))) (.loop (rc .ready none))
    rw [World.size_alloc, ← hD] at this
    rw [hW1]; exact this
  have hK : W1.heap[D]? = some (.deferred (some [])) := by
    have := World.alloc_heap_new w (.deferred (some []))
    rw [← hD] at this
    rw [hW1]
    exact (Below.heap_alloc _ _ _ (by simp; omega)).trans this
  have hI1 : I s0 W1 := by rw [hW1]; exact hI.alloc _ (hI.alloc _ h0)
  have hb1 : Below w.heap.size w W1 := by rw [hW1]; exact ((Below.refl _ w).alloc (Nat.le_refl _) _).alloc (by simp) _
  refine ⟨D + 1, [{ target := .collected D, args := #[] }], W1, { target := .fn (.func gf) lb, args := #[.func (.yield (D + 1)) #[] #[]] }, W1, gf, #[.func (.yield (D + 1)) #[] #[]] ++ lb, W1, ?_, ?_, ?_, ?_, fun _ => h1, ?_⟩
  · rw [hW1, hrc, hD]; exact run_enterLoop_outer _ _ _ _ _
  · simp only [resolve, hg]
    simp [go_sem]
  · intro f' hf'
    simp [Target.leads] at hf'
    subst hf'
    exact hFg
  · simp [invoke, go_sem, eg]
  -- what is kept beside the caller's own
  have keep : ∀ {A C : World} {row : Option Nat} {k : Nat} {o : Obj}, A.grownBy C row → (∀ r, row = some r → W1.heap.size ≤ r ∧ ∃ o : Obj, A.heap[r]? = some o ∧ o.isCells = false) → k < D + 2 → A.heap[k]? = some o → C.heap[k]? = some o := fun hgr hr hk ho =>
    (hgr.block _ (Array.getElem?_eq_some_iff.1 ho).1 (fun e => by have := (hr _ e.symm).1; omega)).trans ho
  have weak : ∀ {A : World} {row : Option Nat}, (∀ r, row = some r → W1.heap.size ≤ r ∧ ∃ o : Obj, A.heap[r]? = some o ∧ o.isCells = false) → ∀ r, row = some r → w.heap.size ≤ r ∧ ∃ o : Obj, A.heap[r]? = some o ∧ o.isCells = false := fun hr r e => ⟨by have := (hr r e).1; omega, (hr r e).2⟩
  refine (hseq (D + 1)
    (fun s W => I s W ∧ W.heap[D + 1]? = some (.loop (rc .ready none)) ∧ W.heap[D]? = some (.deferred (some [])) ∧ K s D ∧ K s (D + 1))
    (fun s W => ∃ c, Ix c s W ∧ W.heap[D + 1]? = some (.loop (rc .done (some c))) ∧ W.heap[D]? = some (.deferred (some [])))
    W1 hb1
    (fun s A C row hs hgr hr => ⟨hI s A C row hs.1 hgr (weak hr), keep hgr hr (by omega) hs.2.1, keep hgr hr (by omega) hs.2.2.1, hs.2.2.2⟩)
    (fun s A C row ⟨c, hc, h2, h3⟩ hgr hr => ⟨c, hIx c s A C row hc hgr (weak hr), keep hgr hr (by omega) h2, keep hgr hr (by omega) h3⟩)
    (fun s W' h => hIK s W' h.1) (by rw [hsz]; exact hE D _ _ rfl rfl (by omega))
    ?_ s0 hs0 ⟨hI1, hL, hK, hIK s0 w h0 D (by omega), hIK s0 w h0 (D + 1) (by omega)⟩ hC).mono ?_
  · -- one round
    rintro s x v W ⟨hi, hl, hk, kd0, kd1⟩ hok hfit
    have hlt : D + 1 < W.heap.size := (Array.getElem?_eq_some_iff.1 hl).1
    have hy := run_yield (P := P) (args := #[.int .i64 (key x), v]) hl (by rw [hpar, hps]; rfl)
    have hfn' : (rc .ready none).fn = fn := by rw [hrc]
    have hta : (rc .ready none).tmps = a.tmps := by rw [hrc]
    have has : (rc .ready none).assign = assign := by rw [hrc]
    have hbo : (rc .ready none).body = body := by rw [hrc]
    rw [hpar, hfn', hta, has, hbo] at hy
    refine ⟨fn, _, assign, body, hy, roundIn_of_wpIn hfn (hassign _ x v W _ ?_)⟩
    clear hy
    have hst : (rc .ready none).state = .ready := by rw [hrc]
    have hbz : ({ rc .ready none with state := .busy } : Loop) = rc .busy none := by rw [hrc]
    refine ⟨_, run_beginRound hl hst, ?_⟩
    rw [hbz]
    have hl2 : (W.putObj (D + 1) (.loop (rc .busy none))).heap[D + 1]? = some (.loop (rc .busy none)) := World.putObj_heap_same hlt
    have hk2 : (W.putObj (D + 1) (.loop (rc .busy none))).heap[D]? = some (.deferred (some [])) := (World.putObj_heap_other (by omega)).trans hk
    have hi2 : I s (W.putObj (D + 1) (.loop (rc .busy none))) := hI.putObj _ hi (by omega) hl rfl
    refine wpIn_mono (hbody _ s x v _ hi2 (hput hok hl) hfit) ?_
    -- the round's end
    have fin : ∀ (j : Option Code) (K0 : Nat → Prop) (W3 : World), K0 D → K0 (D + 1) → KS K0 (W.putObj (D + 1) (.loop (rc .busy none))) W3 →
        (Instr.endRound (D + 1) j).run P W3 = .ok (.bool j.isNone) (W3.putObj (D + 1) (.loop (rc (if j.isNone then .ready else .done) j))) ∧
        W3.heap[D + 1]? = some (.loop (rc .busy none)) ∧
        (W3.putObj (D + 1) (.loop (rc (if j.isNone then .ready else .done) j))).heap[D + 1]? = some (.loop (rc (if j.isNone then .ready else .done) j)) ∧
        (W3.putObj (D + 1) (.loop (rc (if j.isNone then .ready else .done) j))).heap[D]? = some (.deferred (some [])) ∧
        KS (fun k => K0 k ∧ W1.heap.size ≤ k) W (W3.putObj (D + 1) (.loop (rc (if j.isNone then .ready else .done) j))) := fun j K0 W3 k0 k1 hk3 => by
      have hl3 : W3.heap[D + 1]? = some (.loop (rc .busy none)) := (hk3.2 _ k1 (by simp; omega)).trans hl2
      have hk4 : W3.heap[D]? = some (.deferred (some [])) := (hk3.2 _ k0 (by simp; omega)).trans hk2
      have hr := run_endRound (P := P) j hl3
      have e : ({ rc .busy none with state := if j.isNone then .ready else .done, pending := j } : Loop) = rc (if j.isNone then .ready else .done) j := by rw [hrc]
      rw [e] at hr
      exact ⟨hr, hl3, World.putObj_heap_same (Array.getElem?_eq_some_iff.1 hl3).1, (World.putObj_heap_other (by omega)).trans hk4,
        ((KS.put W _ (by omega)).trans (hk3.mono (fun k hk => hk.1))).trans (KS.put W3 _ (by omega))⟩
    rintro e a3 W3 hp
    cases e with
    | normal =>
      obtain ⟨hk3, s', hs', hi3, hgo⟩ := hp
      obtain ⟨hr, hl3, hl4, hk4, _⟩ := fin none (K s) W3 kd0 kd1 hk3
      refine ⟨_, _, hr, .inl ⟨rfl, ?_, s', hs', ⟨hI.putObj _ hi3 (by omega) hl3 rfl, hl4, hk4, hgo D kd0 (by simp; omega), hgo (D + 1) kd1 (by simp; omega)⟩, fun k h2 h3 => hgo k h2 (by simpa using h3)⟩⟩
      refine ⟨Nat.le_trans (by simpa using hk3.1) (by simp), fun k h2 h3 => ?_⟩
      by_cases hkd : k = D + 1
      · subst hkd; exact hl4.trans hl.symm
      · exact (World.putObj_heap_other hkd).trans ((hk3.2 k h2 (by simpa using h3)).trans (World.putObj_heap_other hkd))
    | ret =>
      obtain ⟨hk3, s', hs', hi3⟩ := hp
      obtain ⟨hr, hl3, hl4, hk4, hk5⟩ := fin (some .ret) _ W3 ⟨kd0, by omega⟩ ⟨kd1, by omega⟩ hk3
      exact ⟨_, _, hr, .inr ⟨rfl, hk5.mono fun k h => ⟨⟨h.1, by omega⟩, h.2⟩, s', hs', .ret, (hIx _).putObj _ hi3 (by omega) hl3 rfl, hl4, hk4⟩⟩
    | exit id =>
      obtain ⟨hk3, s', hs', hi3⟩ := hp
      obtain ⟨hr, hl3, hl4, hk4, hk5⟩ := fin (some (.exit id)) _ W3 ⟨kd0, by omega⟩ ⟨kd1, by omega⟩ hk3
      exact ⟨_, _, hr, .inr ⟨rfl, hk5.mono fun k h => ⟨⟨h.1, by omega⟩, h.2⟩, s', hs', .exit id, (hIx _).putObj _ hi3 (by omega) hl3 rfl, hl4, hk4⟩⟩
    | goto t =>
      obtain ⟨hk3, s', hs', hi3⟩ := hp
      obtain ⟨hr, hl3, hl4, hk4, hk5⟩ := fin (some (.goto t)) _ W3 ⟨kd0, by omega⟩ ⟨kd1, by omega⟩ hk3
      exact ⟨_, _, hr, .inr ⟨rfl, hk5.mono fun k h => ⟨⟨h.1, by omega⟩, h.2⟩, s', hs', .goto t, (hIx _).putObj _ hi3 (by omega) hl3 rfl, hl4, hk4⟩⟩
    | panic ch => exact hp.elim
    | outgrown => exact hp.elim
  · -- behind the iterator
    have hnb : ∀ st pe, st ≠ LoopState.busy → (rc st pe).state ≠ .busy := fun st pe h => by rw [hrc]; exact h
    have hpe : ∀ st pe, (rc st pe).pending = pe := fun st pe => by rw [hrc]
    rintro e W2 ⟨⟨v, rfl⟩, (⟨s, hsS, hi, hl, hk, _⟩ | ⟨s, ⟨r, hSp⟩, c, hi, hl, hk⟩)⟩
    · have hr := run_endLoop (P := P) hl (hnb _ _ (by decide))
      rw [hpe] at hr
      rw [hD] at hl hk hr ⊢
      exact ⟨none, _, hr, hdone _ s _ (Nat.le_refl _) hsS (hI.putObj _ hi (by omega) hl rfl) ((World.putObj_heap_other (by omega)).trans hk)⟩
    · have hr := run_endLoop (P := P) hl (hnb _ _ (by decide))
      rw [hpe] at hr
      rw [hD] at hl hk hr ⊢
      exact ⟨some c, _, hr, hstop _ c s r _ (Nat.le_refl _) hSp ((hIx c).putObj _ hi (by omega) hl rfl) ((World.putObj_heap_other (by omega)).trans hk)⟩
end Go.Proofs.YtjijgoflbjbnfaaGreat.Jo

namespace Go.Proofs.YtjijgoflbjbnfaaGreat.Fr
open Go.RowKit

theorem make_at (w : World) (A : Option Addr) (m c q : Nat) (l : List Int) (h : BAt w (.slice A m c) l) (hb : bok l) (hm : m ≤ 1048568) (hq : q = m + 8) :
    Calls Tryz.prog 88 #[.slice A m c] w fun e w' => ∃ A' c', e = .returned (.tuple #[.slice A' q c', .int .i64 0]) ∧ BAt w' (.slice A' q c') (frF l) ∧ Below w.heap.size w w' := by
  have hl := h.len.1
  refine (make_any w _ l h hb (by omega)).mono fun e w' ⟨⟨A', c', h1, h2⟩, h3⟩ => ?_
  rw [hl, ← hq] at h1 h2
  exact ⟨A', c', h1, BAt.of_own h2, h3⟩
theorem open_at (w : World) (A : Option Addr) (q c m : Nat) (E : Int) (G B : List Int) (h : BAt w (.slice A q c) G) (hb : bok G) (hq : q ≤ 2000000) (hB : opB G = B) (hm : B.length = m) (hE : opE G = E) :
    Calls Tryz.prog 117 #[.slice A q c] w fun e w' => ∃ A' c', e = .returned (.tuple #[.slice A' m c', .int .i64 E]) ∧ BAt w' (.slice A' m c') B ∧ Below w.heap.size w w' := by
  have hl := h.len.1
  refine (open_any w _ G h hb (by omega)).mono fun e w' ⟨⟨A', c', h1, h2⟩, h3⟩ => ?_
  rw [hB, hE, hm] at h1
  rw [hB, hm] at h2
  exact ⟨A', c', h1, h2, h3⟩
theorem same_at (w : World) (u v : Value) (l : List Int) (hu : BAt w u l) (hv : BAt w v l) (q : Nat) (hl : l.length = q) (hn : q ≤ 2000000) :
    Calls Tryz.prog 18 #[u, v] w fun e w' => e = .returned (.bool true) ∧ Below w.heap.size w w' := same_eq w u v l hu hv (by omega)
/-- What is read of L, told by letters. -/
structure NxR (L B : List Int) (k N : Nat) (E : Int) : Prop where
  b : nxB L = B
  k : B.length = k
  n : nxN L = N
  e : nxE L = E
theorem NxR.fst {L B : List Int} {k N : Nat} {E : Int} (h : NxR L B k N E) {e : Ending} {w' : World} (hf : Fst L e w') : ∃ A c, e = .returned (.tuple #[.slice A k c, .int .i64 (N : Int), .int .i64 E]) ∧ BAt w' (.slice A k c) B := by
  obtain ⟨A, c, h1, h2⟩ := hf
  rw [h.b, h.k, h.n, h.e] at h1
  rw [h.b, h.k] at h2
  exact ⟨A, c, h1, h2⟩
theorem nx_some (L : List Int) : ∃ B k N E, NxR L B k N E := ⟨_, _, _, _, rfl, rfl, rfl, rfl⟩
theorem next_at (w : World) (v : Value) (L B : List Int) (k N : Nat) (E : Int) (h : BAt w v L) (hb : bok L) (hn : L.length ≤ 2000000) (hr : NxR L B k N E) :
    Calls Tryz.prog 146 #[v] w fun e w' => ∃ A c, e = .returned (.tuple #[.slice A k c, .int .i64 (N : Int), .int .i64 E]) ∧ BAt w' (.slice A k c) B ∧ Below w.heap.size w w' :=
  (next_any w v L h hb hn).mono fun e w' ⟨h1, h2⟩ => by
    obtain ⟨A, c, h3, h4⟩ := hr.fst h1
    exact ⟨A, c, h3, h4, h2⟩
theorem first_at (w : World) (v : Value) (L B : List Int) (k N : Nat) (E : Int) (h : BAt w v L) (hb : bok L) (hn : L.length ≤ 2000000) (hr : NxR L B k N E) :
    Calls Tryz.prog 138 #[v] w fun e w' => ∃ A c, e = .returned (.tuple #[.slice A k c, .int .i64 (N : Int), .int .i64 E]) ∧ BAt w' (.slice A k c) B ∧ Below w.heap.size w w' :=
  (first_any w v L h hb hn).mono fun e w' ⟨h1, h2⟩ => by
    obtain ⟨A, c, h3, h4⟩ := hr.fst h1
    exact ⟨A, c, h3, h4, h2⟩
end Go.Proofs.YtjijgoflbjbnfaaGreat.Fr

namespace Go.Proofs.YtjijgoflbjbnfaaGreat.Fr
open Go.RowKit Go.Shelf
attribute [local go_sem] Oper.semAt_some

/-- The frames at the beginning of l, that stands at p; at most k. -/
def frs : Nat → Nat → List Int → List Fr
  | 0, _, _ => []
  | k + 1, p, l => if nxE l = 0 then (p, nxB l) :: frs k (p + nxN l) (l.drop (nxN l)) else []
def allF (L : List Int) : List Fr := frs (L.length + 1) 0 L
def whF (xs : List Fr) : Nat := (xs.map (fun x => x.2.length + 8)).sum
theorem whF_snoc (xs : List Fr) (x : Fr) : whF (xs ++ [x]) = whF xs + (x.2.length + 8) := by simp [whF]
theorem nxN_ok {l : List Int} (h : nxE l = 0) : nxN l = (nxB l).length + 8 ∧ nxN l ≤ l.length := by
  have h1 : nxN l = nn l + 8 := if_pos h
  have h2 := nxB_len l h
  have := (nxE_ok h).2.2.1
  omega
/-- Behind pre the bytes from p on are left. -/
def AtP (L : List Int) (pre : List Fr) (p : Nat) : Prop := ∃ k, allF L = pre ++ frs k p (L.drop p) ∧ L.length < p + k ∧ p ≤ L.length ∧ p = whF pre
theorem AtP.start (L : List Int) : AtP L [] 0 := ⟨L.length + 1, rfl, by omega, Nat.zero_le _, rfl⟩
theorem AtP.step {L : List Int} {pre : List Fr} {p : Nat} (h : AtP L pre p) (he : nxE (L.drop p) = 0) : AtP L (pre ++ [(p, nxB (L.drop p))]) (p + nxN (L.drop p)) ∧ ∃ r, allF L = pre ++ (p, nxB (L.drop p)) :: r := by
  obtain ⟨k, h1, h2, h3, h4⟩ := h
  obtain ⟨h5, h6⟩ := nxN_ok he
  rw [List.length_drop] at h6
  cases k with
  | zero => omega
  | succ k =>
    have h7 : frs (k + 1) p (L.drop p) = (p, nxB (L.drop p)) :: frs k (p + nxN (L.drop p)) (L.drop (p + nxN (L.drop p))) := by
      rw [frs, if_pos he, List.drop_drop]
    rw [h7] at h1
    refine ⟨⟨k, by rw [h1]; simp, by omega, by omega, ?_⟩, _, h1⟩
    rw [whF_snoc, ← h4, h5]
theorem AtP.done {L : List Int} {pre : List Fr} {p : Nat} (h : AtP L pre p) (he : ¬ nxE (L.drop p) = 0) : allF L = pre := by
  obtain ⟨k, h1, h2, h3, h4⟩ := h
  cases k with
  | zero => omega
  | succ k =>
    rw [h1, frs, if_neg he, List.append_nil]
theorem AtP.le {L : List Int} {pre : List Fr} {p : Nat} (h : AtP L pre p) : p ≤ L.length := by
  obtain ⟨_, _, _, h, _⟩ := h; exact h
/-- The frames that are given. -/
theorem AtP.fit {L : List Int} {pre r : List Fr} {x : Fr} (h : allF L = pre ++ x :: r) : x.1 = whF pre ∧ x.2.length + 8 ≤ L.length ∧ whF pre ≤ L.length := by
  have key : ∀ (m : Nat) (pre : List Fr) (q : Nat) (pre0 : List Fr), pre.length = m → (∃ k, allF L = pre0 ++ frs k q (L.drop q) ∧ L.length < q + k ∧ q ≤ L.length ∧ q = whF pre0) → allF L = pre0 ++ pre ++ x :: r → x.1 = whF (pre0 ++ pre) ∧ x.2.length + 8 ≤ L.length ∧ whF (pre0 ++ pre) ≤ L.length := by
    intro m
    induction m with
    | zero =>
      rintro pre q pre0 hm ⟨k, h1, h2, h3, h4⟩ h5
      have h6 : pre = [] := List.length_eq_zero_iff.1 hm
      subst h6
      rw [List.append_nil] at h5 ⊢
      rw [h1] at h5
      have h7 := List.append_cancel_left h5
      cases k with
      | zero => omega
      | succ k =>
        rw [frs] at h7
        split at h7
        · rename_i he
          obtain ⟨h8, h9⟩ := nxN_ok he
          rw [List.length_drop] at h9
          have h10 := (List.cons.inj h7).1
          rw [← h10]
          exact ⟨h4, by show (nxB (L.drop q)).length + 8 ≤ _; omega, by omega⟩
        · cases h7
    | succ m ih =>
      rintro pre q pre0 hm ⟨k, h1, h2, h3, h4⟩ h5
      cases pre with
      | nil => cases hm
      | cons y ys =>
        have h6 := h5
        rw [h1, List.append_assoc] at h6
        have h7 := List.append_cancel_left h6
        cases k with
        | zero => cases h7
        | succ k =>
          rw [frs] at h7
          split at h7
          · rename_i he
            have h8 : AtP L pre0 q := ⟨k + 1, h1, h2, h3, h4⟩
            obtain ⟨h9, _⟩ := h8.step he
            have h10 := (List.cons.inj h7).1
            rw [h10] at h9
            have := ih ys (q + nxN (L.drop q)) (pre0 ++ [y]) (by simpa using hm) h9 (by simpa using h5)
            simpa using this
          · cases h7
  have := key pre.length pre 0 [] rfl (AtP.start L) (by simpa using h)
  simpa using this
theorem fits_bok {L : List Int} (hb : bok L) {pre r : List Fr} {x : Fr} (h : allF L = pre ++ x :: r) : bok x.2 := by
  have key : ∀ (k q : Nat) (M : List Int), bok M → ∀ y ∈ frs k q M, bok y.2 := by
    intro k
    induction k with
    | zero => intro q M _ y hy; rw [frs] at hy; exact absurd hy (List.not_mem_nil)
    | succ k ih =>
      intro q M hM y hy
      rw [frs] at hy
      split at hy
      · rename_i he
        rcases List.mem_cons.1 hy with rfl | h2
        · show bok (nxB M)
          unfold nxB
          rw [if_pos he]
          exact bok_take (bok_drop hM 4) _
        · exact ih _ _ (bok_drop hM _) y h2
      · exact absurd hy (List.not_mem_nil)
  exact key _ _ L hb x (by show x ∈ allF L; rw [h]; simp)
theorem allF_len (L : List Int) : (allF L).length ≤ L.length := by
  have key : ∀ (k q : Nat) (M : List Int), (frs k q M).length ≤ M.length := by
    intro k
    induction k with
    | zero => intro q M; simp [frs]
    | succ k ih =>
      intro q M
      rw [frs]
      split
      · rename_i he
        obtain ⟨h1, h2⟩ := nxN_ok he
        have := ih (q + nxN M) (M.drop (nxN M))
        rw [List.length_drop] at this
        simp only [List.length_cons]
        omega
      · simp
  exact key _ _ L
end Go.Proofs.YtjijgoflbjbnfaaGreat.Fr

namespace Go.Proofs.YtjijgoflbjbnfaaGreat.Fr
open Go.RowKit Go.Shelf
attribute [local go_sem] Oper.semAt_some

theorem BAt.ks {K : Nat → Prop} {w w' : World} {v : Value} {l : List Int} (h : BAt w v l) (hk : BK K v l) (hs : KS K w w') : BAt w' v l := by
  obtain ⟨A, cap, h1, h2, h3⟩ := h
  refine ⟨A, cap, h1, h2, fun hp => ?_⟩
  obtain ⟨g, o, h4, h5, h6⟩ := h3 hp
  refine ⟨g, o, h4, Nat.lt_of_lt_of_le h5 hs.1, fun i hi => ?_⟩
  have h7 := hk hp ⟨g, o, none⟩ l.length cap (by rw [h1, h4])
  have h8 := h6 i hi
  simp only [World.cell?] at h8 ⊢
  rw [hs.2 g h7 h5]
  exact h8
theorem own_below {β : Type} {B : Nat} {J : β → World → Prop} (h : OwnFrom B J) {s : β} {W W' : World} (hs : J s W) (hb : Below W.heap.size W W') : J s W' :=
  h s W W' none hs (grownBy_of_below none hb) (fun r e => by cases e)
theorem frames_any (w : World) (A : Option Addr) (m c : Nat) :
    Calls Tryz.prog 111 #[.slice A m c] w fun e w' => e = .returned (.func (.func 137) #[] #[.pointer (some ⟨w.heap.size, 0, none⟩)]) ∧ w' = w.alloc (.cells #[.slice A m c] 32) := by
  go_enter Tryz.func111, Tryz.ntmps111
  go_wp2
  go_ret
  exact ⟨rfl, rfl⟩

set_option maxRecDepth 100000 in
set_option maxHeartbeats 4000000 in
theorem frames1_seq (n : Nat) (hn : 2 ≤ n) (K : Nat → Prop) (Bs : Nat) (w : World) (A : Option Addr) (m cap : Nat) (L : List Int) (hBs : w.heap[Bs]? = some (.cells #[.slice A m cap] 32 (0, 0))) (hKB : K Bs) (hL : BAt w (.slice A m cap) L) (hK : BK K (.slice A m cap) L) (hb : bok L) (hm : m ≤ 1000) :
    OSeq Fence.wide n Tryz.prog 137 #[.pointer (some ⟨Bs, 0, none⟩)] K (allF L) w := by
  intro l J Jx W hW hJ hJx hY h0
  have hn0 : 1 ≤ n := by omega
  have hlm := hL.len.1
  have hcap := hL.len.2
  have HBs := Lib.hid (block_kept hBs hW)
  have HL := Lib.hid (hL.kept hW)
  have HD : Hid (bok L ∧ L.length = m ∧ K Bs ∧ BK K (.slice A m cap) L) := ⟨hb, hlm, hKB, hK⟩
  have HY := Lib.hid hY
  have HJ := Lib.hid hJ
  clear hY hL hK hb hBs hlm hKB hW hJ hJx
  refine callsIn_of_wp Tryz.func137 rfl trivial ?_ rfl
  simp only [Tryz.ntmps137, List.size_toArray, List.length_cons, List.length_nil, Nat.reduceAdd, Nat.reduceSub, Array.replicate_succ, Array.replicate_zero, List.push_toArray, List.append_toArray, List.nil_append, List.cons_append]
  gi_wp2
  gi_loopw [3] (fun p wr => ∃ (q : Nat) (pre : List Fr), p = .int .i64 (q : Int) ∧ Hid (AtP L pre q ∧ J pre wr ∧ KS K W wr)) (fun p _ => L.length + 1 - (intOf p).toNat)
  case atStart => exact ⟨0, [], rfl, AtP.start L, h0, KS.refl _ _⟩
  case round =>
    obtain ⟨q, pre, rfl, hinv⟩ := hrel
    have hq : q ≤ m := by rw [← HD.out.2.1]; exact hinv.out.1.le
    obtain ⟨A', hA', hs⟩ := slice_from A m cap q hq hcap
    have hbs : wr.heap[Bs]? = some (.cells #[.slice A m cap] 32 (0, 0)) := (hinv.out.2.2.2 Bs HD.out.2.2.1 (Array.getElem?_eq_some_iff.1 HBs.out).1).trans HBs.out
    have c0 := (block_cell hbs).1
    have hBr : BAt wr (.slice A' (m - q) (cap - q)) (L.drop q) := (HL.out.ks HD.out.2.2.2 hinv.out.2.2).from q hA' hq
    obtain ⟨B, k, N, E, hR⟩ := nx_some (L.drop q)
    have HF := Lib.hid (callsIn_wide (n := n - 1).2 (first_at wr _ (L.drop q) B k N E hBr (bok_drop HD.out.1 q) (by rw [List.length_drop]; have := HD.out.2.1; omega) hR))
    have HR := Lib.hid hR
    obtain ⟨r1, hr1⟩ : ∃ r1, r1 = m - q := ⟨_, rfl⟩
    obtain ⟨r2, hr2⟩ : ∃ r2, r2 = cap - q := ⟨_, rfl⟩
    rw [← hr1, ← hr2] at hs HF
    have hm9 : q ≤ 1000 := by omega
    clear hBr hR hbs hA' hr1 hr2
    by_cases hE : E = 0
    · have hN : N ≤ 1000 ∧ 8 ≤ N ∧ q + N ≤ m := by
        have h1 : nxE (L.drop q) = 0 := by rw [HR.out.e]; exact hE
        have h2 := nxN_ok h1
        rw [List.length_drop, HR.out.n, HD.out.2.1] at h2
        omega
      have HX : Hid ((∃ r, allF L = pre ++ (q, B) :: r) ∧ AtP L (pre ++ [(q, B)]) (q + N)) := by
        have h1 : nxE (L.drop q) = 0 := by rw [HR.out.e]; exact hE
        have h2 := hinv.out.1.step h1
        rw [HR.out.b, HR.out.n] at h2
        exact ⟨h2.2, h2.1⟩
      subst hE
      have hn1 : N ≤ 1000 := hN.1
      have HN := Lib.hid hN
      clear hN
      gi_wp2_with (refine ⟨trivial, ?_⟩; gi_at_call 138; refine HF.out.mono ?_; rintro e w1 ⟨A1, c1, rfl, ha1, b1⟩
                   obtain ⟨fn, tmps, assign, body, hy, hR⟩ := HY.out pre (q, B) (.slice A1 k c1) w1 (own_below HJ.out hinv.out.2.1 b1) ha1 HX.out.1
                   dsimp only at hy
                   have HB1 := Lib.hid b1
                   clear ha1 b1)
      refine hR.mono ?_
      rintro e W3 (⟨rfl, hJ3, hk3⟩ | ⟨rfl, hJx3, _⟩)
      · have HJ3 := Lib.hid hJ3
        have HK3 := Lib.hid ((hinv.out.2.2.trans (KS.of_below HB1.out)).trans hk3)
        have hq2 : q + N ≤ 1000 := by have := HN.out; omega
        clear hJ3 hk3 hy hR hinv
        gi_wp2
        go_roundw
        case rel => exact ⟨q + N, _, by go_num, HX.out.2, HJ3.out, HK3.out⟩
        case measure => simp [intOf]; have := HN.out; have := HD.out.2.1; omega
      · have HJ3 := Lib.hid hJx3
        clear hJx3 hy hR
        gi_wp2
        refine bodyPost_ret (results_none rfl _ _ _) rfl ?_
        obtain ⟨r, hr⟩ := HX.out.1
        exact ⟨⟨_, rfl⟩, .inr ⟨_, ⟨r, by rw [hr]; simp⟩, HJ3.out⟩⟩
    · have hEb : (E != 0) = true := by simp [hE]
      have HE : Hid (allF L = pre) := hinv.out.1.done (by rw [HR.out.e]; exact hE)
      gi_wp2_with (refine ⟨trivial, ?_⟩; gi_at_call 138; refine HF.out.mono ?_; rintro e w1 ⟨A1, c1, rfl, ha1, b1⟩
                   have HJ1 := Lib.hid (own_below HJ.out hinv.out.2.1 b1)
                   clear ha1 b1)
      refine ⟨fun _ h => (by cases h), ?_⟩
      gi_wp2
      refine bodyPost_ret (results_none rfl _ _ _) rfl ?_
      exact ⟨⟨_, rfl⟩, .inl (by rw [HE.out]; exact HJ1.out)⟩
end Go.Proofs.YtjijgoflbjbnfaaGreat.Fr

namespace Go.Proofs.YtjijgoflbjbnfaaGreat.Fr
open Go.RowKit Go.Shelf
attribute [local go_sem] Oper.semAt_some

theorem yield_any {m : Nat} (m' : Nat) {P : Program} {l : Nat} {args : Array Value} {W : World} {Q : Ending → World → Prop} (h : YieldAt Fence.wide m P l args W Q) : YieldAt Fence.wide m' P l args W Q := by
  obtain ⟨fn, tmps, assign, body, hy, h1, h2⟩ := h
  exact ⟨fn, tmps, assign, body, hy, h1, fun c cs _ => h2 c cs (fun d h => by cases h)⟩
theorem ownFrom_mono {β : Type} {B B' : Nat} {J : β → World → Prop} (h : OwnFrom B J) (hb : B ≤ B') : OwnFrom B' J :=
  fun s W W' row hs hg hr => h s W W' row hs hg (fun r e => ⟨Nat.le_trans hb (hr r e).1, (hr r e).2⟩)
theorem clone_at (w : World) (A : Option Addr) (n c : Nat) (l : List Int) (h : BAt w (.slice A n c) l) (hn : n ≤ 2000000) :
    Calls Tryz.prog 38 #[.slice A n c] w fun e w' => ∃ A' c', e = .returned (.slice A' n c') ∧ BAt w' (.slice A' n c') l ∧ Below w.heap.size w w' := by
  have hl := h.len.1
  refine (clone_any w _ l h (by omega)).mono fun e w' ⟨u, h1, h2, h3⟩ => ?_
  have h4 := BAt.of_own h2
  obtain ⟨A', c', h5, _⟩ := id h4
  rw [hl] at h5
  subst h5
  exact ⟨A', c', h1, h4, h3⟩
set_option maxRecDepth 100000 in
set_option maxHeartbeats 1000000 in
theorem all_any (w : World) (A : Option Addr) (m cap : Nat) (L : List Int) (hL : BAt w (.slice A m cap) L) (hm : m ≤ 1000) :
    Calls Tryz.prog 79 #[.slice A m cap] w fun e w' => ∃ A1 c1 Bs, e = .returned (.func (.func 110) #[] #[.pointer (some ⟨Bs, 0, none⟩)]) ∧ w.heap.size ≤ Bs ∧ w'.heap[Bs]? = some (.cells #[.slice A1 m c1] 32 (0, 0)) ∧ BAt w' (.slice A1 m c1) L ∧ BK (fun k => w.heap.size ≤ k) (.slice A1 m c1) L ∧ Below w.heap.size w w' := by
  have hlm := hL.len.1
  have HC := Lib.hid (clone_any w _ L hL (by omega))
  have HM : Hid (L.length = m) := hlm
  clear hL hlm
  go_enter Tryz.func79, Tryz.ntmps79
  go_wp2_with (go_at_call 38; refine HC.out.mono ?_; rintro e w1 ⟨u, rfl, ho, hb⟩
               obtain ⟨A1, c1, hu⟩ : ∃ A c, u = Value.slice A m c := (by obtain ⟨A, c, h2, _⟩ := BAt.of_own ho; exact ⟨A, c, by rw [h2, HM.out]⟩)
               subst hu
               have HO := Lib.hid ho
               have HB := Lib.hid hb
               clear ho hb)
  go_ret
  have hal : Below w1.heap.size w1 (w1.alloc (.cells #[.slice A1 m c1] 32)) := (Below.refl _ _).alloc (Nat.le_refl _) _
  refine ⟨A1, c1, w1.heap.size, rfl, HB.out.size, block_new _ _, (BAt.of_own HO.out).kept hal, fun _ a n c ha => ?_, HB.out.trans (hal.mono HB.out.size)⟩
  cases ha
  exact (HO.out.lt a.block rfl).1

set_option maxRecDepth 100000 in
set_option maxHeartbeats 4000000 in
theorem all1_seq (n : Nat) (hn : 6 ≤ n) (lo Bs : Nat) (w : World) (A : Option Addr) (m cap : Nat) (L : List Int) (hBs : w.heap[Bs]? = some (.cells #[.slice A m cap] 32 (0, 0))) (hlo : lo ≤ Bs) (hL : BAt w (.slice A m cap) L) (hK : BK (fun k => lo ≤ k) (.slice A m cap) L) (hb : bok L) (hm : m ≤ 1000) :
    OSeq Fence.wide n Tryz.prog 110 #[.pointer (some ⟨Bs, 0, none⟩)] (fun k => lo ≤ k) (allF L) w := by
  intro l J Jx W hW hJ hJx hY h0
  have hn0 : 1 ≤ n := by omega
  have hn1 : 1 ≤ n - 1 := by omega
  have hlm := hL.len.1
  have hbs := block_kept hBs hW
  have hlw : Bs < W.heap.size := (Array.getElem?_eq_some_iff.1 hbs).1
  have c0 := (block_cell hbs).1
  have HL := Lib.hid (hL.kept hW)
  have HD : Hid (bok L ∧ L.length = m ∧ BK (fun k => lo ≤ k) (.slice A m cap) L) := ⟨hb, hlm, hK⟩
  have HY := Lib.hid hY
  have HJ := Lib.hid hJ
  have HJx := Lib.hid hJx
  have H0 := Lib.hid h0
  clear hY hL hK hb hBs hlm hW hJ hJx h0 hbs
  refine callsIn_of_wp_marks Tryz.func110 rfl trivial ?_ rfl
  simp only [Tryz.ntmps110, List.size_toArray, List.length_cons, List.length_nil, Nat.reduceAdd, Nat.reduceSub, Array.replicate_succ, Array.replicate_zero, List.push_toArray, List.append_toArray, List.nil_append, List.cons_append]
  gi_wp2_with (refine ⟨trivial, ?_⟩; gi_at_call 111; refine (callsIn_wide.2 (frames_any _ _ _ _)).mono ?_; rintro e w' ⟨rfl, rfl⟩)
  obtain ⟨W0, hW0⟩ : ∃ W0, W0 = (W.alloc (.cells #[.func (.yield l) #[] #[]] 139)).alloc (.cells #[.slice A m cap] 32) := ⟨_, rfl⟩
  have b1 : Boxed W0 W.heap.size 139 (.func (.yield l) #[] #[]) := by rw [hW0]; exact (Boxed.new W _ _).alloc _
  have b2 : W0.heap[W.heap.size + 1]? = some (.cells #[.slice A m cap] 32 (0, 0)) := by
    rw [hW0]
    have := block_new (W.alloc (.cells #[.func (.yield l) #[] #[]] 139)) (.cells #[.slice A m cap] 32)
    rw [World.size_alloc] at this
    exact this
  have hB0 : Below W.heap.size W W0 := by rw [hW0]; exact ((Below.refl _ W).alloc (Nat.le_refl _) _).alloc (by simp) _
  have hsz : W0.heap.size = W.heap.size + 1 + 1 := by rw [hW0]; simp
  rw [← hW0]
  clear hW0
  refine' range_o rfl (by omega) (gf := 137) (lb := #[.pointer (some ⟨W.heap.size + 1, 0, none⟩)]) rfl trivial (enters_of Tryz.func137 (by kernel_rfl) rfl)
    (K := fun k => lo ≤ k) (K' := fun k => W.heap.size ≤ k) (fun k hk => by omega) (fun k hk => by omega)
    (frames1_seq _ (by omega) (fun k => lo ≤ k) (W.heap.size + 1) W0 A m cap L b2 (by omega) (HL.out.kept hB0) HD.out.2.2 HD.out.1 hm) rfl
    (fun pre W' => J pre W' ∧ Boxed W' W.heap.size 139 (.func (.yield l) #[] #[])) (fun c pre W' => c = .ret ∧ Jx pre W')
    (OwnFrom.and (ownFrom_mono HJ.out (by omega)) (Own.from (boxed_own _ _ _) _)) (fun c s X Y row hs hg hr => ⟨hs.1, ownFrom_mono HJx.out (by omega) s X Y row hs.2 hg hr⟩) ⟨own_below HJ.out H0.out hB0, b1⟩ _ ?assign ?body ?done ?stop
  case assign =>
    intro l x v W K hK
    gi_wp2
    exact hK
  case body =>
    rintro l2 pre ⟨q, B⟩ v W1 ⟨hJ1, hbx⟩ hbat ⟨r, hr⟩
    obtain ⟨h1, h2, h3⟩ := AtP.fit hr
    have h2' : B.length + 8 ≤ L.length := h2
    have hBl : B.length ≤ 2000000 := by have := HD.out.2.1; omega
    obtain ⟨k, hk⟩ : ∃ k, k = B.length := ⟨_, rfl⟩
    obtain ⟨A5, c5, hv, _⟩ := id hbat
    have hv2 : v = .slice A5 k c5 := by rw [hk]; exact hv
    subst hv2
    have hcl := fun w0 (hw : Below W1.heap.size W1 w0) => clone_at w0 A5 k c5 B (hbat.kept hw) (by omega)
    have d1 := hbx.cell
    have HC := Lib.hid hcl
    have HR : Hid (∃ r, allF L = pre ++ (q, B) :: r) := ⟨r, hr⟩
    have HJ1 := Lib.hid hJ1
    have HY2 : Hid (∀ v w2, Below W1.heap.size W1 w2 → BAt w2 v B → YieldAt Fence.wide (n - 1 - 1 - 1) Tryz.prog l #[.int .i64 (q : Int), v] w2 fun e W' => ∃ b : Bool, e = .returned (.bool b) ∧ (b = true → J (pre ++ [(q, B)]) W' ∧ KS (fun k => lo ≤ k) w2 W') ∧ (b = false → Jx (pre ++ [(q, B)]) W' ∧ KS (fun k => W.heap.size ≤ k) w2 W')) := fun v w2 hw hv => by
      obtain ⟨fn, tmps, assign, body, hy, hR⟩ := yield_any (n - 1 - 1 - 1) (HY.out pre (q, B) v w2 (own_below HJ.out HJ1.out hw) hv HR.out)
      exact ⟨fn, tmps, assign, body, hy, hR.mono fun e W' h => by
        rcases h with ⟨h1, h2, h3⟩ | ⟨h1, h2, h3⟩
        · exact ⟨true, h1, fun _ => ⟨h2, h3⟩, fun h => (by cases h)⟩
        · exact ⟨false, h1, fun h => (by cases h), fun _ => ⟨h2, h3⟩⟩⟩
    have HKK := Lib.hid hk
    clear h1 h2 h2' h3 hBl hbat hr hJ1 hcl hv hk
    have hmx : Tryz.prog.follows .mixedOrders = true := by kernel_rfl
    have hdp : 1 ≤ n - 1 - 1 := by omega
    have hBl : W.heap.size < W1.heap.size := World.block_lt_of_cell? _ _ d1
    gi_wp2
    gi_region_with_o (first
      | (refine ⟨trivial, ?_⟩; gi_at_call 38; refine (CallsIn.inRound l2 (callsIn_wide.2 (HC.out _ (Below.refl _ _).drew))).mono ?_; rintro e w2 ⟨A6, c6, rfl, ho, hb2⟩
         have d2 : w2.cell? ⟨W.heap.size, 0, none⟩ = some (.func (.yield l) #[] #[]) := (hb2.cell (p := ⟨W.heap.size, 0, none⟩) hBl).trans d1
         have hb3 : Below W1.heap.size W1 w2 := (Below.refl _ _).drew.trans hb2
         obtain ⟨fn, tmps, assign, body, hy, hR⟩ := HY2.out (.slice A6 k c6) w2 hb3 ho
         have HB3 := Lib.hid hb3
         clear ho hb2 hb3)
      | (refine hR.mono ?_; rintro e W3 ⟨b, rfl, hb4, hb5⟩; have H4 := Lib.hid hb4; have H5 := Lib.hid hb5; clear hb4 hb5))
    all_goals
      cases b
      · have G := Lib.hid (H5.out rfl)
        clear H4 H5
        gi_wp2
        exact ⟨(KS.of_below HB3.out).trans G.out.2, rfl, G.out.1⟩
      · have G := Lib.hid (H4.out rfl)
        clear H4 H5
        gi_wp2
        have hk4 := (KS.of_below (K := fun k => lo ≤ k) HB3.out).trans G.out.2
        exact ⟨hk4, G.out.1, (hk4.2 _ (by show lo ≤ W.heap.size; omega) hBl).trans hbx⟩
  case done =>
    rintro D W3 hD ⟨hJ3, hbx⟩ hK
    gi_wp2
    refine ⟨by simp, .inl ⟨_, _, rfl, run_takeDeferred hK, ?_⟩⟩
    exact ⟨_, results_none rfl _ _ _, ⟨_, rfl⟩, .inl (HJ.out.putObj _ hJ3 (by omega) hK rfl)⟩
  case stop =>
    rintro D c pre r W3 hD hS ⟨rfl, hJx3⟩ hK
    gi_wp2
    refine ⟨by simp, .inl ⟨_, _, rfl, run_takeDeferred hK, ?_⟩⟩
    exact ⟨_, results_none rfl _ _ _, ⟨_, rfl⟩, .inr ⟨pre, ⟨r, hS⟩, HJx.out.putObj _ hJx3 (by omega) hK rfl⟩⟩
end Go.Proofs.YtjijgoflbjbnfaaGreat.Fr
