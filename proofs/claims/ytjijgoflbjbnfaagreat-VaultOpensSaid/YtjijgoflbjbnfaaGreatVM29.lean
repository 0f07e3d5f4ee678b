/-
  A range over an iterator that gives one value a round, with rounds that may write blocks of their own, which may move: which these are goes by the state. Conditions: the loop is no part of another one.
-/
import Derived.Test.YtjijgoflbjbnfaaGreatVM4
import Derived.Test.YtjijgoflbjbnfaaGreatVM28
namespace Go.Proofs.YtjijgoflbjbnfaaGreat.Vt
open Go.RowKit Fr Jo
variable {F : Fence} {n : Nat} {P : Program} {α β : Type}

/-- An iterator's contract (one value a round): it gives S, to rounds that leave the blocks of K alone. -/
def VSeq (seen : β → List α) (K : β → Nat → Prop) (C : (Nat → Prop) → Prop) (E : (β → World → Prop) → Nat → Prop) (R : (Nat → Prop) → α → Value → World → Prop) (F : Fence) (n : Nat) (P : Program) (g : Nat) (lb : Array Value) (S : List α) (w : World) : Prop :=
  ∀ (l : Nat) (J Jx : β → World → Prop) (W : World), Below w.heap.size w W → OwnFrom W.heap.size J → OwnFrom W.heap.size Jx →
    (∀ s W', J s W' → ∀ k, W'.heap.size ≤ k → K s k) → E J W.heap.size →
    (∀ s x v W1, J s W1 → R (K s) x v W1 → (∃ r, S = seen s ++ x :: r) → YieldAt F (n - 1) P l #[v] W1 fun e W' =>
      (e = .returned (.bool true) ∧ KS (K s) W1 W' ∧ ∃ s', seen s' = seen s ++ [x] ∧ J s' W' ∧ Goes (K s) (K s') W1) ∨ (e = .returned (.bool false) ∧ KS (fun k => K s k ∧ W.heap.size ≤ k) W1 W' ∧ ∃ s', seen s' = seen s ++ [x] ∧ Jx s' W')) →
    ∀ s0, seen s0 = [] → J s0 W → C (K s0) →
    CallsIn F n P g (#[.func (.yield l) #[] #[]] ++ lb) W fun e W' => (∃ v, e = .returned v) ∧ ((∃ s, seen s = S ∧ J s W') ∨ (∃ s, (∃ r, S = seen s ++ r) ∧ Jx s W'))
theorem range_v {seen : β → List α} {K : β → Nat → Prop} {C : (Nat → Prop) → Prop} {E : (β → World → Prop) → Nat → Prop} {R : (Nat → Prop) → α → Value → World → Prop} (hput : ∀ {Kx : Nat → Prop} {x : α} {v : Value} {W : World} {k : Nat} {r : Loop} {o : Obj}, R Kx x v W → W.heap[k]? = some (.loop r) → R Kx x v (W.putObj k o)) {g : Operand} {ps : Array Tmp} {assign body : Code} {Q : Exit → Act → World → Prop} {a : Act} {w : World}
    (hro : F.round = none) (h1 : 1 ≤ n) {gf : Nat} {lb : Array Value} (hg : a.eval g = .func (.func gf) #[] lb) (hFg : F.fn gf) (eg : ∀ args w, (callFunc gf args).run P w = .ok (.enter gf args) w)
    {B : Nat} (hB : B ≤ w.heap.size) {S : List α}
    (hseq : VSeq seen K C E R F (n - 1) P gf lb S w) (hps : ps.size = 1)
    (I : β → World → Prop) (Ix : Code → β → World → Prop) (hI : OwnFrom w.heap.size I) (hIx : ∀ c, OwnFrom w.heap.size (Ix c)) (hIK : ∀ s W, I s W → ∀ k, W.heap.size ≤ k → K s k) (hE : ∀ (D : Nat) (o1 o2 : Obj), o1.isCells = false → o2.isCells = false → w.heap.size ≤ D → E (fun s W => I s W ∧ W.heap[D + 1]? = some o1 ∧ W.heap[D]? = some o2 ∧ K s D ∧ K s (D + 1)) (D + 1 + 1)) (s0 : β) (hs0 : seen s0 = []) (h0 : I s0 w) (hC : C (K s0)) (a₁ : α → Value → Act)
    (hassign : ∀ (l : Nat) (x : α) (v : Value) (W : World) (K : Act → World → Prop), K (a₁ x v) W → assign.wpIn (F.inRound l) (n - 1 - 1) P (Exit.then K (fun _ _ _ => False)) { tmps := (ps.zip #[v]).foldl (fun t (p, v) => t.setIfInBounds p v) a.tmps, defers := [] } W)
    (hbody : ∀ (l : Nat) (s : β) (x : α) (v : Value) (W : World), I s W → R (K s) x v W → (∃ r, S = seen s ++ x :: r) → body.wpIn (F.inRound l) (n - 1 - 1) P (gPost B seen K I Ix s x W) (a₁ x v) W)
    (hdone : ∀ (D : Nat) (s : β) (W : World), w.heap.size ≤ D → seen s = S → I s W → W.heap[D]? = some (.deferred (some [])) → Q .normal { a with defers := { target := .collected D, args := #[] } :: a.defers } W)
    (hstop : ∀ (D : Nat) (c : Code) (s : β) (r : List α) (W : World), w.heap.size ≤ D → S = seen s ++ r → Ix c s W → W.heap[D]? = some (.deferred (some [])) → c.wpIn F n P Q { a with defers := { target := .collected D, args := #[] } :: a.defers } W) :
    (Code.rangeFunc g ps assign body).wpIn F n P Q a w := by
  refine wpIn_rangeFunc fun fn hfn => ?_
  rw [hro]
  obtain ⟨D, hD⟩ : ∃ D, D = w.heap.size := ⟨_, rfl⟩
  obtain ⟨rc, hrc⟩ : ∃ rc : LoopState → Option Code → Loop, rc = fun st pe => { state := st, pending := pe, fn, tmps := a.tmps, params := ps, assign, body, defers := w.heap.size } := ⟨_, rfl⟩
  have hpar : ∀ st pe, (rc st pe).params = ps := fun st pe => by rw [hrc]
  obtain ⟨W1, hW1⟩ : ∃ W1, W1 = (w.alloc (.deferred (some []))).alloc (.loop (rc .ready none)) := ⟨_, rfl⟩
  have hsz : W1.heap.size = D + 1 + 1 := by rw [hW1, hD]; simp
  have hL : W1.heap[D + 1]? = some (.loop (rc .ready none)) := by
    have := World.alloc_heap_new (w.alloc (.deferred (some []))) (.loop (rc .ready none))
    rw [World.size_alloc, ← hD] at this
    rw [hW1]; exact this
  have hK : W1.heap[D]? = some (.deferred (some [])) := by
    have := World.alloc_heap_new w (.deferred (some []))
    rw [← hD] at this
    rw [hW1]
    exact (Below.heap_alloc _ _ _ (by simp; omega)).trans this
  have hI1 : I s0 W1 := by rw [hW1]; exact hI.alloc _ (hI.alloc _ h0)
  have hb1 : Below w.heap.size w W1 := by rw [hW1]; exact ((Below.refl _ w).alloc (Nat.le_refl _) _).alloc (by simp) _
  refine ⟨D + 1, [{ target := .collected D, args := #[] }], W1, { target := .fn (.func gf) lb, args := #[.func (.yield (D + 1)) #[] #[]] }, W1, gf, #[.func (.yield (D + 1)) #[] #[]] ++ lb, W1, ?_, ?_, ?_, ?_, fun _ => h1, ?_⟩
  · rw [hW1, hrc, hD]; exact run_enterLoop_outer _ _ _ _ _
  · simp only [resolve, hg]
    simp [go_sem]
  · intro f' hf'
    simp [Target.leads] at hf'
    subst hf'
    exact hFg
  · simp [invoke, go_sem, eg]
  -- what is kept beside the caller's own
  have keep : ∀ {A C : World} {row : Option Nat} {k : Nat} {o : Obj}, A.grownBy C row → (∀ r, row = some r → W1.heap.size ≤ r ∧ ∃ o : Obj, A.heap[r]? = some o ∧ o.isCells = false) → k < D + 2 → A.heap[k]? = some o → C.heap[k]? = some o := fun hgr hr hk ho =>
    (hgr.block _ (Array.getElem?_eq_some_iff.1 ho).1 (fun e => by have := (hr _ e.symm).1; omega)).trans ho
  have weak : ∀ {A : World} {row : Option Nat}, (∀ r, row = some r → W1.heap.size ≤ r ∧ ∃ o : Obj, A.heap[r]? = some o ∧ o.isCells = false) → ∀ r, row = some r → w.heap.size ≤ r ∧ ∃ o : Obj, A.heap[r]? = some o ∧ o.isCells = false := fun hr r e => ⟨by have := (hr r e).1; omega, (hr r e).2⟩
  refine (hseq (D + 1)
    (fun s W => I s W ∧ W.heap[D + 1]? = some (.loop (rc .ready none)) ∧ W.heap[D]? = some (.deferred (some [])) ∧ K s D ∧ K s (D + 1))
    (fun s W => ∃ c, Ix c s W ∧ W.heap[D + 1]? = some (.loop (rc .done (some c))) ∧ W.heap[D]? = some (.deferred (some [])))
    W1 hb1
    (fun s A C row hs hgr hr => ⟨hI s A C row hs.1 hgr (weak hr), keep hgr hr (by omega) hs.2.1, keep hgr hr (by omega) hs.2.2.1, hs.2.2.2⟩)
    (fun s A C row ⟨c, hc, h2, h3⟩ hgr hr => ⟨c, hIx c s A C row hc hgr (weak hr), keep hgr hr (by omega) h2, keep hgr hr (by omega) h3⟩)
    (fun s W' h => hIK s W' h.1) (by rw [hsz]; exact hE D _ _ rfl rfl (by omega))
    ?_ s0 hs0 ⟨hI1, hL, hK, hIK s0 w h0 D (by omega), hIK s0 w h0 (D + 1) (by omega)⟩ hC).mono ?_
  · -- one round
    rintro s x v W ⟨hi, hl, hk, kd0, kd1⟩ hok hfit
    have hlt : D + 1 < W.heap.size := (Array.getElem?_eq_some_iff.1 hl).1
    have hy := run_yield (P := P) (args := #[v]) hl (by rw [hpar, hps]; rfl)
    have hfn' : (rc .ready none).fn = fn := by rw [hrc]
    have hta : (rc .ready none).tmps = a.tmps := by rw [hrc]
    have has : (rc .ready none).assign = assign := by rw [hrc]
    have hbo : (rc .ready none).body = body := by rw [hrc]
    rw [hpar, hfn', hta, has, hbo] at hy
    refine ⟨fn, _, assign, body, hy, roundIn_of_wpIn hfn (hassign _ x v W _ ?_)⟩
    clear hy
    have hst : (rc .ready none).state = .ready := by rw [hrc]
    have hbz : ({ rc .ready none with state := .busy } : Loop) = rc .busy none := by rw [hrc]
    refine ⟨_, run_beginRound hl hst, ?_⟩
    rw [hbz]
    have hl2 : (W.putObj (D + 1) (.loop (rc .busy none))).heap[D + 1]? = some (.loop (rc .busy none)) := World.putObj_heap_same hlt
    have hk2 : (W.putObj (D + 1) (.loop (rc .busy none))).heap[D]? = some (.deferred (some [])) := (World.putObj_heap_other (by omega)).trans hk
    have hi2 : I s (W.putObj (D + 1) (.loop (rc .busy none))) := hI.putObj _ hi (by omega) hl rfl
    refine wpIn_mono (hbody _ s x v _ hi2 (hput hok hl) hfit) ?_
    -- the round's end
    have fin : ∀ (j : Option Code) (K0 : Nat → Prop) (W3 : World), K0 D → K0 (D + 1) → KS K0 (W.putObj (D + 1) (.loop (rc .busy none))) W3 →
        (Instr.endRound (D + 1) j).run P W3 = .ok (.bool j.isNone) (W3.putObj (D + 1) (.loop (rc (if j.isNone then .ready else .done) j))) ∧
        W3.heap[D + 1]? = some (.loop (rc .busy none)) ∧
        (W3.putObj (D + 1) (.loop (rc (if j.isNone then .ready else .done) j))).heap[D + 1]? = some (.loop (rc (if j.isNone then .ready else .done) j)) ∧
        (W3.putObj (D + 1) (.loop (rc (if j.isNone then .ready else .done) j))).heap[D]? = some (.deferred (some [])) ∧
        KS (fun k => K0 k ∧ W1.heap.size ≤ k) W (W3.putObj (D + 1) (.loop (rc (if j.isNone then .ready else .done) j))) := fun j K0 W3 k0 k1 hk3 => by
      have hl3 : W3.heap[D + 1]? = some (.loop (rc .busy none)) := (hk3.2 _ k1 (by simp; omega)).trans hl2
      have hk4 : W3.heap[D]? = some (.deferred (some [])) := (hk3.2 _ k0 (by simp; omega)).trans hk2
      have hr := run_endRound (P := P) j hl3
      have e : ({ rc .busy none with state := if j.isNone then .ready else .done, pending := j } : Loop) = rc (if j.isNone then .ready else .done) j := by rw [hrc]
      rw [e] at hr
      exact ⟨hr, hl3, World.putObj_heap_same (Array.getElem?_eq_some_iff.1 hl3).1, (World.putObj_heap_other (by omega)).trans hk4,
        ((KS.put W _ (by omega)).trans (hk3.mono (fun k hk => hk.1))).trans (KS.put W3 _ (by omega))⟩
    rintro e a3 W3 hp
    cases e with
    | normal =>
      obtain ⟨hk3, s', hs', hi3, hgo⟩ := hp
      obtain ⟨hr, hl3, hl4, hk4, _⟩ := fin none (K s) W3 kd0 kd1 hk3
      refine ⟨_, _, hr, .inl ⟨rfl, ?_, s', hs', ⟨hI.putObj _ hi3 (by omega) hl3 rfl, hl4, hk4, hgo D kd0 (by simp; omega), hgo (D + 1) kd1 (by simp; omega)⟩, fun k h2 h3 => hgo k h2 (by simpa using h3)⟩⟩
      refine ⟨Nat.le_trans (by simpa using hk3.1) (by simp), fun k h2 h3 => ?_⟩
      by_cases hkd : k = D + 1
      · subst hkd; exact hl4.trans hl.symm
      · exact (World.putObj_heap_other hkd).trans ((hk3.2 k h2 (by simpa using h3)).trans (World.putObj_heap_other hkd))
    | ret =>
      obtain ⟨hk3, s', hs', hi3⟩ := hp
      obtain ⟨hr, hl3, hl4, hk4, hk5⟩ := fin (some .ret) _ W3 ⟨kd0, by omega⟩ ⟨kd1, by omega⟩ hk3
      exact ⟨_, _, hr, .inr ⟨rfl, hk5.mono fun k h => ⟨⟨h.1, by omega⟩, h.2⟩, s', hs', .ret, (hIx _).putObj _ hi3 (by omega) hl3 rfl, hl4, hk4⟩⟩
    | exit id =>
      obtain ⟨hk3, s', hs', hi3⟩ := hp
      obtain ⟨hr, hl3, hl4, hk4, hk5⟩ := fin (some (.exit id)) _ W3 ⟨kd0, by omega⟩ ⟨kd1, by omega⟩ hk3
      exact ⟨_, _, hr, .inr ⟨rfl, hk5.mono fun k h => ⟨⟨h.1, by omega⟩, h.2⟩, s', hs', .exit id, (hIx _).putObj _ hi3 (by omega) hl3 rfl, hl4, hk4⟩⟩
    | goto t =>
      obtain ⟨hk3, s', hs', hi3⟩ := hp
      obtain ⟨hr, hl3, hl4, hk4, hk5⟩ := fin (some (.goto t)) _ W3 ⟨kd0, by omega⟩ ⟨kd1, by omega⟩ hk3
      exact ⟨_, _, hr, .inr ⟨rfl, hk5.mono fun k h => ⟨⟨h.1, by omega⟩, h.2⟩, s', hs', .goto t, (hIx _).putObj _ hi3 (by omega) hl3 rfl, hl4, hk4⟩⟩
    | panic ch => exact hp.elim
    | outgrown => exact hp.elim
  · -- behind the iterator
    have hnb : ∀ st pe, st ≠ LoopState.busy → (rc st pe).state ≠ .busy := fun st pe h => by rw [hrc]; exact h
    have hpe : ∀ st pe, (rc st pe).pending = pe := fun st pe => by rw [hrc]
    rintro e W2 ⟨⟨v, rfl⟩, (⟨s, hsS, hi, hl, hk, _⟩ | ⟨s, ⟨r, hSp⟩, c, hi, hl, hk⟩)⟩
    · have hr := run_endLoop (P := P) hl (hnb _ _ (by decide))
      rw [hpe] at hr
      rw [hD] at hl hk hr ⊢
      exact ⟨none, _, hr, hdone _ s _ (Nat.le_refl _) hsS (hI.putObj _ hi (by omega) hl rfl) ((World.putObj_heap_other (by omega)).trans hk)⟩
    · have hr := run_endLoop (P := P) hl (hnb _ _ (by decide))
      rw [hpe] at hr
      rw [hD] at hl hk hr ⊢
      exact ⟨some c, _, hr, hstop _ c s r _ (Nat.le_refl _) hSp ((hIx c).putObj _ hi (by omega) hl rfl) ((World.putObj_heap_other (by omega)).trans hk)⟩
end Go.Proofs.YtjijgoflbjbnfaaGreat.Vt

namespace Go.Proofs.YtjijgoflbjbnfaaGreat.Vt
open Go.RowKit Go.Shelf Fr Sr Jo Sp
attribute [local go_sem] Oper.semAt_some
variable {β : Type}

/-- A journal lies in the heap alone. -/
theorem jst_heap {w w' : World} {p j t nx : Nat} {s : S} {mb : Option Nat} {L : List Fi} {jn : Bool} {sv : Value} {xs : List Xr} {rs : List Re} (h : JSt w p s mb L j t jn nx sv xs rs) (hh : w'.heap = w.heap) : JSt w' p s mb L j t jn nx sv xs rs := by
  obtain ⟨_, _, _, _⟩ := w
  obtain ⟨_, _, _, _⟩ := w'
  cases hh
  exact ⟨⟨h.st.blk, h.st.map, h.st.rows, h.st.apart, h.st.keys, h.st.used, h.st.room, h.st.left⟩, ⟨h.jr.blk, h.jr.tab, h.jr.vals, h.jr.asc, h.jr.lt, h.jr.few, h.jr.nxl⟩, h.sep⟩
section
variable {w w' : World} {p j t nx vb n c fr : Nat} {s : S} {mb : Option Nat} {L : List Fi} {jn sd : Bool} {sv : Value} {xs : List Xr} {rs : List Re} {A : Option Addr} {pk : List (List Int)} {Z : Nat → Prop}
theorem VaX.ks (h : VaX w Z p vb s mb L j t jn nx sv xs rs A n c pk fr sd) (hk : KS (fun k => k < w.heap.size) w w') : VaX w' Z p vb s mb L j t jn nx sv xs rs A n c pk fr sd := by
  obtain ⟨u, hu⟩ : ∃ u : World, u = { w' with heap := w.heap } := ⟨_, rfl⟩
  have e1 : u.heap = w.heap := by rw [hu]
  have h1 : VaX u Z p vb s mb L j t jn nx sv xs rs A n c pk fr sd := by
    refine ⟨jst_heap h.js e1, by rw [e1]; exact h.blk, ?_, h.zo, h.zv, h.zr, h.vn, by rw [e1]; exact h.zl⟩
    have h2 := h.row
    unfold RowsT BAt at h2 ⊢
    simp only [World.cell?] at h2 ⊢
    rw [e1]; exact h2
  refine h1.below ⟨by rw [hu], by rw [hu], by rw [hu], by rw [e1]; exact hk.1, fun k hkk => ?_⟩
  rw [e1] at hkk ⊢
  exact hk.2 k hkk hkk
end
/-- What is given: bytes in a row of their own, which the rounds leave alone. -/
def eR (N : Nat) (K : Nat → Prop) (x : List Int) (v : Value) (W : World) : Prop := EO N W v x ∧ ∀ g, v.ownBlock = some g → K g
theorem rowsO_at {w : World} {N : Nat} {T : Nat → Prop} {v : Value} {bs : List (List Int)} (h : RowsO w N T v bs) {i : Nat} {b : List Int} (hi : bs[i]? = some b) : ∃ g cap A m c, v = .slice (some ⟨g, 0, none⟩) bs.length cap ∧ N ≤ g ∧ g < w.heap.size ∧ w.cell? ⟨g, 0 + i, none⟩ = some (.slice A m c) ∧ EO N w (.slice A m c) b := by
  obtain ⟨us, h1, h2⟩ := h
  have hil : i < bs.length := (List.getElem?_eq_some_iff.1 hi).1
  have hul : us.length = bs.length := by have := h1.1; omega
  obtain ⟨u, hu⟩ : ∃ u, us[i]? = some u := ⟨us[i], List.getElem?_eq_getElem (by omega)⟩
  obtain ⟨h3, _⟩ := h2 i u b hu hi
  rcases h1.2 with ⟨_, h4⟩ | ⟨g, cap, cur, h4, h5, h6, _⟩
  · omega
  · subst h4
    have h7 := h1.cells (g := g) rfl i u hu
    obtain ⟨A, c, h8, _⟩ := BAt.of_own h3
    rw [h8] at h7 h3
    refine ⟨g, cap, A, _, c, rfl, h5, (Array.getElem?_eq_some_iff.1 h6).1, ?_, h3⟩
    rw [show (Addr.mk g 0 none).add i = ⟨g, 0 + i, none⟩ by unfold Addr.add; split <;> simp_all] at h7
    exact h7
end Go.Proofs.YtjijgoflbjbnfaaGreat.Vt

namespace Go.Proofs.YtjijgoflbjbnfaaGreat.Vt
open Go.RowKit Go.Shelf Fr Sr Jo Sp
attribute [local go_sem] Oper.semAt_some
variable {β : Type}
theorem ks_low {w w' : World} (h : KS (fun k => k < w.heap.size) w w') {g i : Nat} (hg : g < w.heap.size) : w'.cell? ⟨g, i, none⟩ = w.cell? ⟨g, i, none⟩ := by
  simp only [World.cell?]; rw [h.2 g hg hg]
theorem rowsO_len {w : World} {N : Nat} {T : Nat → Prop} {A : Option Addr} {n c : Nat} {bs : List (List Int)} (h : RowsO w N T (.slice A n c) bs) : n = bs.length := by
  obtain ⟨us, h1, _⟩ := h
  rcases h1.2 with ⟨h4, h5⟩ | ⟨g, cap, cur, h4, _⟩
  · cases h4; exact h5.symm
  · cases h4; rfl
/-- What the first loop keeps. -/
structure IV (J : β → World → Prop) (K : β → Nat → Prop) (Bs vb : Nat) (wT w : World) (s : β) (wr : World) : Prop where
  j : J s wr
  ks : KS (fun k => k < wT.heap.size) wT wr
  lo : Lo wT.heap.size (K s)
  sz : w.heap.size ≤ wr.heap.size
  bx : wr.heap[Bs]? = some (.cells #[.pointer (some ⟨vb, 0, none⟩)] 28 (0, 0))
  kb : K s Bs
theorem IV.next {J : β → World → Prop} {K : β → Nat → Prop} {Bs vb : Nat} {wT w wr w2 W3 : World} {s s' : β} (h : IV J K Bs vb wT w s wr) (hb : Below wr.heap.size wr w2) (hj : J s' W3) (hk : KS (K s) w2 W3) (hg : Goes (K s) (K s') w2) : IV J K Bs vb wT w s' W3 := by
  have h1 := h.ks.1
  have h2 := hb.size
  have hB : Bs < wr.heap.size := (Array.getElem?_eq_some_iff.1 h.bx).1
  refine ⟨hj, ⟨by have := hk.1; omega, fun i hi1 hi => ?_⟩, fun i hi => hg i (h.lo i hi) (by omega), by have := hk.1; have := h.sz; omega, ?_, hg Bs h.kb (by omega)⟩
  · exact (hk.2 i (h.lo i hi1) (by omega)).trans ((hb.block i (by omega)).trans (h.ks.2 i hi1 hi))
  · exact (hk.2 Bs h.kb (by omega)).trans ((hb.block Bs hB).trans h.bx)
set_option maxRecDepth 100000 in
set_option maxHeartbeats 4000000 in
theorem each1_v (n : Nat) (hn6 : 6 ≤ n) (seen : β → List (List Int)) (K : β → Nat → Prop) (Bs : Nat) {wT w : World} {p j t nx vb m c fr : Nat} {s : S} {mb : Option Nat} {L : List Fi} {jn sd : Bool} {sv : Value} {xs : List Xr} {rs : List Re} {A : Option Addr} {pk : List (List Int)} {Z : Nat → Prop} (h : VaX wT Z p vb s mb L j t jn nx sv xs rs A m c pk fr sd) (hTw : Below wT.heap.size wT w) (hBs : w.heap[Bs]? = some (.cells #[.pointer (some ⟨vb, 0, none⟩)] 28 (0, 0))) (hlr : ∀ r ∈ rs, r.2.length ≤ 2000000) (hlp : ∀ b ∈ pk, b.length ≤ 2000000) (hpk : pk.length ≤ 20000) {R : List (List Int)} (hR : (rs.drop (Tb.pl xs (fr : Int))).map (·.2) = R) (hRl : R.length ≤ 20000) :
    VSeq seen K (fun K0 => Lo wT.heap.size K0 ∧ K0 Bs) (fun _ _ => True) (eR w.heap.size) Fence.wide n Tryz.prog 62 #[.pointer (some ⟨Bs, 0, none⟩)] (pk ++ R) w := by
  intro l J Jx W hW hJ hJx hJK _ hY s0 hs0 h0 hC
  have hb1 := (block_cell (block_kept hBs hW)).1
  have hW2 := h.below (hTw.trans (hW.mono hTw.size))
  obtain ⟨⟨c0, c1, c2, c3, c4⟩, _⟩ := five hW2.blk
  have hm := rowsT_len h.row
  have HV := Lib.hid h
  have HY := Lib.hid hY
  have HJ := Lib.hid hJ
  have HJK := Lib.hid hJK
  have HW := Lib.hid hW
  have HL := Lib.hid (And.intro hlr (And.intro hlp (And.intro hR hm)))
  have H0 : Hid (seen s0 = pk.take 0 ∧ IV J K Bs vb wT w s0 W) := ⟨by rw [hs0]; rfl, h0, KS.of_below (hTw.trans (hW.mono hTw.size)), hC.1, hW.size, block_kept hBs hW, hC.2⟩
  have HTW := Lib.hid hTw.size
  have hn2 : 1 ≤ n := by omega
  have hm9 : m ≤ 20000 := by omega
  clear h hTw hW2 hBs hY hJ hJx hJK h0 hC hs0 hW hlr hlp hR hm
  refine callsIn_of_wp Tryz.func62 rfl trivial ?_ rfl
  simp only [Tryz.ntmps62, List.size_toArray, List.length_cons, List.length_nil, Nat.reduceAdd, Nat.reduceSub, Array.replicate_succ, Array.replicate_zero, List.push_toArray, List.append_toArray, List.nil_append, List.cons_append]
  gi_wp2
  gi_loopw [13] (fun i wr => ∃ (k : Nat) (s : β), k ≤ m ∧ i = .int .i64 (k : Int) ∧ Hid (seen s = pk.take k ∧ IV J K Bs vb wT w s wr))
    (fun i _ => m - (intOf i).toNat)
  case atStart => exact ⟨0, s0, Nat.zero_le _, rfl, H0.out⟩
  case round =>
    obtain ⟨k, s, hk, rfl, hinv⟩ := hrel
    by_cases hlt : k < m
    · have HX := HV.out.ks hinv.out.2.ks
      have hkp : k < pk.length := by rw [← HL.out.2.2.2]; exact hlt
      obtain ⟨x, hx⟩ : ∃ x, pk[k]? = some x := ⟨_, List.getElem?_eq_getElem hkp⟩
      have hts : Hid (pk.take (k + 1) = pk.take k ++ [x]) := by
        show _ = _
        rw [List.take_add_one, hx]; rfl
      have hfit : Hid (∃ r', pk ++ R = seen s ++ x :: r') := by
        refine ⟨pk.drop (k + 1) ++ R, ?_⟩
        rw [hinv.out.1]
        have h1 : pk = pk.take k ++ (x :: pk.drop (k + 1)) := by
          rw [List.getElem?_eq_getElem hkp] at hx
          rw [← Option.some.inj hx, ← List.drop_eq_getElem_cons hkp, List.take_append_drop]
        conv => lhs; rw [h1]
        simp
      obtain ⟨g, o, Au, nu, qu, x2, hA, hx2, hnu, cu, hat⟩ := rows_at HX.row.toA hlt
      have hxx : x2 = x := by rw [hx] at hx2; exact (Option.some.inj hx2).symm
      subst hxx
      subst hA
      have hnl : nu ≤ 2000000 := by rw [hnu]; exact HL.out.2.1 _ (List.mem_of_getElem? hx)
      have HCL := Lib.hid (clone_own wr Au nu qu x2 hat hnl)
      have t1 : (k : Int) < (m : Int) := by omega
      have t2 : (0 : Int) ≤ (k : Int) := by omega
      have HINV := hinv
      clear hnu hx hx2 hat hkp HX hnl
      gi_wp2_with (refine ⟨trivial, ?_⟩; gi_at_call 38; refine (callsIn_wide.2 HCL.out).mono ?_; rintro e w2 ⟨A2, c2', rfl, heo, hb2⟩
                   obtain ⟨fn, tmps, assign, body, hy, hRd⟩ := yield_any (n - 1) (HY.out s _ (.slice A2 nu c2') w2 (own_below HJ.out HINV.out.2.j hb2) ⟨Go.Joins.ownsRow_le heo HINV.out.2.sz, fun g hg => HJK.out s wr HINV.out.2.j g (heo.lt g hg).1⟩ hfit.out)
                   have HB2 := Lib.hid hb2)
      refine hRd.mono ?_
      rintro e W3 (⟨rfl, hk3, s', hs', hJ3, hgo⟩ | ⟨rfl, _, s', hs', hJx3⟩)
      · have HJ3 : Hid (seen s' = pk.take (k + 1) ∧ IV J K Bs vb wT w s' W3) := ⟨by rw [hts.out, hs', HINV.out.1], HINV.out.2.next HB2.out hJ3 hk3 hgo⟩
        clear hJ3 hk3 hy hRd hgo hs'
        gi_wp2
        go_roundw
        case rel => exact ⟨k + 1, s', by omega, by go_num, HJ3.out⟩
        case measure => simp [intOf]; omega
      · have HJ3 := Lib.hid hJx3
        have HS := Lib.hid hs'
        clear hJx3 hy hRd hs'
        gi_wp2
        refine bodyPost_ret (results_none rfl _ _ _) rfl ?_
        obtain ⟨r', hr'⟩ := hfit.out
        exact ⟨⟨_, rfl⟩, .inr ⟨s', ⟨r', by rw [HS.out, hr']; simp⟩, HJ3.out⟩⟩
    · obtain rfl : k = m := by omega
      have HX := HV.out.ks hinv.out.2.ks
      obtain ⟨⟨d0, d1, d2, d3, d4⟩, _⟩ := five HX.blk
      have d5 : wr.cell? ⟨Bs, 0, none⟩ = some (.pointer (some ⟨vb, 0, none⟩)) := (block_cell hinv.out.2.bx).1
      have hre := vrest_any HX HL.out.1
      rw [HL.out.2.2.1] at hre
      have HRE := Lib.hid hre
      have t0 : ¬ (k : Int) < (k : Int) := by omega
      have HINV := hinv
      clear hre HX
      gi_wp2_with (refine ⟨trivial, ?_⟩; gi_at_call 63; refine (callsIn_wide.2 HRE.out).mono ?_; rintro e w4 ⟨v4, rfl, hr4, hb4⟩; obtain ⟨A4, n4, c4', rfl⟩ := rowsO_eq hr4; have HR4 := Lib.hid hr4; have HB4 := Lib.hid hb4; clear hr4 hb4)
      obtain ⟨N0, hN0⟩ : ∃ N0, N0 = wr.heap.size := ⟨_, rfl⟩
      have HR5 : Hid (RowsO w4 N0 (fun _ => False) (.slice A4 n4 c4') R) := by rw [hN0]; exact HR4.out
      have HN0 : Hid (w.heap.size ≤ N0) := by show _ ≤ _; rw [hN0]; exact HINV.out.2.sz
      have h4l := rowsO_len HR4.out
      have hw4 : w.heap.size ≤ wr.heap.size := HINV.out.2.sz
      have H4L := Lib.hid h4l
      have h49 : n4 ≤ 20000 := by rw [h4l]; exact hRl
      have H1 : Hid (seen s = pk ++ R.take 0 ∧ J s w4 ∧ KS (fun i => N0 ≤ i) w4 w4 ∧ ∀ i, N0 ≤ i → i < w4.heap.size → K s i) := by
        refine ⟨?_, own_below HJ.out HINV.out.2.j HB4.out, KS.refl _ _, fun i hi _ => HJK.out s wr HINV.out.2.j i (by omega)⟩
        rw [HINV.out.1, HL.out.2.2.2, List.take_length]; simp
      clear hN0 h4l hw4 hinv HINV HRE d0 d1 d2 d3 d4 d5 hb1 c0 c1 c2 c3 c4
      gi_loopw [28] (fun i wx => ∃ (k : Nat) (s : β), k ≤ n4 ∧ i = .int .i64 (k : Int) ∧ Hid (seen s = pk ++ R.take k ∧ J s wx ∧ KS (fun i => N0 ≤ i) w4 wx ∧ ∀ i, N0 ≤ i → i < w4.heap.size → K s i))
        (fun i _ => n4 - (intOf i).toNat)
      case atStart => exact ⟨0, s, Nat.zero_le _, rfl, H1.out⟩
      case round =>
        obtain ⟨k2, s2, hk2, rfl, hinv⟩ := hrel
        by_cases hlt2 : k2 < n4
        · have hkR : k2 < R.length := by rw [← H4L.out]; exact hlt2
          obtain ⟨x, hx⟩ : ∃ x, R[k2]? = some x := ⟨_, List.getElem?_eq_getElem hkR⟩
          have hts : Hid (pk ++ R.take (k2 + 1) = pk ++ R.take k2 ++ [x]) := by
            show _ = _
            rw [List.take_add_one, hx]; simp
          have hfit : Hid (∃ r', pk ++ R = seen s2 ++ x :: r') := by
            refine ⟨R.drop (k2 + 1), ?_⟩
            rw [hinv.out.1]
            have h1 : R = R.take k2 ++ (x :: R.drop (k2 + 1)) := by
              rw [List.getElem?_eq_getElem hkR] at hx
              rw [← Option.some.inj hx, ← List.drop_eq_getElem_cons hkR, List.take_append_drop]
            conv => lhs; rw [h1]
            simp
          obtain ⟨g, cap, Au, nu, cu, he, hg0, hg, hc, heo⟩ := rowsO_at HR5.out hx
          simp only [Value.slice.injEq] at he
          obtain ⟨rfl, hz1, hz2⟩ := he
          clear hz1 hz2
          rw [Nat.zero_add] at hc
          have c9 : wr.cell? ⟨g, k2, none⟩ = some (.slice Au nu cu) := by
            have h1 := hinv.out.2.2.1.2 g hg0 hg
            simp only [World.cell?] at hc ⊢
            rw [h1]; exact hc
          have heo2 : EO N0 wr (.slice Au nu cu) x := Oc.ownsRow_kept heo (fun i hi => hinv.out.2.2.1.2 i (heo.lt i hi).1 (heo.lt i hi).2)
          obtain ⟨fn, tmps, assign, body, hy, hRd⟩ := yield_any (n - 1) (HY.out s2 _ (.slice Au nu cu) wr hinv.out.2.1 ⟨Go.Joins.ownsRow_le heo2 HN0.out, fun i hi => hinv.out.2.2.2 i (heo.lt i hi).1 (heo.lt i hi).2⟩ hfit.out)
          have t1 : (k2 : Int) < (n4 : Int) := by omega
          have t2 : (0 : Int) ≤ (k2 : Int) := by omega
          have HINV := hinv
          have HS4 : Hid (w4.heap.size ≤ wr.heap.size) := hinv.out.2.2.1.1
          clear hc heo heo2 hx hkR hinv
          gi_wp2
          refine hRd.mono ?_
          rintro e W3 (⟨rfl, hk3, s', hs', hJ3, hgo⟩ | ⟨rfl, _, s', hs', hJx3⟩)
          · have HJ3 : Hid (seen s' = pk ++ R.take (k2 + 1) ∧ J s' W3 ∧ KS (fun i => N0 ≤ i) w4 W3 ∧ ∀ i, N0 ≤ i → i < w4.heap.size → K s' i) := by
              refine ⟨by rw [hts.out, hs', HINV.out.1], hJ3, ⟨Nat.le_trans HS4.out hk3.1, fun i h1 h2 => ?_⟩, fun i h1 h2 => hgo i (HINV.out.2.2.2 i h1 h2) (Nat.lt_of_lt_of_le h2 HS4.out)⟩
              exact (hk3.2 i (HINV.out.2.2.2 i h1 h2) (Nat.lt_of_lt_of_le h2 HS4.out)).trans (HINV.out.2.2.1.2 i h1 h2)
            clear hJ3 hk3 hy hRd hgo hs'
            gi_wp2
            go_roundw
            case rel => exact ⟨k2 + 1, s', by omega, by go_num, HJ3.out⟩
            case measure => simp [intOf]; omega
          · have HJ3 := Lib.hid hJx3
            have HS := Lib.hid hs'
            clear hJx3 hy hRd hs'
            gi_wp2
            refine bodyPost_ret (results_none rfl _ _ _) rfl ?_
            obtain ⟨r', hr'⟩ := hfit.out
            exact ⟨⟨_, rfl⟩, .inr ⟨s', ⟨r', by rw [HS.out, hr']; simp⟩, HJ3.out⟩⟩
        · obtain rfl : k2 = n4 := by omega
          have HE : Hid (seen s2 = pk ++ R ∧ J s2 wr) := ⟨by rw [hinv.out.1, H4L.out, List.take_length], hinv.out.2.1⟩
          have t0 : ¬ (k2 : Int) < (k2 : Int) := by omega
          clear hinv
          gi_wp2
          go_end0
          exact ⟨⟨_, rfl⟩, .inl ⟨s2, HE.out⟩⟩
end Go.Proofs.YtjijgoflbjbnfaaGreat.Vt
