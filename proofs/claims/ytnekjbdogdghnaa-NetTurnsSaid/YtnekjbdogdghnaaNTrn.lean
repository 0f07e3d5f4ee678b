/-
  A row of slices that came in, cut at 40; a network of one way beside it: its turns and what it tells. Conditions: none.
-/
import Derived.Test.YtnekjbdogdghnaaNOpen
import Derived.Test.YtnekjbdogdghnaaWQuiet
import Derived.Deep.RegionHeld3
namespace Go.Proofs.Ytnekjbdogdghnaa.Ne
open Go.RowKit Go.Conc Bx
open Fr (BAt bok bv)

theorem step_app_run {P : Program} (w : World) {ops : Array Oper} {o : Oper} {a : Act} {K : Act → World → Prop} {Q : Exit → Act → World → Prop} {E : Prop} (hgd : o.guard = none) (s x : Operand) (t tn : TypeId)
    (ho : o.op = .call { callee := .builtin .append, args := #[s, x], argTypes := #[t, tn] }) (vs vx : Value) (hs : a.eval s = vs) (hx : a.eval x = vx)
    (v' : Value) (w' : World) (hr : (Builtin.append_ #[t, tn] o.type #[vs, vx]).run P w = .ok v' w') (h : K (a.put o.dst v') w') :
    if Region.wanted o (yielded ops a.tmps) = true then Oper.wp P o a w K Q else E := by
  have hw : Region.wanted o (yielded ops a.tmps) = true := by simp [Region.wanted, hgd]
  rw [if_pos hw]
  exact Lib.wp_append_run w s x t tn ho vs vx hs hx v' w' hr h
theorem own_ch {n0 n B size : Nat} {w w' : World} {e : TypeId} {v : Value} {xs : List Value} (h : w.ownsRow B e size v n xs) (hc : Ch n0 w w') (he : e = 5 ∨ e = 37) : w'.ownsRow B e size v n xs := by
  obtain ⟨h1, h2⟩ := h
  refine ⟨h1, ?_⟩
  rcases h2 with h2 | ⟨g, cap, cur, rfl, hg, hh, h5⟩
  · exact .inl h2
  · have hf := free_new (n0 := n0) hh he
    exact .inr ⟨g, cap, cur, rfl, hg, (hc.block g hf.1 hf.2).trans hh, h5⟩
theorem BFr.take {n0 : Nat} {w : World} {A : Option Addr} {q c : Nat} {l : List Int} (h : BFr n0 w (.slice A q c) l) (m : Nat) (hm : m ≤ q) : BFr n0 w (.slice A m c) (l.take m) := by
  obtain ⟨A', c', e, h2, h3, h4⟩ := h
  cases e
  have hl : (l.take m).length = m := by rw [List.length_take]; omega
  refine ⟨A, c, by rw [hl], by rw [hl]; omega, Fr.bok_take h3 m, fun hp => ?_⟩
  rw [hl] at hp ⊢
  obtain ⟨g, o, h5, h6, h7⟩ := h4 (by omega)
  exact ⟨g, o, h5, h6, fun i hi => by rw [h7 i (by omega), Fr.getD_take hi]⟩
theorem BFr.len {n0 : Nat} {w : World} {A : Option Addr} {q c : Nat} {l : List Int} (h : BFr n0 w (.slice A q c) l) : l.length = q ∧ q ≤ c := by
  obtain ⟨A', c', e, h2, _⟩ := h
  cases e
  exact ⟨rfl, h2⟩
theorem BFr.old {w W : World} {u : Value} {l : List Int} (h : BFr w.heap.size w u l) (hb : Below w.heap.size w W) : BFr w.heap.size W u l := h.ch (.of_below hb)
/-- A row of one's own of slices that came in. -/
structure SoR (w : World) (B : Nat) (W : World) (v : Value) (vs : List Value) (ts : List (List Int)) : Prop where
  own : W.ownsRow B 37 1 v vs.length vs
  len : vs.length = ts.length
  at_ : ∀ (j : Nat) (u : Value) (l : List Int), vs[j]? = some u → ts[j]? = some l → BFr w.heap.size w u l
section
variable {w W W' W1 : World} {B : Nat} {v u : Value} {vs : List Value} {ts : List (List Int)} {l : List Int}
theorem SoR.nil (w : World) (B : Nat) (W : World) : SoR w B W (.slice none 0 0) [] [] := ⟨World.ownsRow_nil _ _ _ _, rfl, fun j u l h => by simp at h⟩
theorem SoR.ch {n0 : Nat} (h : SoR w B W v vs ts) (hc : Ch n0 W W') : SoR w B W' v vs ts := ⟨own_ch h.own hc (.inr rfl), h.len, h.at_⟩
theorem SoR.form (h : SoR w B W v vs ts) : ∃ A c, v = .slice A ts.length c ∧ ts.length ≤ c := by
  obtain ⟨A, c, h1, h2⟩ := own_form h.own
  exact ⟨A, c, by rw [h1, h.len], by rw [← h.len]; exact h2⟩
theorem SoR.app (h : SoR w B W v vs ts) (hu : BFr w.heap.size w u l) (hb : Below W.heap.size W W1) (hB : B ≤ W.heap.size) (hn : ts.length ≤ 5000) :
    ∃ A c W2, (∀ ty, (Builtin.append_ #[33, 33] ty #[v, .slice (some ⟨W1.heap.size, 0, none⟩) 1 1]).run Try.prog (W1.alloc (.cells #[u] 37)) = .ok (.slice A (ts.length + 1) c) W2) ∧ SoR w B W2 (.slice A (ts.length + 1) c) (vs ++ [u]) (ts ++ [l]) ∧ Below B W W2 := by
  obtain ⟨i0, hi0, hz0, hz1, hz2⟩ := info_parts Fr.byInf
  have hal : Below W1.heap.size W1 (W1.alloc (.cells #[u] 37)) := (Below.refl _ _).alloc (Nat.le_refl _) _
  have hal2 := hb.trans (hal.mono hb.size)
  have hnew := block_new W1 (.cells #[u] 37)
  have h1 : u.oneCell' = true := by obtain ⟨A, c, rfl, _⟩ := hu; rfl
  have hcell : ∀ j x, ([u] : List Value)[j]? = some x → (W1.alloc (.cells #[u] 37)).cell? ((⟨W1.heap.size, 0, none⟩ : Addr).add j) = some x := by
    intro j x hj
    match j, hj with
    | 0, hj => cases hj; exact (block_cell hnew).1
  have own' := own_below h.own hal2
  have hlen := h.len
  have hrun := fun ty => run_append_own (P := Try.prog) (W1.alloc (.cells #[u] 37)) B 33 ty 37 i0 _ 1 _ Try.underlying33 hi0 hz0 hz1 hz2 (by decide) (by decide) v vs.length vs own' ⟨W1.heap.size, 0, none⟩ 1 1 [u] rfl hcell (fun x hx => by
    simp at hx
    rw [hx]; exact h1) (by unfold maxLen; omega) (by omega) (Nat.le_trans hB hal2.size)
  obtain ⟨v', W2, hr, ho, hg, _⟩ := hrun 33
  have ho2 : W2.ownsRow B 37 1 v' (vs ++ [u]).length (vs ++ [u]) := by rw [List.length_append, List.length_singleton]; exact ho
  obtain ⟨A, c, h2, _⟩ := own_form ho2
  rw [List.length_append, List.length_singleton, hlen] at h2
  subst h2
  refine ⟨A, c, W2, fun ty => hr, ⟨ho2, by simp [hlen], fun j x y hj hy => ?_⟩, (hal2.mono hB).grown hg (Nat.le_trans hB hal2.size) (fun k hk => (own'.lt k hk).1)⟩
  rcases Nat.lt_or_ge j vs.length with hlt | hge
  · rw [List.getElem?_append_left hlt] at hj
    rw [List.getElem?_append_left (by omega)] at hy
    exact h.at_ j x y hj hy
  · rw [List.getElem?_append_right hge] at hj
    rw [List.getElem?_append_right (by omega)] at hy
    have hj0 : j - vs.length = 0 := by
      have := (List.getElem?_eq_some_iff.1 hj).1
      simp at this; omega
    rw [← hlen, hj0] at hy
    rw [hj0] at hj
    simp at hj hy
    subst hj hy
    exact hu
/-- What stands at a place of it. -/
theorem SoR.get (h : SoR w B W v vs ts) (hb : Below w.heap.size w W) {j : Nat} {l : List Int} (hl : ts[j]? = some l) : ∃ g c A q k, v = .slice (some ⟨g, 0, none⟩) ts.length c ∧ B ≤ g ∧ W.cell? ⟨g, j, none⟩ = some (.slice A q k) ∧ BFr w.heap.size w (.slice A q k) l ∧ Free w.heap.size W g := by
  have hj : j < vs.length := by rw [h.len]; exact (List.getElem?_eq_some_iff.1 hl).1
  have hv : vs[j]? = some vs[j] := List.getElem?_eq_getElem hj
  have hb := h.at_ j _ l hv hl
  rcases h.own.2 with ⟨_, h2⟩ | ⟨g, cap, cur, h2, h3, h4, _⟩
  · omega
  · have hc := h.own.cells (g := g) (by rw [h2]; rfl) j _ hv
    rw [show (Addr.mk g 0 none).add j = ⟨g, j, none⟩ by unfold Addr.add; split <;> simp_all] at hc
    obtain ⟨A, k, e, _⟩ := id hb
    rw [e] at hc hb
    exact ⟨g, cap, A, l.length, k, by rw [h2, h.len], h3, hc, hb, free_new h4 (.inr rfl)⟩
theorem SoR.sfr (h : SoR w B W v vs ts) (hb : Below w.heap.size w W) : SFr w.heap.size W v ts := by
  obtain ⟨A, c, h1, h2⟩ := h.form
  refine ⟨A, c, h1, h2, fun hp => ?_⟩
  obtain ⟨l, hl⟩ : ∃ l, ts[0]? = some l := ⟨_, List.getElem?_eq_getElem hp⟩
  obtain ⟨g, c', _, _, _, h3, _, _, _, h5⟩ := h.get hb hl
  rw [h1] at h3
  simp only [Value.slice.injEq] at h3
  refine ⟨g, 0, h3.1, h5, fun i l hi => ?_⟩
  obtain ⟨g2, c2, A2, q2, k2, h6, _, h7, h8, _⟩ := h.get hb hi
  rw [h1] at h6
  simp only [Value.slice.injEq] at h6
  have : g = g2 := by have := h3.1.symm.trans h6.1; cases this; rfl
  subst this
  exact ⟨_, by rw [Nat.zero_add]; exact h7, h8.old hb⟩
end
/-- All of them cut at 40, the first twenty. -/
def trL (ts : List (List Int)) : List (List Int) := (ts.take 20).map (·.take 40)
theorem trL_len (ts : List (List Int)) : (trL ts).length = min 20 ts.length := by simp [trL]
theorem trL_step {ts : List (List Int)} {i : Nat} {l : List Int} (hi : i < 20) (h : ts[i]? = some l) : trL (ts.take (i + 1)) = trL (ts.take i) ++ [l.take 40] := by
  have hl : i < ts.length := (List.getElem?_eq_some_iff.1 h).1
  have he : ts[i] = l := (List.getElem?_eq_some_iff.1 h).2
  unfold trL
  rw [List.take_take, List.take_take, Nat.min_eq_right (by omega), Nat.min_eq_right (by omega), List.take_succ_eq_append_getElem hl, List.map_append, he]
  rfl
theorem trL_all {ts : List (List Int)} {k : Nat} (hk : k = min 20 ts.length) : trL (ts.take k) = trL ts := by
  unfold trL
  rw [List.take_take]
  congr 1
  rcases Nat.lt_or_ge 20 ts.length with h1 | h1
  · rw [show min 20 k = 20 by omega]
  · rw [List.take_of_length_le (by omega), List.take_of_length_le h1]
/-! ### A network of one way beside it -/
structure TS (w W : World) (v : Value) (vs : List Value) (ts : List (List Int)) (l : List V) : Prop where
  net : ∃ g cp arr bs, NetB w.heap.size W w.heap.size 100 [l] 0 g cp arr bs
  row : SoR w w.heap.size W v vs ts
  bel : Below w.heap.size w W
section
variable {w W W' : World} {v : Value} {vs : List Value} {ts : List (List Int)} {l l' : List V} {x : V} {r : List V}
theorem TS.step {g cp : Nat} {arr : Array Value} {bs : List (Nat × Nat)} (h : TS w W v vs ts l) (hn : NetB w.heap.size W' w.heap.size 100 [l'] 0 g cp arr bs) (hc : Ch w.heap.size W W') : TS w W' v vs ts l' :=
  ⟨⟨g, cp, arr, bs, hn⟩, h.row.ch hc, h.bel.trans (hc.below h.bel.size)⟩
theorem TS.below (h : TS w W v vs ts l) (hb : Below W.heap.size W W') : TS w W' v vs ts l := by
  obtain ⟨g, cp, arr, bs, hn⟩ := h.net
  exact h.step (hn.below hb) (.of_below hb)
theorem TS.turn (h : TS w W v vs ts (x :: r)) : Calls Try.prog 16 #[.pointer (some ⟨w.heap.size, 0, none⟩), .int .i64 0] W fun e w' => e = .returned (.int .i64 0) ∧ TS w w' v vs ts (r ++ [x]) := by
  obtain ⟨g, cp, arr, bs, hn⟩ := h.net
  exact (turn_any hn 0).mono fun e w' ⟨h1, h2, h3⟩ => ⟨h1, h.step (l' := r ++ [x]) h2 h3⟩
theorem TS.all (h : TS w W v vs ts l) : Calls Try.prog 24 #[.pointer (some ⟨w.heap.size, 0, none⟩), .int .i64 0] W fun e w' => ∃ u, e = .returned u ∧ (∃ us, BoX W.heap.size w' u us (bys l)) ∧ TS w w' v vs ts l := by
  obtain ⟨g, cp, arr, bs, hn⟩ := h.net
  exact (nAll_yes hn (i := 0) (l := l) rfl).mono fun e w' ⟨u, h1, h2, h3, h4⟩ => ⟨u, h1, h2, h.step h3 h4⟩
theorem TS.len (h : TS w W v vs ts l) : Calls Try.prog 26 #[.pointer (some ⟨w.heap.size, 0, none⟩), .int .i64 0] W fun e w' => e = .returned (.int .i64 (l.length : Int)) ∧ TS w w' v vs ts l := by
  obtain ⟨g, cp, arr, bs, hn⟩ := h.net
  exact (nLen_yes hn (i := 0) (l := l) rfl).mono fun e w' ⟨h1, h2⟩ => ⟨h1, h.below h2⟩
theorem TS.double (h : TS w W v vs ts (x :: r)) (hr : (x :: r).length < 100) : Calls Try.prog 20 #[.pointer (some ⟨w.heap.size, 0, none⟩), .int .i64 0] W fun e w' => e = .returned (.int .i64 0) ∧ TS w w' v vs ts (x :: r ++ [x]) := by
  obtain ⟨g, cp, arr, bs, hn⟩ := h.net
  have hR : ¬ 100 ≤ (x :: r).length := by omega
  have e1 : dblE 100 [x :: r] 0 = 0 := if_neg hR
  have e2 : dblL 100 [x :: r] 0 = [x :: r ++ [x]] := if_neg hR
  have := double_any hn 0
  rw [e1, e2] at this
  exact this.mono fun e w' ⟨h1, h2, h3⟩ => ⟨h1, h.step h2 h3⟩
theorem TS.double0 (h : TS w W v vs ts []) : Calls Try.prog 20 #[.pointer (some ⟨w.heap.size, 0, none⟩), .int .i64 0] W fun e w' => e = .returned (.int .i64 13) ∧ TS w w' v vs ts [] := by
  obtain ⟨g, cp, arr, bs, hn⟩ := h.net
  exact (double_any hn 0).mono fun e w' ⟨h1, h2, h3⟩ => ⟨h1, h.step (l' := []) h2 h3⟩
theorem TS.bend0 (h : TS w W v vs ts []) (a b : Int) (hb : 0 ≤ b ∧ b < 256) : Calls Try.prog 22 #[.pointer (some ⟨w.heap.size, 0, none⟩), .int .i64 0, .int .i64 a, .int .u8 b] W fun e w' => e = .returned (.int .i64 13) ∧ TS w w' v vs ts [] := by
  obtain ⟨g, cp, arr, bs, hn⟩ := h.net
  exact (bend_any hn 0 a b hb (fun l hl x hx => by simp at hl; subst hl; cases hx)).mono fun e w' ⟨h1, h2, h3⟩ => ⟨h1, h.step (l' := []) h2 h3⟩
theorem TS.bend (h : TS w W v vs ts (x :: r)) (a b : Int) (hb : 0 ≤ b ∧ b < 256) (hs : ∀ y ∈ x :: r, y.1.size ≤ 2000000) : Calls Try.prog 22 #[.pointer (some ⟨w.heap.size, 0, none⟩), .int .i64 0, .int .i64 a, .int .u8 b] W fun e w' => e = .returned (.int .i64 (pbE x a b)) ∧ TS w w' v vs ts (if pbE x a b = 0 then r ++ [pbV x a b] else x :: r) := by
  obtain ⟨g, cp, arr, bs, hn⟩ := h.net
  have e1 : bendL [x :: r] 0 a b = [if pbE x a b = 0 then r ++ [pbV x a b] else x :: r] := by
    unfold bendL
    rw [show wayF [x :: r] 0 = some (x :: r) from rfl]
    show (if pbE x a b = 0 then [r ++ [pbV x a b]] else [x :: r]) = _
    split <;> rfl
  have := bend_any hn 0 a b hb (fun l hl y hy => by simp at hl; subst hl; exact hs y hy)
  rw [e1] at this
  exact this.mono fun e w' ⟨h1, h2, h3⟩ => ⟨h1, h.step h2 h3⟩
theorem TS.send (h : TS w W v vs ts []) (A : Option Addr) (k c : Nat) (hv : v = .slice A k c) (hk : ts.length = k) (hn : k ≤ 100) : Calls Try.prog 12 #[.pointer (some ⟨w.heap.size, 0, none⟩), .int .i64 0, v] W fun e w' => e = .returned (.int .i64 (k : Int)) ∧ TS w w' v vs ts (news ts) := by
  subst hv
  obtain ⟨g, cp, arr, bs, hnet⟩ := h.net
  have e0 : sendK 100 [] k = k := by unfold sendK; simp; omega
  have e1 : sendN 100 [[]] 0 k = k := e0
  have e2 : sendL 100 [[]] 0 ts = [news ts] := by
    show [[] ++ news (ts.take (sendK 100 [] ts.length))] = _
    rw [hk, e0, List.take_of_length_le (by omega)]; rfl
  have := nSend_any hnet 0 A k c ts hk (h.row.sfr h.bel) (by omega) (by omega) (by omega)
  rw [e1, e2, show (0 : Int) + ((k : Int) - (k : Int)) = 0 by omega] at this
  exact this.mono fun e w' ⟨h1, h2, h3⟩ => ⟨h1, h.step h2 h3⟩
end
end Go.Proofs.Ytnekjbdogdghnaa.Ne
