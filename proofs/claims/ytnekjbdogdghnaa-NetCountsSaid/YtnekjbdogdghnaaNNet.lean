/-
  A network in memory; what leaves it as it is; has, way and busy. Conditions: at most three ways of at most a thousand packets.
-/
import Derived.Test.YtnekjbdogdghnaaNAll
namespace Go.Proofs.Ytnekjbdogdghnaa.Ne
open Go.RowKit Go.Conc Bx

/-- The kinds of blocks that networks are of. -/
def kindN : Obj → Prop
  | .chan .. => True
  | .cells _ t _ => t = 83 ∨ t = 65 ∨ t = 67 ∨ t = 60
  | _ => False
def NB (w : World) (k : Nat) : Prop := ∃ o, w.heap[k]? = some o ∧ kindN o
/-- A network p of ways with room for R, in which ls are on their way, and which lost so many; its blocks lie from n0 on. -/
def NetB (n0 : Nat) (w : World) (p R : Nat) (ls : List (List V)) (lost : Int) (g cp : Nat) (arr : Array Value) (bs : List (Nat × Nat)) : Prop :=
  bs.length = ls.length ∧ (n0 ≤ p ∧ n0 ≤ g) ∧ w.heap[p]? = some (.cells #[.slice (some ⟨g, 0, none⟩) ls.length cp, .int .i64 lost] 60 (0, 0)) ∧ w.heap[g]? = some (.cells arr 67 (0, 0)) ∧ (R ≤ 1000 ∧ ls.length ≤ 3 ∧ ls.length ≤ cp) ∧
    (∀ (i : Nat) (b : Nat × Nat), bs[i]? = some b → arr[i]? = some (.pointer (some ⟨b.1, 0, none⟩))) ∧
    (∀ (i : Nat) (b : Nat × Nat) (l : List V), bs[i]? = some b → ls[i]? = some l → BoxR n0 w b.1 b.2 R l ∧ l.length ≤ R) ∧
    (∀ (i j : Nat) (b b' : Nat × Nat), bs[i]? = some b → bs[j]? = some b' → i ≠ j → b.2 ≠ b'.2)
def NetR (n0 : Nat) (w : World) (p R : Nat) (ls : List (List V)) (lost : Int) : Prop := ∃ g cp arr bs, NetB n0 w p R ls lost g cp arr bs
/-- What calls of a network change: blocks of its kinds, from n0 on. -/
structure Ch (n0 : Nat) (w w' : World) : Prop where
  os : w'.os = w.os
  tape : w'.tape = w.tape
  output : w'.output = w.output
  size : w.heap.size ≤ w'.heap.size
  block : ∀ k, k < w.heap.size → ¬ (n0 ≤ k ∧ NB w k) → w'.heap[k]? = w.heap[k]?
theorem Ch.of_below {n0 : Nat} {w w' : World} (h : Below w.heap.size w w') : Ch n0 w w' := ⟨h.os, h.tape, h.output, h.size, fun k hk _ => h.block k hk⟩
theorem Ch.refl (n0 : Nat) (w : World) : Ch n0 w w := .of_below (Below.refl _ _)
theorem Ch.trans {n0 : Nat} {a b c : World} (h : Ch n0 a b) (k : Ch n0 b c) : Ch n0 a c :=
  ⟨k.os.trans h.os, k.tape.trans h.tape, k.output.trans h.output, Nat.le_trans h.size k.size, fun i hi hn => by
    have e := h.block i hi hn
    exact (k.block i (Nat.lt_of_lt_of_le hi h.size) (fun ⟨x, o, y, z⟩ => hn ⟨x, o, e ▸ y, z⟩)).trans e⟩
theorem Ch.below {n0 : Nat} {w w' : World} (h : Ch n0 w w') (hn : n0 ≤ w.heap.size) : Below n0 w w' := ⟨h.os, h.tape, h.output, h.size, fun k hk => h.block k (by omega) (fun ⟨x, _⟩ => by omega)⟩
theorem Ch.of_grown {n0 c : Nat} {w w' : World} {o : Obj} (h : w.grownBy w' (some c)) (h1 : n0 ≤ c) (h2 : w.heap[c]? = some o) (h3 : kindN o) : Ch n0 w w' :=
  ⟨h.os, h.tape, h.output, h.size, fun k hk hn => h.block k hk (fun e => hn (by cases e; exact ⟨h1, o, h2, h3⟩))⟩
theorem BoxR.keep {n0 b c cap : Nat} {w w' : World} {l : List V} (h : BoxR n0 w b c cap l) (hk : ∀ k, k < w.heap.size → NB w k → w'.heap[k]? = w.heap[k]?) : BoxR n0 w' b c cap l := by
  obtain ⟨s, r, q, h0, h1, h2, h3, h4, h5⟩ := h
  have f : ∀ k o, w.heap[k]? = some o → kindN o → w'.heap[k]? = some o := fun k o ho hn => (hk k (Array.getElem?_eq_some_iff.1 ho).1 ⟨o, ho, hn⟩).trans ho
  exact ⟨s, r, q, h0, h1, h2, f _ _ h3 (.inl rfl), f _ _ h4 trivial, fun e he => ⟨(h5 e he).1, f _ _ (h5 e he).2 (.inr (.inl rfl))⟩⟩
theorem BoxR.other {n0 b c cap d : Nat} {w w' : World} {l : List V} {o : Obj} (h : BoxR n0 w b c cap l) (hg : w.grownBy w' (some d)) (hd : w.heap[d]? = some o) (ho : ∀ cs t f, o ≠ .cells cs t f) (hne : c ≠ d) : BoxR n0 w' b c cap l := by
  obtain ⟨s, r, q, h0, h1, h2, h3, h4, h5⟩ := h
  refine ⟨s, r, q, h0, h1, h2, block_grown h3 hg (fun e => ?_), block_grown h4 hg hne, fun e he => ⟨(h5 e he).1, block_grown (h5 e he).2 hg (fun k => ?_)⟩⟩
  · rw [e, hd] at h3; exact ho _ _ _ (Option.some.inj h3)
  · have := (h5 e he).2
    rw [k, hd] at this; exact ho _ _ _ (Option.some.inj this)
section
variable {n0 p R g cp : Nat} {w w' : World} {ls : List (List V)} {lost : Int} {arr : Array Value} {bs : List (Nat × Nat)}
theorem NetB.keep (h : NetB n0 w p R ls lost g cp arr bs) (hk : ∀ k, k < w.heap.size → NB w k → w'.heap[k]? = w.heap[k]?) : NetB n0 w' p R ls lost g cp arr bs := by
  obtain ⟨h1, h2, h3, h4, h5, h6, h7, h8⟩ := h
  have f : ∀ k o, w.heap[k]? = some o → kindN o → w'.heap[k]? = some o := fun k o ho hn => (hk k (Array.getElem?_eq_some_iff.1 ho).1 ⟨o, ho, hn⟩).trans ho
  exact ⟨h1, h2, f _ _ h3 (.inr (.inr (.inr rfl))), f _ _ h4 (.inr (.inr (.inl rfl))), h5, h6, fun i b l hb hl => ⟨(h7 i b l hb hl).1.keep hk, (h7 i b l hb hl).2⟩, h8⟩
theorem NetB.below (h : NetB n0 w p R ls lost g cp arr bs) (hb : Below w.heap.size w w') : NetB n0 w' p R ls lost g cp arr bs := h.keep fun k hk _ => hb.block k hk
theorem NetR.keep (h : NetR n0 w p R ls lost) (hk : ∀ k, k < w.heap.size → NB w k → w'.heap[k]? = w.heap[k]?) : NetR n0 w' p R ls lost := by
  obtain ⟨g, cp, arr, bs, h⟩ := h
  exact ⟨g, cp, arr, bs, h.keep hk⟩
theorem NetR.below (h : NetR n0 w p R ls lost) (hb : Below w.heap.size w w') : NetR n0 w' p R ls lost := h.keep fun k hk _ => hb.block k hk
/-- One way was changed. -/
theorem NetB.set (h : NetB n0 w p R ls lost g cp arr bs) {i : Nat} {b : Nat × Nat} {l l' : List V} (hb : bs[i]? = some b) (hl : ls[i]? = some l) (hg : w.grownBy w' (some b.2)) (hx : BoxR n0 w' b.1 b.2 R l') (hr : l'.length ≤ R) : NetB n0 w' p R (ls.set i l') lost g cp arr bs ∧ Ch n0 w w' := by
  obtain ⟨h1, h2, h3, h4, h5, h6, h7, h8⟩ := h
  obtain ⟨s, r, q, k0, k1, k2, k3, k4, k5⟩ := (h7 i b l hb hl).1
  have hne : ∀ {k cs t}, w.heap[k]? = some (.cells cs t (0, 0)) → k ≠ b.2 := fun hk e => by rw [e, k4] at hk; cases hk
  refine ⟨⟨by simpa using h1, h2, by rw [List.length_set]; exact block_grown h3 hg (hne h3), block_grown h4 hg (hne h4), by rw [List.length_set]; exact h5, h6, fun j b' m hb' hm => ?_, h8⟩, Ch.of_grown hg k2 k4 trivial⟩
  by_cases hji : j = i
  · subst hji
    rw [hb] at hb'
    cases hb'
    have hlt : j < ls.length := (List.getElem?_eq_some_iff.1 hl).1
    rw [List.getElem?_set_self hlt] at hm
    cases hm
    exact ⟨hx, hr⟩
  · rw [List.getElem?_set_ne (fun e => hji e.symm)] at hm
    have h9 := h7 j b' m hb' hm
    exact ⟨h9.1.other hg k4 (fun _ _ _ => nofun) (h8 j i b' b hb' hb hji), h9.2⟩
/-- The number of those that were lost was changed. -/
theorem NetB.lose (h : NetB n0 w p R ls lost g cp arr bs) (x : Int) : NetB n0 (w.setCell ⟨p, 1, none⟩ (.int .i64 x)) p R ls x g cp arr bs ∧ Ch n0 w (w.setCell ⟨p, 1, none⟩ (.int .i64 x)) := by
  obtain ⟨h1, h2, h3, h4, h5, h6, h7, h8⟩ := h
  have f : ∀ k, k ≠ p → (w.setCell ⟨p, 1, none⟩ (.int .i64 x)).heap[k]? = w.heap[k]? := fun k hk => Deep.blk_setCell_other _ _ _ _ hk
  have hne : ∀ {k o}, w.heap[k]? = some o → (∀ cs, o ≠ .cells cs 60 (0, 0)) → k ≠ p := fun hk hn e => by rw [e, h3] at hk; exact hn _ (Option.some.inj hk).symm
  have t1 : 67 ≠ 60 := by decide
  have t2 : 83 ≠ 60 := by decide
  have t3 : 65 ≠ 60 := by decide
  refine ⟨⟨h1, h2, ?_, (f _ (hne h4 (fun cs e => t1 (by cases e)))).trans h4, h5, h6, fun i b l hb hl => ?_, h8⟩, ⟨rfl, rfl, rfl, by simp, fun k hk hn => f k (fun e => hn (by rw [e]; exact ⟨h2.1, _, h3, .inr (.inr (.inr rfl))⟩))⟩⟩
  · simp [World.setCell, Array.getElem?_modify, h3]
  · obtain ⟨⟨s, r, q, k0, k1, k2, k3, k4, k5⟩, k6⟩ := h7 i b l hb hl
    exact ⟨⟨s, r, q, k0, k1, k2, (f _ (hne k3 (fun cs e => t2 (by cases e)))).trans k3, (f _ (hne k4 (fun cs => nofun))).trans k4, fun e he => ⟨(k5 e he).1, (f _ (hne (k5 e he).2 (fun cs e => t3 (by cases e)))).trans (k5 e he).2⟩⟩, k6⟩
end
end Go.Proofs.Ytnekjbdogdghnaa.Ne
