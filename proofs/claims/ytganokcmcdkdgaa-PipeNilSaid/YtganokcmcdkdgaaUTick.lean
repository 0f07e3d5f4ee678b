/-
  Rows of packets; the contract of Tick. Conditions: at most five thousand things said.
-/
import Derived.Test.YtganokcmcdkdgaaUCal3
namespace Go.Proofs.Ytganokcmcdkdgaa.Pi
open Go.RowKit Wi Tb Wi.S

/-- The cells of packets of Data, from the number f on. -/
def pcs (s p : Int) : Nat → List Value → List Value
  | _, [] => []
  | f, v :: r => [.int .i64 1, .int .i64 s, .int .i64 p, .int .i64 (f : Int), v] ++ pcs s p (f + 1) r
theorem pcs_len (s p : Int) : ∀ (f : Nat) (vs : List Value), (pcs s p f vs).length = vs.length * 5
  | _, [] => rfl
  | f, v :: r => by rw [pcs, List.length_append, pcs_len s p (f + 1) r, List.length_cons]; simp; omega
theorem pcs_app (s p : Int) : ∀ (f : Nat) (vs : List Value) (u : Value), pcs s p f (vs ++ [u]) = pcs s p f vs ++ [.int .i64 1, .int .i64 s, .int .i64 p, .int .i64 ((f + vs.length : Nat) : Int), u]
  | f, [], u => by simp [pcs]
  | f, v :: r, u => by
    rw [List.cons_append, pcs, pcs_app s p (f + 1) r u, pcs, List.append_assoc, List.length_cons]
    rw [show f + 1 + r.length = f + (r.length + 1) by omega]
theorem pcs_get (s p : Int) : ∀ (f : Nat) (vs : List Value) (j : Nat) (u : Value), vs[j]? = some u → (pcs s p f vs)[j * 5]? = some (.int .i64 1) ∧ (pcs s p f vs)[j * 5 + 1]? = some (.int .i64 s) ∧ (pcs s p f vs)[j * 5 + 2]? = some (.int .i64 p) ∧ (pcs s p f vs)[j * 5 + 3]? = some (.int .i64 ((f + j : Nat) : Int)) ∧ (pcs s p f vs)[j * 5 + 4]? = some u
  | f, [], j, u, h => by simp at h
  | f, v :: r, 0, u, h => by simp at h; subst h; exact ⟨rfl, rfl, rfl, by simp [pcs], rfl⟩
  | f, v :: r, j + 1, u, h => by
    have ih := pcs_get s p (f + 1) r j u (by simpa using h)
    rw [pcs]
    have e : ∀ k, ([Value.int .i64 1, .int .i64 s, .int .i64 p, .int .i64 (f : Int), v] ++ pcs s p (f + 1) r)[(j + 1) * 5 + k]? = (pcs s p (f + 1) r)[j * 5 + k]? := fun k => by
      rw [List.getElem?_append_right (by simp; omega)]
      congr 1
      simp; omega
    have e0 := e 0
    simp only [Nat.add_zero] at e0
    rw [e0, e 1, e 2, e 3, e 4]
    rw [show f + 1 + j = f + (j + 1) by omega] at ih
    exact ih
theorem pcs_one (s p : Int) : ∀ (f : Nat) (vs : List Value), (∀ u ∈ vs, u.oneCell' = true) → ∀ u ∈ pcs s p f vs, u.oneCell' = true
  | _, [], _, u, hu => absurd hu List.not_mem_nil
  | f, v :: r, h, u, hu => by
    rw [pcs] at hu
    rcases List.mem_append.1 hu with h1 | h1
    · simp at h1
      rcases h1 with rfl | rfl | rfl | rfl | rfl
      · rfl
      · rfl
      · rfl
      · rfl
      · exact h u (by simp)
    · exact pcs_one s p (f + 1) r (fun x hx => h x (by simp [hx])) u h1
def PkT (e ts : TypeId) : Prop := Try.prog.underlying ts = some (.slice e) ∧ (Try.prog.info? e).map (fun i => (i.zero, i.size, i.bytes)) = some (some (.agg #[.int .i64 0, .int .i64 0, .int .i64 0, .int .i64 0, .slice none 0 0]), 5, 56)
theorem pkT : PkT 42 52 := ⟨Try.underlying52, by kernel_rfl⟩
theorem rpkT : PkT 36 54 := ⟨Try.underlying54, by kernel_rfl⟩
/-- One more packet behind a row of the call's own. -/
theorem papp {e ts : TypeId} (hT : PkT e ts) (W : World) (B f : Nat) (s p : Int) (v : Value) (vs : List Value) (own : W.ownsRow B e 5 v vs.length (pcs s p f vs)) (hn : vs.length ≤ 1000) (hB : B ≤ W.heap.size) (u : Value) (h1 : u.oneCell' = true) :
    ∃ A c W2, (∀ ty, (Builtin.append_ #[ts, ts] ty #[v, .slice (some ⟨W.heap.size, 0, none⟩) 1 1]).run Try.prog (W.alloc (.cells #[.int .i64 1, .int .i64 s, .int .i64 p, .int .i64 ((f + vs.length : Nat) : Int), u] e)) = .ok (.slice A (vs.length + 1) c) W2) ∧ W2.ownsRow B e 5 (.slice A (vs.length + 1) c) (vs ++ [u]).length (pcs s p f (vs ++ [u])) ∧ W.grownBy W2 v.ownBlock := by
  obtain ⟨hu, hi⟩ := hT
  obtain ⟨i0, hi0, hz0, hz1, hz2⟩ := info_parts hi
  have hnew := Tb.block_new W (.cells #[.int .i64 1, .int .i64 s, .int .i64 p, .int .i64 ((f + vs.length : Nat) : Int), u] e)
  obtain ⟨r0, r1, r2, r3, r4⟩ := blk5 hnew
  have hcell : ∀ j x, ([Value.int .i64 1, .int .i64 s, .int .i64 p, .int .i64 ((f + vs.length : Nat) : Int), u] : List Value)[j]? = some x → (W.alloc (.cells #[.int .i64 1, .int .i64 s, .int .i64 p, .int .i64 ((f + vs.length : Nat) : Int), u] e)).cell? ((⟨W.heap.size, 0, none⟩ : Addr).add j) = some x := by
    intro j x hj
    match j, hj with
    | 0, hj => cases hj; exact r0
    | 1, hj => cases hj; exact r1
    | 2, hj => cases hj; exact r2
    | 3, hj => cases hj; exact r3
    | 4, hj => cases hj; exact r4
  have own' : (W.alloc (.cells #[.int .i64 1, .int .i64 s, .int .i64 p, .int .i64 ((f + vs.length : Nat) : Int), u] e)).ownsRow B e 5 v vs.length (pcs s p f vs) := own_below own ((Below.refl _ _).alloc (Nat.le_refl _) _)
  have hrun := fun ty => run_append_own (P := Try.prog) (W.alloc (.cells #[.int .i64 1, .int .i64 s, .int .i64 p, .int .i64 ((f + vs.length : Nat) : Int), u] e)) B ts ty e i0 _ 5 _ hu hi0 hz0 hz1 hz2 (by decide) (by decide) v vs.length (pcs s p f vs) own' ⟨W.heap.size, 0, none⟩ 1 1 [.int .i64 1, .int .i64 s, .int .i64 p, .int .i64 ((f + vs.length : Nat) : Int), u] rfl hcell (fun x hx => by
    simp at hx
    rcases hx with rfl | rfl | rfl | rfl | rfl
    · rfl
    · rfl
    · rfl
    · rfl
    · exact h1) (by unfold maxLen; omega) (by omega) (Nat.le_trans hB (by simp))
  obtain ⟨v', W2, hr, ho, hg, _⟩ := hrun ts
  rw [← pcs_app] at ho
  have ho2 : W2.ownsRow B e 5 v' (vs ++ [u]).length (pcs s p f (vs ++ [u])) := by rw [List.length_append, List.length_singleton]; exact ho
  obtain ⟨A, c, h2, _⟩ := own_form ho2
  rw [List.length_append, List.length_singleton] at h2
  subst h2
  exact ⟨A, c, W2, fun ty => hr, ho2, ⟨hg.os, hg.tape, hg.output, Nat.le_trans (by simp) hg.size, fun k hk hne => (hg.block k (by simp; omega) hne).trans (Below.heap_alloc _ _ _ hk)⟩⟩
/-- A row's block is none that nobody changes. -/
theorem row_fix {N0 B n size : Nat} {W : World} {e : TypeId} {v : Value} {cs : List Value} (own : W.ownsRow B e size v n cs) (hN : N0 ≤ B) (h1 : e ≠ 5) (h2 : e ≠ 30) : ∀ g, Fix N0 W g → ¬ (v.ownBlock = some g) := fun g hf ho => by
  rcases own.2 with ⟨k1, _⟩ | ⟨g2, cap, cur, k1, k2, k3, _⟩
  · rw [k1] at ho; cases ho
  · rw [k1] at ho
    cases ho
    rcases hf with hf | ⟨t, cs, fr, h3, h4⟩
    · have hf' : g2 < N0 := hf
      omega
    · rw [k3] at h3
      simp only [Option.some.injEq, Obj.cells.injEq] at h3
      rcases h4 with h4 | h4
      · exact h1 (h3.2.1.trans h4)
      · exact h2 (h3.2.1.trans h4)
section
variable {w0 w w' : World} {b a : Nat} {s p nx : Int} {sv rv : Value} {xs : List ByteArray} {l : List Rw}
/-- Packets as a row of the call's own, with their bytes. -/
structure PkR (N0 B : Nat) (e : TypeId) (s p : Int) (f : Nat) (ts : List ByteArray) (v : Value) (vs : List Value) (W : World) : Prop where
  own : W.ownsRow B e 5 v vs.length (pcs s p f vs)
  le : vs.length ≤ ts.length
  at_ : ∀ (j : Nat) (u : Value), vs[j]? = some u → ∃ t, ts[j]? = some t ∧ BF N0 W u (Fr.sb t)
theorem PkR.form {N0 B f : Nat} {e : TypeId} {ts : List ByteArray} {v : Value} {vs : List Value} {W : World} (h : PkR N0 B e s p f ts v vs W) : ∃ A c, v = .slice A vs.length c := by
  obtain ⟨A, c, h1, _⟩ := own_form h.own
  exact ⟨A, c, h1⟩
theorem PkR.below {N0 B f : Nat} {e : TypeId} {ts : List ByteArray} {v : Value} {vs : List Value} {W W' : World} (h : PkR N0 B e s p f ts v vs W) (hb : Below W.heap.size W W') : PkR N0 B e s p f ts v vs W' :=
  ⟨own_below h.own hb, h.le, fun j u hu => by
    obtain ⟨t, h1, h2⟩ := h.at_ j u hu
    exact ⟨t, h1, h2.below hb⟩⟩
theorem bf_one {N0 : Nat} {W : World} {u : Value} {lb : List Int} (h : BF N0 W u lb) : u.oneCell' = true := by
  obtain ⟨A, c, e, _⟩ := h.1
  rw [e]; rfl
theorem PkR.app {N0 B f : Nat} {e ts' : TypeId} (hT : PkT e ts') (he1 : e ≠ 5) (he2 : e ≠ 30) {ts : List ByteArray} {v : Value} {vs : List Value} {W : World} (h : PkR N0 B e s p f ts v vs W) (hN : N0 ≤ B) (hB : B ≤ W.heap.size) (hn : vs.length ≤ 1000) {u : Value} {t : ByteArray} (ht : ts[vs.length]? = some t) (hu : BF N0 W u (Fr.sb t)) :
    ∃ A c W2, (∀ ty, (Builtin.append_ #[ts', ts'] ty #[v, .slice (some ⟨W.heap.size, 0, none⟩) 1 1]).run Try.prog (W.alloc (.cells #[.int .i64 1, .int .i64 s, .int .i64 p, .int .i64 ((f + vs.length : Nat) : Int), u] e)) = .ok (.slice A (vs.length + 1) c) W2) ∧ PkR N0 B e s p f ts (.slice A (vs.length + 1) c) (vs ++ [u]) W2 ∧ Below B W W2 := by
  obtain ⟨A, c, W2, h1, h2, h3⟩ := papp hT W B f s p v vs h.own hn hB u (bf_one hu)
  have hk := Kept.of_grown h3
  have hfx := row_fix h.own hN he1 he2
  refine ⟨A, c, W2, h1, ⟨h2, ?_, fun j x hj => ?_⟩, ⟨h3.os, h3.tape, h3.output, h3.size, fun k hk2 => h3.block k (by omega) (fun e => ?_)⟩⟩
  · rw [List.length_append, List.length_singleton]
    exact (List.getElem?_eq_some_iff.1 ht).1
  · rcases Nat.lt_or_ge j vs.length with hlt | hge
    · rw [List.getElem?_append_left hlt] at hj
      obtain ⟨t', h4, h5⟩ := h.at_ j x hj
      exact ⟨t', h4, h5.kept hk hfx⟩
    · rw [List.getElem?_append_right hge] at hj
      have hj0 : j - vs.length = 0 := by
        have := (List.getElem?_eq_some_iff.1 hj).1
        simp at this; omega
      rw [hj0] at hj
      simp at hj
      have hjv : j = vs.length := by omega
      rw [← hj, hjv]
      exact ⟨t, ht, hu.kept hk hfx⟩
  · have := (h.own.lt k e.symm).1
    omega
theorem PkR.nil (N0 B : Nat) (e : TypeId) (s p : Int) (f : Nat) (ts : List ByteArray) (W : World) : PkR N0 B e s p f ts (.slice none 0 0) [] W := ⟨World.ownsRow_nil _ _ _ _, Nat.zero_le _, fun j u h => by simp at h⟩
end
end Go.Proofs.Ytganokcmcdkdgaa.Pi
