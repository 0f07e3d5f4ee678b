/-
  The contract of the reference's Decode. Conditions: at most two million bytes.
-/
import Derived.Test.YtganokcmcdkdgaaGreatUEn2
import Derived.Test.YtganokcmcdkdgaaGreatPZ16
namespace Go.Proofs.YtganokcmcdkdgaaGreat.Pi
open Go.RowKit Fr Sp

/-- The reference's reader b, and its three numbers. -/
structure TQ (W0 : World) (b tb : Nat) (D : List Int) (er : Int) (l : List Int) (y0 y1 y2 : Int) (W : World) : Prop where
  rd : ∃ m, Qd W b m er D ∧ D.drop m = l
  gr : W0.grownBy W (some b)
  th : W.heap[tb]? = some (.cells #[.int .i64 y0, .int .i64 y1, .int .i64 y2] 63)
  ge : W0.heap.size ≤ tb
  lt : b < W0.heap.size
section
variable {W0 W W' : World} {b tb : Nat} {D l l' : List Int} {er er' y0 y1 y2 : Int}
theorem TQ.to (h : TQ W0 b tb D er l y0 y1 y2 W) (k : QS b W er' D l' W') : TQ W0 b tb D er' l' y0 y1 y2 W' := by
  obtain ⟨m, h1, h2⟩ := k
  refine ⟨⟨m, h1.1, h2⟩, grownBy_trans h.gr h1.2, ?_, h.ge, h.lt⟩
  exact (h1.2.block tb (Array.getElem?_eq_some_iff.1 h.th).1 (fun e => by cases e; have := h.ge; have := h.lt; omega)).trans h.th
theorem TQ.below (h : TQ W0 b tb D er l y0 y1 y2 W) (hb : Below W.heap.size W W') : TQ W0 b tb D er l y0 y1 y2 W' := by
  obtain ⟨m, h1, h2⟩ := h.rd
  exact ⟨⟨m, h1.below hb, h2⟩, grownBy_trans h.gr (grownBy_of_below _ hb), Tb.block_kept h.th hb, h.ge, h.lt⟩
theorem TQ.other (h : TQ W0 b tb D er l y0 y1 y2 W) {p : Nat} (hp : W0.heap.size ≤ p) (hpt : p ≠ tb) (j : Nat) (u : Value) : TQ W0 b tb D er l y0 y1 y2 (W.setCell ⟨p, j, none⟩ u) := by
  obtain ⟨m, h1, h2⟩ := h.rd
  have hk : ∀ k, k ≠ p → (W.setCell ⟨p, j, none⟩ u).heap[k]? = W.heap[k]? := fun k hk => Below.heap_setCell _ _ _ _ hk
  refine ⟨⟨m, h1.upto (fun k hk1 => hk k (by have := h.lt; omega)), h2⟩, ⟨h.gr.os, h.gr.tape, h.gr.output, Nat.le_trans h.gr.size (by simp [World.setCell]), fun k hk1 hn => (hk k (by omega)).trans (h.gr.block k hk1 hn)⟩, (hk tb hpt.symm).trans h.th, h.ge, h.lt⟩
theorem TQ.put (h : TQ W0 b tb D er l y0 y1 y2 W) (j : Nat) (z0 z1 z2 u : Int) (hz : (W.setCell ⟨tb, j, none⟩ (.int .i64 u)).heap[tb]? = some (.cells #[.int .i64 z0, .int .i64 z1, .int .i64 z2] 63)) : TQ W0 b tb D er l z0 z1 z2 (W.setCell ⟨tb, j, none⟩ (.int .i64 u)) := by
  obtain ⟨m, h1, h2⟩ := h.rd
  have hk : ∀ k, k ≠ tb → (W.setCell ⟨tb, j, none⟩ (.int .i64 u)).heap[k]? = W.heap[k]? := fun k hk => Below.heap_setCell _ _ _ _ hk
  exact ⟨⟨m, h1.upto (fun k hk1 => hk k (by have := h.lt; have := h.ge; omega)), h2⟩, ⟨h.gr.os, h.gr.tape, h.gr.output, Nat.le_trans h.gr.size (by simp [World.setCell]), fun k hk1 hn => (hk k (by have := h.ge; omega)).trans (h.gr.block k hk1 hn)⟩, hz, h.ge, h.lt⟩
theorem TQ.err (h : TQ W0 b tb D er l y0 y1 y2 W) (x : Int) : TQ W0 b tb D x l y0 y1 y2 (W.setCell ⟨b, 2, none⟩ (.int .i64 x)) := by
  obtain ⟨m, h1, h2⟩ := h.rd
  have h3 := h1.set2 x
  exact h.to ⟨m, h3, h2⟩
end
theorem one_cases (er : Int) (l : List Int) : oneB er l = [(byteF er l).2.1] ∨ (oneB er l = [] ∧ (byteF er l).2.1 = 0) := by
  unfold oneB byteF
  by_cases he : er = 0
  · rw [if_pos he, if_pos he]
    cases l with
    | nil => exact .inr ⟨rfl, rfl⟩
    | cons x r => exact .inl rfl
  · rw [if_neg he, if_neg he]
    exact .inr ⟨rfl, rfl⟩
def erI (D : List Int) : Nat → Int
  | 0 => 0
  | 1 => (b1 D).1
  | 2 => (b2 D).1
  | _ => (b3 D).1
def lI (D : List Int) : Nat → List Int
  | 0 => D
  | 1 => (b1 D).2.2
  | 2 => (b2 D).2.2
  | _ => (b3 D).2.2
theorem lI_bok {D : List Int} (hb : Oc.bok D) : ∀ i, Oc.bok (lI D i)
  | 0 => hb
  | 1 => byte_bok hb
  | 2 => byte_bok (byte_bok hb)
  | _ + 3 => byte_bok (byte_bok (byte_bok hb))
def y0I (D : List Int) : Nat → Int
  | 0 => 0
  | _ => (b1 D).2.1
def y1I (D : List Int) : Nat → Int
  | 0 => 0
  | 1 => 0
  | _ => (b2 D).2.1
def y2I (D : List Int) : Nat → Int
  | 0 => 0
  | 1 => 0
  | 2 => 0
  | _ => (b3 D).2.1
/-- Before round i of the loop. -/
def TI (W0 : World) (b tb : Nat) (D : List Int) (i : Nat) (W : World) : Prop := TQ W0 b tb D (erI D i) (lI D i) (y0I D i) (y1I D i) (y2I D i) W
theorem TQ.c3 {W0 W : World} {b tb : Nat} {D l : List Int} {er y0 y1 y2 : Int} (h : TQ W0 b tb D er l y0 y1 y2 W) : W.cell? ⟨tb, 0, none⟩ = some (.int .i64 y0) ∧ W.cell? ⟨tb, 1, none⟩ = some (.int .i64 y1) ∧ W.cell? ⟨tb, 2, none⟩ = some (.int .i64 y2) := (three h.th).1
/-- And the packet bp. -/
structure TP (W0 : World) (b tb bp : Nat) (D : List Int) (er : Int) (l : List Int) (k f t n : Int) (u : Value) (W : World) : Prop where
  q : TQ W0 b tb D er l k f t W
  p : W.heap[bp]? = some (.cells #[.int .i64 k, .int .i64 f, .int .i64 t, .int .i64 n, u] 24)
  ne : bp ≠ tb
  ge : W0.heap.size ≤ bp
section
variable {W0 W W' : World} {b tb bp : Nat} {D l l' : List Int} {er er' k f t n : Int} {u : Value}
theorem TP.new (h : TQ W0 b tb D er l k f t W) (n : Int) (u : Value) : TP W0 b tb W.heap.size D er l k f t n u (W.alloc (.cells #[.int .i64 k, .int .i64 f, .int .i64 t, .int .i64 n, u] 24)) :=
  ⟨h.below (Jo.alloc_below _ _), Tb.block_new _ _, fun e => by have := (Array.getElem?_eq_some_iff.1 h.th).1; omega, h.gr.size⟩
theorem TQ.other5 (h : TQ W0 b tb D er l k f t W) (hp : W0.heap.size ≤ bp) (hpt : bp ≠ tb) (v0 v1 v2 v3 v4 : Value) : TQ W0 b tb D er l k f t (((((W.setCell ⟨bp, 0, none⟩ v0).setCell ⟨bp, 1, none⟩ v1).setCell ⟨bp, 2, none⟩ v2).setCell ⟨bp, 3, none⟩ v3).setCell ⟨bp, 4, none⟩ v4) :=
  ((((h.other hp hpt 0 v0).other hp hpt 1 v1).other hp hpt 2 v2).other hp hpt 3 v3).other hp hpt 4 v4
theorem put5 {z0 z1 z2 z3 z4 : Value} (h : W.heap[bp]? = some (.cells #[z0, z1, z2, z3, z4] 24)) (v0 v1 v2 v3 v4 : Value) : (((((W.setCell ⟨bp, 0, none⟩ v0).setCell ⟨bp, 1, none⟩ v1).setCell ⟨bp, 2, none⟩ v2).setCell ⟨bp, 3, none⟩ v3).setCell ⟨bp, 4, none⟩ v4).heap[bp]? = some (.cells #[v0, v1, v2, v3, v4] 24) := by
  simp only [World.setCell, Array.getElem?_modify, if_true]; rw [h]; rfl
theorem TP.set5 {z0 z1 z2 z3 z4 : Value} (h : TQ W0 b tb D er l k f t W) (hz : W.heap[bp]? = some (.cells #[z0, z1, z2, z3, z4] 24)) (hp : W0.heap.size ≤ bp) (hpt : bp ≠ tb) (n : Int) (u : Value) : TP W0 b tb bp D er l k f t n u (((((W.setCell ⟨bp, 0, none⟩ (.int .i64 k)).setCell ⟨bp, 1, none⟩ (.int .i64 f)).setCell ⟨bp, 2, none⟩ (.int .i64 t)).setCell ⟨bp, 3, none⟩ (.int .i64 n)).setCell ⟨bp, 4, none⟩ u) :=
  ⟨h.other5 hp hpt _ _ _ _ _, put5 hz _ _ _ _ _, hpt, hp⟩
theorem TP.to (h : TP W0 b tb bp D er l k f t n u W) (s : QS b W er' D l' W') : TP W0 b tb bp D er' l' k f t n u W' := by
  refine ⟨h.q.to s, ?_, h.ne, h.ge⟩
  obtain ⟨m, h1, _⟩ := s
  exact (h1.2.block bp (Array.getElem?_eq_some_iff.1 h.p).1 (fun e => by cases e; have := h.ge; have := h.q.lt; omega)).trans h.p
theorem TP.below (h : TP W0 b tb bp D er l k f t n u W) (hb : Below W.heap.size W W') : TP W0 b tb bp D er l k f t n u W' := ⟨h.q.below hb, Tb.block_kept h.p hb, h.ne, h.ge⟩
theorem TP.err (h : TP W0 b tb bp D er l k f t n u W) (x : Int) : TP W0 b tb bp D x l k f t n u (W.setCell ⟨b, 2, none⟩ (.int .i64 x)) :=
  ⟨h.q.err x, (Below.heap_setCell _ _ _ _ (by have := h.ge; have := h.q.lt; show bp ≠ b; omega)).trans h.p, h.ne, h.ge⟩
theorem TP.body (h : TP W0 b tb bp D er l k f t n u W) (v : Value) : TP W0 b tb bp D er l k f t n v (W.setCell ⟨bp, 4, none⟩ v) := by
  refine ⟨h.q.other h.ge h.ne 4 v, ?_, h.ne, h.ge⟩
  simp only [World.setCell, Array.getElem?_modify, if_true]; rw [h.p]; rfl
theorem TP.text (h : TP W0 b tb bp D er l k f t n u W) {x : List Int} (ht : txtF er l = (er', x, l')) : Calls Tryz.prog 29 #[.pointer (some ⟨b, 0, none⟩), .int .i64 1048576] W fun e w' => e = .returned (.string (Oc.strOf x)) ∧ TP W0 b tb bp D er' l' k f t n u w' := by
  obtain ⟨m, h1, h2⟩ := h.q.rd
  have h3 := qtext_all h1
  rw [h2, ht] at h3
  exact h3.mono fun e w' h4 => ⟨h4.1, h.to h4.2⟩
theorem TP.done (h : TP W0 b tb bp D er l k f t n u W) : Calls Tryz.prog 30 #[.pointer (some ⟨b, 0, none⟩)] W fun e w' => e = .returned (.int .i64 (Oc.doneE er l)) ∧ Below W.heap.size W w' := by
  obtain ⟨m, h1, h2⟩ := h.q.rd
  have h3 := qdone_any h1
  rw [h2] at h3
  exact h3
theorem TP.mist (h : TP W0 b tb bp D er l k f t n u W) : W.cell? ⟨b, 2, none⟩ = some (.int .i64 er) ∧ W.frozen? ⟨b, 2, none⟩ = false := by
  obtain ⟨m, ⟨A, q, c, h1, _⟩, h2⟩ := h.q.rd
  exact ⟨(three h1).1.2.2, (three h1).2.2.2⟩
theorem TP.old (h : TP W0 b tb bp D er l k f t n u W) {j : Nat} {o : Obj} (hj : W0.heap[j]? = some o) (hb : j ≠ b) : W.heap[j]? = some o := (h.q.gr.block j (Array.getElem?_eq_some_iff.1 hj).1 (fun e => hb (by cases e; rfl))).trans hj
end
theorem bf_keptR {N0 : Nat} {W W' : World} {v : Value} {l : List Int} {k : Nat} {cs : Array Value} {fr : Nat × Nat} (h : BF N0 W v l) (hk : W.heap[k]? = some (.cells cs 24 fr)) (hN : N0 ≤ k) (hw : Tb.Kept (fun i => i = k) W W') : BF N0 W' v l := by
  refine h.kept hw fun g hg e => ?_
  subst e
  rcases hg with h1 | ⟨t, cs', fr', h1, h2⟩
  · omega
  · rw [hk] at h1
    cases h1
    rcases h2 with h2 | h2 <;> cases h2
theorem dec_form {G : List Int} (he : nxE G = 0) (hb : bok G) : (nxN G < G.length → pkE G = 3) ∧ (¬ nxN G < G.length → opE G = 0 ∧ opB G = nxB G ∧ bok (nxB G) ∧ (nxB G).length ≤ G.length) := by
  have hN : nxN G = nn G + 8 := by unfold nxN; rw [if_pos he]
  constructor
  · intro hlt
    have e1 : opE G = 3 := by unfold opE; rw [if_pos ⟨he, by omega⟩]
    unfold pkE; rw [e1, if_neg (by decide)]
  · intro hlt
    have e0 : opE G = 0 := by unfold opE; rw [if_neg (fun h7 => by omega), he]
    have eB : opB G = nxB G := by unfold opB nxB; rw [if_pos e0, if_pos he]
    exact ⟨e0, eB, by rw [← eB]; exact op_bok hb, by rw [← eB]; exact op_len⟩
theorem b5_one {D : List Int} (h : (pkF D).k = 1) : txtF (b4 D).1 (b4 D).2.2 = ((pkF D).er, (pkF D).x, (pkF D).r) := by
  have h1 : (b1 D).2.1 = 1 := h
  have h4 : e4 D = (b4 D).1 := by unfold e4; rw [h1, if_pos (by decide)]
  have h5 : b5 D = txtF (b4 D).1 (b4 D).2.2 := by unfold b5; rw [if_pos h1, h4]
  rw [← h5]; rfl
theorem b5_kd {D : List Int} (h : ¬ (pkF D).k = 1) : (pkF D).x = [] ∧ (pkF D).r = (b4 D).2.2 ∧ (pkF D).er = if kdB (pkF D).k = true then (b4 D).1 else Oc.errB (b4 D).1 3 := by
  have h1 : ¬ (b1 D).2.1 = 1 := h
  have h5 : b5 D = (e4 D, [], (b4 D).2.2) := by unfold b5; rw [if_neg h1]
  refine ⟨?_, ?_, ?_⟩
  · show (b5 D).2.1 = []; rw [h5]
  · show (b5 D).2.2 = _; rw [h5]
  · show (b5 D).1 = _; rw [h5]; rfl
end Go.Proofs.YtganokcmcdkdgaaGreat.Pi
