/-
  A store with its files in memory; what a step leaves; bytes appended to a file. Conditions: none.
-/
import Derived.Test.YtjijgoflbjbnfaaGreatVM12
import Derived.Maps.AppendAt
namespace Go.Proofs.YtjijgoflbjbnfaaGreat.Sr
open Go.RowKit Fr

/-- The blocks that a store has. -/
def own (p : Nat) (mb : Option Nat) (L : List Fi) (i : Nat) : Prop := i = p ∨ mb = some i ∨ ∃ x ∈ L, x.2.1.ownBlock = some i
def apart (x y : Fi) : Prop := ∀ i, x.2.1.ownBlock = some i → y.2.1.ownBlock ≠ some i
abbrev rowOf (w : World) (v : Value) (l : List Int) : Prop := w.ownsRow 0 5 1 v l.length (bv l)
/-- The store p: its cells, its map, its files. -/
structure StR (w : World) (p : Nat) (s : S) (mb : Option Nat) (L : List Fi) : Prop where
  blk : w.heap[p]? = some (blk s mb)
  map : MapO w mb L
  rows : ∀ x ∈ L, rowOf w x.2.1 x.2.2
  apart : L.Pairwise apart
  keys : L.Pairwise fun x y => x.1 ≠ y.1
  used : s.used = usedL L
  room : (usedL L : Int) ≤ s.room ∧ s.room ≤ 1048576
  left : s.a = true → 0 ≤ s.n ∧ s.n ≤ 9223372036854775807
/-- Behind a step of the store. -/
structure Mv (w w' : World) (p : Nat) (mb : Option Nat) (L : List Fi) (s' : S) (mb' : Option Nat) (L' : List Fi) : Prop where
  st : StR w' p s' mb' L'
  off : Off (own p mb L) w w'
  new : ∀ i, own p mb' L' i → own p mb L i ∨ w.heap.size ≤ i

theorem own_lt {w : World} {p : Nat} {s : S} {mb : Option Nat} {L : List Fi} (h : StR w p s mb L) {i : Nat} (hi : own p mb L i) : i < w.heap.size := by
  rcases hi with rfl | rfl | ⟨x, hx, hi⟩
  · exact (Array.getElem?_eq_some_iff.1 h.blk).1
  · exact h.map.lt
  · exact ((h.rows x hx).lt i hi).2
theorem row_heap {w : World} {v : Value} {l : List Int} {i : Nat} (h : rowOf w v l) (hi : v.ownBlock = some i) : ∃ cur, w.heap[i]? = some (.cells cur 5 (0, 0)) := by
  rcases h.2 with ⟨rfl, _⟩ | ⟨g, cap, cur, rfl, _, h2, _⟩
  · cases hi
  · cases hi; exact ⟨cur, h2⟩
theorem row_kept {w w' : World} {v : Value} {l : List Int} (h : rowOf w v l) (hb : ∀ i, v.ownBlock = some i → w'.heap[i]? = w.heap[i]?) : rowOf w' v l := by
  refine ⟨h.1, ?_⟩
  rcases h.2 with h2 | ⟨g, cap, cur, rfl, h0, h2, h3⟩
  · exact .inl h2
  · exact .inr ⟨g, cap, cur, rfl, h0, by rw [hb g rfl]; exact h2, h3⟩
/-- What leaves a store's blocks alone leaves the store. -/
theorem StR.kept {w w' : World} {p : Nat} {s : S} {mb : Option Nat} {L : List Fi} {T : Nat → Prop} (h : StR w p s mb L) (ho : Off T w w') (hT : ∀ i, own p mb L i → ¬ T i) : StR w' p s mb L := by
  have hb : ∀ i, own p mb L i → w'.heap[i]? = w.heap[i]? := fun i hi => ho.2 i (own_lt h hi) (hT i hi)
  exact ⟨(hb p (.inl rfl)).trans h.blk, h.map.kept fun b e => hb b (.inr (.inl e)), fun x hx => row_kept (h.rows x hx) fun i hi => hb i (.inr (.inr ⟨x, hx, hi⟩)), h.apart, h.keys, h.used, h.room, h.left⟩
theorem StR.below {w w' : World} {p : Nat} {s : S} {mb : Option Nat} {L : List Fi} (h : StR w p s mb L) (hb : Below w.heap.size w w') : StR w' p s mb L :=
  h.kept (T := fun _ => False) (Off.of_below _ hb) (fun _ _ h => h)
theorem Mv.refl {w : World} {p : Nat} {s : S} {mb : Option Nat} {L : List Fi} (h : StR w p s mb L) : Mv w w p mb L s mb L := ⟨h, Off.refl _ _, fun _ h => .inl h⟩
theorem Mv.of_below {w w' : World} {p : Nat} {s : S} {mb : Option Nat} {L : List Fi} (h : StR w p s mb L) (hb : Below w.heap.size w w') : Mv w w' p mb L s mb L := ⟨h.below hb, Off.of_below _ hb, fun _ h => .inl h⟩
theorem Mv.trans {a b c : World} {p : Nat} {mb mb1 mb2 : Option Nat} {L L1 L2 : List Fi} {s1 s2 : S} (h : Mv a b p mb L s1 mb1 L1) (k : Mv b c p mb1 L1 s2 mb2 L2) : Mv a c p mb L s2 mb2 L2 :=
  ⟨k.st, h.off.trans k.off h.new, fun i hi => (k.new i hi).elim (h.new i) (fun h2 => .inr (Nat.le_trans h.off.1.size h2))⟩
/-- A step that turns the store's own cells alone. -/
theorem Mv.of_own {w w' : World} {p : Nat} {s s' : S} {mb : Option Nat} {L : List Fi} (h : StR w p s mb L) (ho : Own w w' p s' mb) (hu : s'.used = s.used) (hr : s'.room = s.room) (hl : s'.a = true → 0 ≤ s'.n ∧ s'.n ≤ 9223372036854775807) : Mv w w' p mb L s' mb L := by
  have hOff : Off (fun i => i = p) w w' := Off.of_grown ho.2.1 (fun i e => (Option.some.inj e).symm)
  have hb : ∀ i, own p mb L i → i ≠ p → w'.heap[i]? = w.heap[i]? := fun i hi hn => hOff.2 i (own_lt h hi) hn
  refine ⟨⟨ho.1, h.map.kept fun b e => hb b (.inr (.inl e)) ?_, fun x hx => row_kept (h.rows x hx) fun i hi => hb i (.inr (.inr ⟨x, hx, hi⟩)) ?_, h.apart, h.keys, by rw [hu]; exact h.used, by rw [hr]; exact h.room, hl⟩, hOff.mono fun i e => .inl e, fun i hi => .inl hi⟩
  · subst e; exact (MapO.ne h.map h.blk).symm
  · rintro rfl
    obtain ⟨cur, h2⟩ := row_heap (h.rows x hx) hi
    rw [h.blk] at h2; cases h2

/-! ### Lists of files -/
theorem mem_put {L : List Fi} {k : ByteArray} {z : Value × List Int} (hk : L.Pairwise fun x y => x.1 ≠ y.1) : ∀ x ∈ putL L k z, x = (k, z) ∨ (x ∈ L ∧ x.1 ≠ k) := by
  induction L with
  | nil => intro x hx; simp [putL] at hx; exact .inl hx
  | cons y r ih =>
    obtain ⟨h1, h2⟩ := List.pairwise_cons.1 hk
    intro x hx
    unfold putL at hx
    split at hx
    · rename_i he
      rcases List.mem_cons.1 hx with rfl | hx
      · exact .inl rfl
      · exact .inr ⟨List.mem_cons_of_mem _ hx, fun e => h1 x hx (by rw [he, e])⟩
    · rename_i he
      rcases List.mem_cons.1 hx with rfl | hx
      · exact .inr ⟨List.mem_cons_self, he⟩
      · rcases ih h2 x hx with h3 | ⟨h3, h4⟩
        · exact .inl h3
        · exact .inr ⟨List.mem_cons_of_mem _ h3, h4⟩
theorem pair_put {L : List Fi} {k : ByteArray} {z : Value × List Int} (R : Fi → Fi → Prop) (hR : L.Pairwise R) (hk : L.Pairwise fun x y => x.1 ≠ y.1) (h1 : ∀ x ∈ L, x.1 ≠ k → R x (k, z) ∧ R (k, z) x) : (putL L k z).Pairwise R := by
  induction L with
  | nil => exact List.pairwise_singleton _ _
  | cons y r ih =>
    obtain ⟨a1, a2⟩ := List.pairwise_cons.1 hR
    obtain ⟨b1, b2⟩ := List.pairwise_cons.1 hk
    unfold putL
    split
    · rename_i he
      exact List.pairwise_cons.2 ⟨fun x hx => (h1 x (List.mem_cons_of_mem _ hx) (fun e => b1 x hx (by rw [he, e]))).2, a2⟩
    · rename_i he
      refine List.pairwise_cons.2 ⟨fun x hx => ?_, ih a2 b2 (fun x hx hn => h1 x (List.mem_cons_of_mem _ hx) hn)⟩
      rcases mem_put b2 x hx with rfl | ⟨hx, _⟩
      · exact (h1 y List.mem_cons_self he).1
      · exact a1 x hx
theorem used_put {L : List Fi} {k : ByteArray} {v : Value} {l : List Int} : usedL (putL L k (v, l)) + (bytL L k).length = usedL L + l.length := by
  induction L with
  | nil => simp [putL, usedL, bytL]
  | cons y r ih =>
    unfold putL bytL
    split
    · simp only [usedL]; omega
    · simp only [usedL]; omega
theorem byt_used (L : List Fi) (k : ByteArray) : (bytL L k).length ≤ usedL L := by
  induction L with
  | nil => simp [bytL]
  | cons y r ih =>
    unfold bytL usedL
    split
    · omega
    · omega
theorem val_row {w : World} {L : List Fi} (h : ∀ x ∈ L, rowOf w x.2.1 x.2.2) (k : ByteArray) : rowOf w (valL L k) (bytL L k) := by
  induction L with
  | nil => exact World.ownsRow_nil _ _ _ _
  | cons y r ih =>
    unfold valL bytL
    split
    · exact h y List.mem_cons_self
    · exact ih fun x hx => h x (List.mem_cons_of_mem _ hx)
theorem val_own {L : List Fi} {k : ByteArray} {i : Nat} (h : (valL L k).ownBlock = some i) : ∃ x ∈ L, x.1 = k ∧ x.2.1.ownBlock = some i := by
  induction L with
  | nil => cases h
  | cons y r ih =>
    unfold valL at h
    split at h
    · rename_i he; exact ⟨y, List.mem_cons_self, he, h⟩
    · obtain ⟨x, hx, h2⟩ := ih h; exact ⟨x, List.mem_cons_of_mem _ hx, h2⟩
/-- No other file lies where this one lies. -/
theorem apart_val {L : List Fi} (ha : L.Pairwise apart) {k : ByteArray} {x : Fi} (hx : x ∈ L) (hn : x.1 ≠ k) {i : Nat} (h : (valL L k).ownBlock = some i) : x.2.1.ownBlock ≠ some i := by
  induction L with
  | nil => cases hx
  | cons y r ih =>
    obtain ⟨a1, a2⟩ := List.pairwise_cons.1 ha
    unfold valL at h
    split at h
    · rename_i he
      rcases List.mem_cons.1 hx with rfl | hx
      · exact absurd he hn
      · exact a1 x hx i h
    · rcases List.mem_cons.1 hx with rfl | hx
      · obtain ⟨y2, hy2, _, h2⟩ := val_own h
        intro e
        exact a1 y2 hy2 i e h2
      · exact ih a2 hx h

/-- Behind put: the store with one file's bytes anew. -/
theorem put_step {w w2 w3 : World} {p : Nat} {s s1 : S} {mb : Option Nat} {L : List Fi} {k : ByteArray} {v : Value} {nb : List Int} (h : StR w p s mb L)
    (hoff : Off (own p mb L) w w2) (hp : w2.heap[p]? = some (blk s1 mb)) (hm : MapO w2 mb L) (hx : ∀ x ∈ L, x.1 ≠ k → rowOf w2 x.2.1 x.2.2) (hv : rowOf w2 v nb)
    (hloc : ∀ i, v.ownBlock = some i → (valL L k).ownBlock = some i ∨ w.heap.size ≤ i) (hu : s1.used = s.used) (hr : s1.room = s.room) (hl : s1.a = true → 0 ≤ s1.n ∧ s1.n ≤ 9223372036854775807)
    (hroom : (usedL L : Int) - (bytL L k).length + nb.length ≤ s.room) (hput : PutTo w2 w3 p s1 mb L k v nb nb.length) :
    ∃ mb' v', Mv w w3 p mb L { s1 with used := s.used + ((nb.length : Int) - ((bytL L k).length : Int)) } mb' (putL L k (v', nb)) := by
  obtain ⟨b', q1, q2, q3, q4⟩ := hput
  rw [hu] at q1
  have hb2 : ∀ i, i < w2.heap.size → i ≠ p → mb ≠ some i → w3.heap[i]? = w2.heap[i]? := fun i hi h1 h2 => q4.2 i hi (fun e => e.elim h1 h2)
  have hrow : ∀ {u : Value} {l : List Int}, rowOf w2 u l → rowOf w3 u l := fun {u l} hu => row_kept hu fun i hi => by
    obtain ⟨cur, hc⟩ := row_heap hu hi
    refine hb2 i (Array.getElem?_eq_some_iff.1 hc).1 ?_ ?_
    · rintro rfl; rw [hp] at hc; cases hc
    · intro e; rw [e] at hm; obtain ⟨es, c, h1, _⟩ := hm; rw [hc] at h1; cases h1
  have hup := used_put (L := L) (k := k) (v := v) (l := nb)
  have hlt : ∀ x ∈ L, ∀ i, x.2.1.ownBlock = some i → i < w.heap.size := fun x hx i hi => ((h.rows x hx).lt i hi).2
  refine ⟨some b', v, ⟨⟨q1, q2, fun x hx2 => ?_, pair_put _ h.apart h.keys fun x hx2 hn => ⟨fun i hi e => ?_, fun i hi e => ?_⟩, pair_put _ h.keys h.keys fun x _ hn => ⟨hn, hn.symm⟩, ?_, ?_, hl⟩, hoff.trans q4 fun i hi => ?_, fun i hi => ?_⟩⟩
  · rcases mem_put h.keys x hx2 with rfl | ⟨h1, h2⟩
    · exact hrow hv
    · exact hrow (hx x h1 h2)
  · rcases hloc i e with h1 | h1
    · exact apart_val h.apart hx2 hn h1 hi
    · have := hlt x hx2 i hi; omega
  · rcases hloc i hi with h1 | h1
    · exact apart_val h.apart hx2 hn h1 e
    · have := hlt x hx2 i e; omega
  · show s.used + _ = _
    have := h.used; omega
  · have := h.room
    show _ ≤ s1.room ∧ s1.room ≤ _
    rw [hr]; omega
  · rcases hi with rfl | hi
    · exact .inl (.inl rfl)
    · exact .inl (.inr (.inl hi))
  · rcases hi with rfl | hi | ⟨x, hx2, hi⟩
    · exact .inl (.inl rfl)
    · rcases q3 with h1 | ⟨_, h1⟩
      · exact .inl (.inr (.inl (h1.trans hi)))
      · cases hi; exact .inr (Nat.le_trans hoff.1.size h1)
    · rcases mem_put h.keys x hx2 with rfl | ⟨h1, h2⟩
      · rcases hloc i hi with h1 | h1
        · obtain ⟨y, hy, _, h3⟩ := val_own h1; exact .inl (.inr (.inr ⟨y, hy, h3⟩))
        · exact .inr h1
      · exact .inl (.inr (.inr ⟨x, h1, hi⟩))

/-- Bytes from anywhere behind a row, and where the new row lies. -/
theorem app_at (w : World) (v : Value) (l : List Int) (hown : rowOf w v l) (x : Value) (m : List Int) (hx : BAt w x m) (hb : l.length + m.length ≤ 4000000) :
    ∃ A cap w', (Builtin.append_ #[32, 32] 32 #[v, x]).run Tryz.prog w = .ok (.slice A (l.length + m.length) cap) w' ∧ rowOf w' (.slice A (l.length + m.length) cap) (l ++ m) ∧ w.grownBy w' v.ownBlock ∧
      ∀ i, (Value.slice A (l.length + m.length) cap).ownBlock = some i → v.ownBlock = some i ∨ w.heap.size ≤ i := by
  obtain ⟨i0, hi0, hz0, hz1, hz2⟩ := info_parts u8Inf
  obtain ⟨A, cap, rfl, _, hc⟩ := id hx
  cases A with
  | none =>
    have h0 : m = [] := by
      cases m with
      | nil => rfl
      | cons y r => obtain ⟨g, o, h1, _⟩ := hc (by simp); cases h1
    subst h0
    obtain ⟨A1, c1, h1, _⟩ := BAt.of_own hown
    refine ⟨A1, c1, w, ?_, ?_, grownBy_refl _ _, ?_⟩
    · show _ = Result.ok (Value.slice A1 l.length c1) w
      rw [← h1]
      rcases hown.2 with ⟨h4, _⟩ | ⟨g, cap3, cur, h4, _, _, hnc, _⟩
      · rw [h4]
        simp [Builtin.append_, run_underlying Tryz.underlying32, sizeOf, typeInfo, hi0, Builtin.lenOf, Builtin.firstCells]
      · rw [h4]
        simp [Builtin.append_, run_underlying Tryz.underlying32, sizeOf, typeInfo, hi0, Builtin.lenOf, Builtin.firstCells, hnc, storeCells]
    · rw [h1] at hown
      rw [List.append_nil]
      exact hown
    · intro i hi; rw [h1]; exact .inl hi
  | some a =>
    obtain ⟨v', w', hr, ho, hg, _, hat⟩ := run_append_own_at (P := Tryz.prog) w 0 32 32 5 i0 (.int .u8 0) 1 1 Tryz.underlying32 hi0 hz0 hz1 hz2 rfl (by decide) v l.length (bv l) hown a m.length cap (bv m) (by rw [bv_len, Nat.mul_one]) (bat_cells hx rfl) (bv_one _) (by unfold maxLen; omega) (by omega) (Nat.zero_le _)
    rw [← bv_app] at ho
    have ho2 : rowOf w' v' (l ++ m) := by unfold rowOf; rw [List.length_append]; exact ho
    obtain ⟨A1, c1, h1, _⟩ := BAt.of_own ho2
    rw [List.length_append] at h1
    subst h1
    refine ⟨A1, c1, w', hr, ho2, hg, fun i hi => ?_⟩
    rcases hat with h2 | h2
    · exact .inl (h2.symm.trans hi)
    · rw [h2] at hi; cases hi; exact .inr (Nat.le_refl _)
end Go.Proofs.YtjijgoflbjbnfaaGreat.Sr

namespace Go.Proofs.YtjijgoflbjbnfaaGreat.Sr
open Go.RowKit Fr

def KeysL (L : List Fi) : Prop := L.Pairwise fun x y => x.1 ≠ y.1
theorem has_put (L : List Fi) (k k' : ByteArray) (z : Value × List Int) : hasL (putL L k z) k' = if k = k' then true else hasL L k' := by
  induction L with
  | nil => simp only [putL, hasL]
  | cons y r ih =>
    unfold putL
    by_cases h1 : y.1 = k
    · rw [if_pos h1]
      simp only [hasL]
      by_cases h2 : k = k'
      · rw [if_pos h2, if_pos h2]
      · rw [if_neg h2, if_neg h2, if_neg (by rw [h1]; exact h2)]
    · rw [if_neg h1]
      simp only [hasL, ih]
      by_cases h2 : k = k'
      · rw [if_pos h2]; split <;> rfl
      · rw [if_neg h2, if_neg h2]
theorem byt_put (L : List Fi) (k k' : ByteArray) (v : Value) (l : List Int) : bytL (putL L k (v, l)) k' = if k = k' then l else bytL L k' := by
  induction L with
  | nil => simp only [putL, bytL]
  | cons y r ih =>
    unfold putL
    by_cases h1 : y.1 = k
    · rw [if_pos h1]
      simp only [bytL]
      by_cases h2 : k = k'
      · rw [if_pos h2, if_pos h2]
      · rw [if_neg h2, if_neg h2, if_neg (by rw [h1]; exact h2)]
    · rw [if_neg h1]
      simp only [bytL, ih]
      by_cases h2 : k = k'
      · rw [if_pos h2]
        split
        · rename_i h3; exact absurd (h3.trans h2.symm) h1
        · rfl
      · rw [if_neg h2, if_neg h2]
theorem has_cons (y : Fi) (r : List Fi) (k : ByteArray) : hasL (y :: r) k = if y.1 = k then true else hasL r k := rfl
theorem byt_cons (y : Fi) (r : List Fi) (k : ByteArray) : bytL (y :: r) k = if y.1 = k then y.2.2 else bytL r k := rfl
theorem used_cons (y : Fi) (r : List Fi) : usedL (y :: r) = y.2.2.length + usedL r := rfl
theorem has_mem {L : List Fi} {k : ByteArray} : hasL L k = true ↔ ∃ x ∈ L, x.1 = k := by
  induction L with
  | nil => simp [hasL]
  | cons y r ih =>
    unfold hasL
    by_cases h1 : y.1 = k
    · rw [if_pos h1]; exact ⟨fun _ => ⟨y, List.mem_cons_self, h1⟩, fun _ => rfl⟩
    · rw [if_neg h1, ih]
      exact ⟨fun ⟨x, hx, h⟩ => ⟨x, List.mem_cons_of_mem _ hx, h⟩, fun ⟨x, hx, h⟩ => by
        rcases List.mem_cons.1 hx with rfl | hx
        · exact absurd h h1
        · exact ⟨x, hx, h⟩⟩
theorem has_not {L : List Fi} {k : ByteArray} (h : ∀ x ∈ L, x.1 ≠ k) : hasL L k = false := by
  cases hh : hasL L k with
  | false => rfl
  | true => obtain ⟨x, hx, e⟩ := has_mem.1 hh; exact absurd e (h x hx)
theorem byt_none {L : List Fi} {k : ByteArray} (h : hasL L k = false) : bytL L k = [] := by
  induction L with
  | nil => rfl
  | cons y r ih =>
    unfold hasL at h; unfold bytL
    by_cases h1 : y.1 = k
    · rw [if_pos h1] at h; cases h
    · rw [if_neg h1] at h; rw [if_neg h1]; exact ih h
theorem byt_mem {L : List Fi} (hk : KeysL L) {x : Fi} (hx : x ∈ L) : bytL L x.1 = x.2.2 ∧ valL L x.1 = x.2.1 := by
  induction L with
  | nil => cases hx
  | cons y r ih =>
    obtain ⟨h1, h2⟩ := List.pairwise_cons.1 hk
    unfold bytL valL
    rcases List.mem_cons.1 hx with rfl | hx
    · rw [if_pos rfl, if_pos rfl]; exact ⟨rfl, rfl⟩
    · rw [if_neg (h1 x hx), if_neg (h1 x hx)]; exact ih h2 hx
theorem mem_del {L : List Fi} (hk : KeysL L) {k : ByteArray} : ∀ x, x ∈ delL L k ↔ x ∈ L ∧ x.1 ≠ k := by
  induction L with
  | nil => intro x; simp [delL]
  | cons y r ih =>
    obtain ⟨h1, h2⟩ := List.pairwise_cons.1 hk
    intro x
    unfold delL
    by_cases h3 : y.1 = k
    · rw [if_pos h3]
      exact ⟨fun hx => ⟨List.mem_cons_of_mem _ hx, fun e => h1 x hx (h3.trans e.symm)⟩, fun ⟨hx, hn⟩ => by
        rcases List.mem_cons.1 hx with rfl | hx
        · exact absurd h3 hn
        · exact hx⟩
    · rw [if_neg h3]
      exact ⟨fun hx => by
        rcases List.mem_cons.1 hx with rfl | hx
        · exact ⟨List.mem_cons_self, h3⟩
        · exact ⟨List.mem_cons_of_mem _ ((ih h2 x).1 hx).1, ((ih h2 x).1 hx).2⟩, fun ⟨hx, hn⟩ => by
        rcases List.mem_cons.1 hx with rfl | hx
        · exact List.mem_cons_self
        · exact List.mem_cons_of_mem _ ((ih h2 x).2 ⟨hx, hn⟩)⟩
theorem del_sub (L : List Fi) (k : ByteArray) : (delL L k).Sublist L := by
  induction L with
  | nil => exact List.Sublist.refl _
  | cons y r ih =>
    unfold delL
    split
    · exact List.sublist_cons_self _ _
    · exact ih.cons_cons _
theorem used_del (L : List Fi) (k : ByteArray) : usedL (delL L k) + (bytL L k).length = usedL L := by
  induction L with
  | nil => rfl
  | cons y r ih =>
    unfold delL bytL
    split
    · simp only [usedL]; omega
    · simp only [usedL]; omega
theorem has_del {L : List Fi} (hk : KeysL L) (k k' : ByteArray) : hasL (delL L k) k' = if k = k' then false else hasL L k' := by
  by_cases h : k = k'
  · rw [if_pos h]; exact has_not fun x hx => by rw [← h]; exact ((mem_del hk x).1 hx).2
  · rw [if_neg h]
    cases hh : hasL L k' with
    | true =>
      obtain ⟨x, hx, e⟩ := has_mem.1 hh
      exact has_mem.2 ⟨x, (mem_del hk x).2 ⟨hx, by rw [e]; exact fun e2 => h e2.symm⟩, e⟩
    | false =>
      exact has_not fun x hx e => by
        have := has_mem.2 ⟨x, ((mem_del hk x).1 hx).1, e⟩
        rw [hh] at this; cases this
theorem byt_del {L : List Fi} (hk : KeysL L) (k k' : ByteArray) : bytL (delL L k) k' = if k = k' then [] else bytL L k' := by
  by_cases h : k = k'
  · rw [if_pos h]; exact byt_none (by rw [has_del hk, if_pos h])
  · rw [if_neg h]
    cases hh : hasL L k' with
    | false => rw [byt_none hh]; exact byt_none (by rw [has_del hk, if_neg h]; exact hh)
    | true =>
      obtain ⟨x, hx, e⟩ := has_mem.1 hh
      have h1 := (byt_mem hk hx).1
      have h2 := (byt_mem (hk.sublist (del_sub L k)) ((mem_del hk x).2 ⟨hx, by rw [e]; exact fun e2 => h e2.symm⟩)).1
      rw [e] at h1 h2
      rw [h1, h2]
/-- The same files. -/
def Alike (L L' : List Fi) : Prop := ∀ k, hasL L' k = hasL L k ∧ bytL L' k = bytL L k
theorem same_used : ∀ {L L' : List Fi}, KeysL L → KeysL L' → Alike L L' → usedL L' = usedL L := by
  intro L
  induction L with
  | nil =>
    intro L' _ _ h
    cases L' with
    | nil => rfl
    | cons y r =>
      have := (h y.1).1
      simp [hasL] at this
  | cons y r ih =>
    intro L' hk hk' h
    obtain ⟨h1, h2⟩ := List.pairwise_cons.1 hk
    have h3 : Alike r (delL L' y.1) := fun k => by
      rw [has_del hk', byt_del hk', (h k).1, (h k).2, has_cons, byt_cons]
      by_cases e : y.1 = k
      · simp only [if_pos e]
        have : hasL r k = false := has_not fun x hx e2 => h1 x hx (e.trans e2.symm)
        exact ⟨this.symm, (byt_none this).symm⟩
      · simp only [if_neg e]; exact ⟨trivial, trivial⟩
    have h4 := ih h2 (hk'.sublist (del_sub L' y.1)) h3
    have h5 := used_del L' y.1
    have h6 : bytL L' y.1 = y.2.2 := by
      rw [(h y.1).2, byt_cons, if_pos rfl]
    rw [h6] at h5
    rw [used_cons]
    omega
theorem used_nil : usedL [] = 0 := rfl
end Go.Proofs.YtjijgoflbjbnfaaGreat.Sr

namespace Go.Proofs.YtjijgoflbjbnfaaGreat.Sr
open Go.RowKit Fr

theorem put_any (w : World) (p : Nat) (mb : Option Nat) (s : S) (L : List Fi) (k : ByteArray) (A A0 : Option Addr) (n c n0 cc : Nat) (bs : List Int) (h : w.heap[p]? = some (blk s mb)) (hm : MapO w mb L) (hk : k.size ≤ 12)
    (hv : valL L k = .slice A0 n0 cc) (hn0 : n0 = (bytL L k).length) (hb : 0 ≤ s.used ∧ s.used ≤ 4000000 ∧ n0 ≤ 4000000 ∧ n ≤ 4000000) :
    Calls Tryz.prog 44 #[.pointer (some ⟨p, 0, none⟩), .string k, .slice A n c] w fun e w' => e = .returned (.tuple #[]) ∧ PutTo w w' p s mb L k (.slice A n c) bs n := by
  cases mb with
  | none =>
    cases (show L = [] from hm)
    exact put_none w p s k A n c bs h hk ⟨hb.1, hb.2.1, hb.2.2.2⟩
  | some b => exact put_some w p b s L k A A0 n c n0 cc bs h hm hk hv hn0 hb

theorem app_keeps {w w4 : World} {p : Nat} {s : S} {mb : Option Nat} {L : List Fi} {k : ByteArray} (h : StR w p s mb L) (hg : w.grownBy w4 (valL L k).ownBlock) : w4.heap[p]? = some (blk s mb) ∧ MapO w4 mb L := by
  have hr := val_row h.rows k
  have hb : ∀ i, i < w.heap.size → (valL L k).ownBlock ≠ some i → w4.heap[i]? = w.heap[i]? := fun i hi hn => hg.block i hi (fun e => hn e.symm)
  refine ⟨(hb p (own_lt h (.inl rfl)) fun e => ?_).trans h.blk, h.map.kept fun b e => hb b (own_lt h (.inr (.inl e))) fun e2 => ?_⟩
  · obtain ⟨cur, hc⟩ := row_heap hr e
    rw [h.blk] at hc; cases hc
  · obtain ⟨cur, hc⟩ := row_heap hr e2
    have hm := h.map
    rw [e] at hm; obtain ⟨es, c, h1, _⟩ := hm; rw [hc] at h1; cases h1
theorem app_step {w w4 w5 : World} {p : Nat} {s : S} {mb : Option Nat} {L : List Fi} {k : ByteArray} {v : Value} {nb : List Int} (h : StR w p s mb L) (hg : w.grownBy w4 (valL L k).ownBlock) (hv : rowOf w4 v nb)
    (hloc : ∀ i, v.ownBlock = some i → (valL L k).ownBlock = some i ∨ w.heap.size ≤ i) (hroom : (usedL L : Int) - (bytL L k).length + nb.length ≤ s.room) (hput : PutTo w4 w5 p s mb L k v nb nb.length) :
    ∃ mb' v', Mv w w5 p mb L { s with used := s.used + ((nb.length : Int) - ((bytL L k).length : Int)) } mb' (putL L k (v', nb)) := by
  obtain ⟨h1, h2⟩ := app_keeps h hg
  refine put_step (w2 := w4) h (Off.of_grown hg fun i e => ?_) h1 h2 (fun x hx hn => ?_) hv hloc rfl rfl h.left hroom hput
  · obtain ⟨x, hx, _, h3⟩ := val_own e; exact .inr (.inr ⟨x, hx, h3⟩)
  · exact row_kept (h.rows x hx) fun i hi => hg.block i ((h.rows x hx).lt i hi).2 (fun e => apart_val h.apart hx hn e.symm hi)

theorem useN_le (s : S) (n : Nat) (hs : s.a = true → 0 ≤ s.n ∧ s.n ≤ 9223372036854775807) : 0 ≤ useN s n ∧ useN s n ≤ n := by
  unfold useN
  split
  · rename_i h; have := hs h.1; omega
  · omega
theorem useS_keeps (s : S) (n : Int) (hn : 0 ≤ n) (hs : s.a = true → 0 ≤ s.n ∧ s.n ≤ 9223372036854775807) : (useS s n).used = s.used ∧ (useS s n).room = s.room ∧ ((useS s n).a = true → 0 ≤ (useS s n).n ∧ (useS s n).n ≤ 9223372036854775807) := by
  unfold useS
  split
  · rename_i h
    have := hs h
    split
    · exact ⟨rfl, rfl, fun _ => (⟨by decide, by decide⟩ : (0 : Int) ≤ 0 ∧ (0 : Int) ≤ 9223372036854775807)⟩
    · exact ⟨rfl, rfl, fun _ => by show 0 ≤ s.n - n ∧ s.n - n ≤ _; omega⟩
  · exact ⟨rfl, rfl, hs⟩

theorem Own.hp {w w' : World} {p : Nat} {s : S} {mb : Option Nat} (h : Own w w' p s mb) : w'.heap[p]? = some (blk s mb) := h.1

/-- ready, behind the slice of the one name. -/
theorem ready_one {w : World} {p : Nat} {s : S} {mb : Option Nat} (h : w.heap[p]? = some (blk s mb)) (k : ByteArray) :
    Calls Tryz.prog 42 #[.pointer (some ⟨p, 0, none⟩), .slice (some ⟨w.heap.size, 0, none⟩) 1 1] (w.alloc (.cells #[.string k] 9)) fun e w' => e = .returned (.int .i64 (rdy s.d [k])) ∧ Below w.heap.size w w' := by
  have h1 : NRow (w.alloc (.cells #[.string k] 9)) w.heap.size [k] := by
    refine ⟨by simp, fun j hj => ?_⟩
    have e : j = 0 := by simp at hj; omega
    subst e
    exact (block_cell (block_new w (.cells #[.string k] 9))).1
  refine (ready_any (w.alloc (.cells #[.string k] 9)) p s mb w.heap.size 1 [k] (block_old h _) h1 (by simp)).mono ?_
  rintro e w' ⟨rfl, hb⟩
  exact ⟨rfl, ((Below.refl _ _).alloc (Nat.le_refl _) _).trans (hb.mono (by simp))⟩

set_option maxRecDepth 100000 in
set_option maxHeartbeats 1000000 in
theorem append_bad (w : World) (p : Nat) (s : S) (mb : Option Nat) (L : List Fi) (k : ByteArray) (v : Value) (h : StR w p s mb L) (hr : rdy s.d [k] ≠ 0) :
    Calls Tryz.prog 90 #[.pointer (some ⟨p, 0, none⟩), .string k, v] w fun e w' => e = .returned (.int .i64 (rdy s.d [k])) ∧ Mv w w' p mb L s mb L := by
  have HR := Lib.hid (ready_one h.blk k)
  obtain ⟨r, hr2⟩ : ∃ r, r = rdy s.d [k] := ⟨_, rfl⟩
  rw [← hr2] at HR hr ⊢
  have hb : (r != 0) = true := by simpa using hr
  have HS := Lib.hid h
  clear h hr hr2
  go_enter Tryz.func90, Tryz.ntmps90
  go_wp2_with (go_at_call 42; refine HR.out.mono ?_; rintro e w1 ⟨rfl, hb1⟩; have HB1 := Lib.hid hb1; clear hb1)
  go_ret
  exact ⟨rfl, Mv.of_below HS.out HB1.out⟩

set_option maxRecDepth 100000 in
set_option maxHeartbeats 1000000 in
theorem append_full (w : World) (p : Nat) (s : S) (mb : Option Nat) (L : List Fi) (k : ByteArray) (A : Option Addr) (n c : Nat) (h : StR w p s mb L) (hr : rdy s.d [k] = 0) (hf : s.room < s.used + n) (hn : n ≤ 1000000) :
    Calls Tryz.prog 90 #[.pointer (some ⟨p, 0, none⟩), .string k, .slice A n c] w fun e w' => e = .returned (.int .i64 7) ∧ Mv w w' p mb L s mb L := by
  have HR := Lib.hid (ready_one h.blk k)
  rw [hr] at HR
  have HS := Lib.hid h
  have hroom := h.room
  have hused := h.used
  obtain ⟨x, hx⟩ : ∃ x, x = s.room := ⟨_, rfl⟩
  obtain ⟨u, hu⟩ : ∃ u, u = s.used := ⟨_, rfl⟩
  have hx0 : 0 ≤ x ∧ x ≤ 1048576 := by omega
  have hu0 : 0 ≤ u ∧ u ≤ 1048576 := by omega
  rw [← hx, ← hu] at hf
  obtain ⟨x0, x1⟩ := hx0
  obtain ⟨u0, u1⟩ := hu0
  have e0 : (0 : Int) ≤ (n : Int) := by omega
  have e1 : (n : Int) ≤ 1000000 := by omega
  have HX := Lib.hid hx
  have HU := Lib.hid hu
  clear h hr hx hu hroom hused
  go_enter Tryz.func90, Tryz.ntmps90
  go_upto_region 4 with (go_at_call 42; refine HR.out.mono ?_; rintro e w1 ⟨rfl, hb1⟩; have HB1 := Lib.hid hb1; clear hb1)
  have c3 : ∀ q : InW w1, q.val.cell? ⟨p, 3, none⟩ = some (.int .i64 x) := fun q => q.cell (by rw [HX.out]; exact (blk_cells (HS.out.below HB1.out).blk).1.2.2.2.1)
  have c4 : ∀ q : InW w1, q.val.cell? ⟨p, 4, none⟩ = some (.int .i64 u) := fun q => q.cell (by rw [HU.out]; exact (blk_cells (HS.out.below HB1.out).blk).1.2.2.2.2.1)
  refine wp_region_below (W := w1) (by kernel_rfl) (by kernel_rfl) (Below.refl _ _) ?_
  repeat (go_big_quiet_step (fail))
  refine wpQuiet_nil ?_
  rintro _ ⟨q0, rfl⟩
  obtain ⟨wq, hbq⟩ := q0
  try dsimp only
  have HBQ := Lib.hid hbq
  clear c3 c4 hbq
  go_wp2
  go_ret
  exact ⟨rfl, Mv.of_below HS.out (HB1.out.trans (HBQ.out.mono HB1.out.size))⟩
set_option maxRecDepth 100000 in
set_option maxHeartbeats 1000000 in
/-- The store dies ahead of the first byte. -/
theorem append_down (w : World) (p : Nat) (s : S) (mb : Option Nat) (L : List Fi) (k : ByteArray) (A : Option Addr) (n c : Nat) (h : StR w p s mb L) (hr : rdy s.d [k] = 0) (hf : ¬ s.room < s.used + n) (hn : n ≤ 1000000) (h0 : 0 < n) (hm : useN s n = 0) :
    Calls Tryz.prog 90 #[.pointer (some ⟨p, 0, none⟩), .string k, .slice A n c] w fun e w' => e = .returned (.int .i64 (dwn (useS s n))) ∧ Mv w w' p mb L (useS s n) mb L := by
  have HR := Lib.hid (ready_one h.blk k)
  rw [hr] at HR
  have HS := Lib.hid h
  have hroom := h.room
  have hused := h.used
  have huse : ∀ W, Below w.heap.size w W → Calls Tryz.prog 43 #[.pointer (some ⟨p, 0, none⟩), .int .i64 (n : Int)] W fun e w' => e = .returned (.int .i64 0) ∧ Own W w' p (useS s n) mb := fun W hW => by
    rw [← hm]; exact use_any W p s mb n ((h.below hW).blk) (by omega) h.left
  have HUS := Lib.hid huse
  have hkeep := Lib.hid (useS_keeps s n (by omega) h.left)
  obtain ⟨x, hx⟩ : ∃ x, x = s.room := ⟨_, rfl⟩
  obtain ⟨u, hu⟩ : ∃ u, u = s.used := ⟨_, rfl⟩
  have hx0 : 0 ≤ x ∧ x ≤ 1048576 := by omega
  have hu0 : 0 ≤ u ∧ u ≤ 1048576 := by omega
  rw [← hx, ← hu] at hf
  obtain ⟨x0, x1⟩ := hx0
  obtain ⟨u0, u1⟩ := hu0
  have e0 : (0 : Int) ≤ (n : Int) := by omega
  have e1 : (n : Int) ≤ 1000000 := by omega
  have e2 : ((n : Int) == 0) = false := by simp; omega
  have HX := Lib.hid hx
  have HU := Lib.hid hu
  obtain ⟨s1, hs1⟩ : ∃ s1, s1 = useS s n := ⟨_, rfl⟩
  rw [← hs1] at HUS hkeep ⊢
  obtain ⟨d1, hd1⟩ : ∃ d1, d1 = dwn s1 := ⟨_, rfl⟩
  rw [← hd1]
  have hst : ∀ W, W.heap[p]? = some (blk s1 mb) → Calls Tryz.prog 45 #[.pointer (some ⟨p, 0, none⟩)] W fun e w' => e = .returned (.int .i64 d1) ∧ W = w' := fun W hW => by
    rw [hd1]; exact state_any W p s1 mb hW
  have HST := Lib.hid hst
  clear h hr hx hu hroom hused huse hm hst hs1 hd1
  go_enter Tryz.func90, Tryz.ntmps90
  go_upto_region 4 with (go_at_call 42; refine HR.out.mono ?_; rintro e w1 ⟨rfl, hb1⟩; have HB1 := Lib.hid hb1; clear hb1)
  have c3 : ∀ q : InW w1, q.val.cell? ⟨p, 3, none⟩ = some (.int .i64 x) := fun q => q.cell (by rw [HX.out]; exact (blk_cells (HS.out.below HB1.out).blk).1.2.2.2.1)
  have c4 : ∀ q : InW w1, q.val.cell? ⟨p, 4, none⟩ = some (.int .i64 u) := fun q => q.cell (by rw [HU.out]; exact (blk_cells (HS.out.below HB1.out).blk).1.2.2.2.2.1)
  refine wp_region_below (W := w1) (by kernel_rfl) (by kernel_rfl) (Below.refl _ _) ?_
  repeat (go_big_quiet_step (fail))
  refine wpQuiet_nil ?_
  rintro _ ⟨q0, rfl⟩
  obtain ⟨wq, hbq⟩ := q0
  try dsimp only
  have HBQ : Hid (Below w.heap.size w wq) := HB1.out.trans (hbq.mono HB1.out.size)
  clear c3 c4 hbq
  go_wp2_with (first
    | (go_at_call 45; (with_reducible refine (HST.out _ HOW.out.hp).mono ?_); rintro e w3 ⟨rfl, rfl⟩)
    | (go_at_call 43; (with_reducible refine (HUS.out _ HBQ.out).mono ?_); rintro e w2 ⟨rfl, how⟩; have HOW := Lib.hid how; clear how))
  go_ret
  exact ⟨rfl, (Mv.of_below HS.out HBQ.out).trans (Mv.of_own (HS.out.below HBQ.out) HOW.out hkeep.out.1 hkeep.out.2.1 hkeep.out.2.2)⟩
end Go.Proofs.YtjijgoflbjbnfaaGreat.Sr
