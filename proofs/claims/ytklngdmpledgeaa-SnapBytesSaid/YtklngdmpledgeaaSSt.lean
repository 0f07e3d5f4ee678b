/-
  A store with its files in memory; what a step leaves; bytes appended to a file. Conditions: none.
-/
import Derived.Test.YtklngdmpledgeaaSPut
import Derived.Maps.AppendAt
namespace Go.Proofs.Ytklngdmpledgeaa.Sr
open Go.RowKit Fr

/-- The blocks that a store has. -/
def own (p : Nat) (mb : Option Nat) (L : List Fi) (i : Nat) : Prop := i = p ∨ mb = some i ∨ ∃ x ∈ L, x.2.1.ownBlock = some i
def apart (x y : Fi) : Prop := ∀ i, x.2.1.ownBlock = some i → y.2.1.ownBlock ≠ some i
abbrev rowOf (w : World) (v : Value) (l : List Int) : Prop := w.ownsRow 0 5 1 v l.length (bv l)
/-- The store p: its cells, its map, its files. -/
structure StR (w : World) (p : Nat) (s : S) (mb : Option Nat) (L : List Fi) : Prop where
  blk : w.heap[p]? = some (blk s mb)
  map : MapO w mb L
  rows : ∀ x ∈ L, rowOf w x.2.1 x.2.2
  apart : L.Pairwise apart
  keys : L.Pairwise fun x y => x.1 ≠ y.1
  used : s.used = usedL L
  room : (usedL L : Int) ≤ s.room ∧ s.room ≤ 1048576
  left : s.a = true → 0 ≤ s.n ∧ s.n ≤ 9223372036854775807
/-- Behind a step of the store. -/
structure Mv (w w' : World) (p : Nat) (mb : Option Nat) (L : List Fi) (s' : S) (mb' : Option Nat) (L' : List Fi) : Prop where
  st : StR w' p s' mb' L'
  off : Off (own p mb L) w w'
  new : ∀ i, own p mb' L' i → own p mb L i ∨ w.heap.size ≤ i

theorem own_lt {w : World} {p : Nat} {s : S} {mb : Option Nat} {L : List Fi} (h : StR w p s mb L) {i : Nat} (hi : own p mb L i) : i < w.heap.size := by
  rcases hi with rfl | rfl | ⟨x, hx, hi⟩
  · exact (Array.getElem?_eq_some_iff.1 h.blk).1
  · exact h.map.lt
  · exact ((h.rows x hx).lt i hi).2
theorem row_heap {w : World} {v : Value} {l : List Int} {i : Nat} (h : rowOf w v l) (hi : v.ownBlock = some i) : ∃ cur, w.heap[i]? = some (.cells cur 5 (0, 0)) := by
  rcases h.2 with ⟨rfl, _⟩ | ⟨g, cap, cur, rfl, _, h2, _⟩
  · cases hi
  · cases hi; exact ⟨cur, h2⟩
theorem row_kept {w w' : World} {v : Value} {l : List Int} (h : rowOf w v l) (hb : ∀ i, v.ownBlock = some i → w'.heap[i]? = w.heap[i]?) : rowOf w' v l := by
  refine ⟨h.1, ?_⟩
  rcases h.2 with h2 | ⟨g, cap, cur, rfl, h0, h2, h3⟩
  · exact .inl h2
  · exact .inr ⟨g, cap, cur, rfl, h0, by rw [hb g rfl]; exact h2, h3⟩
/-- What leaves a store's blocks alone leaves the store. -/
theorem StR.kept {w w' : World} {p : Nat} {s : S} {mb : Option Nat} {L : List Fi} {T : Nat → Prop} (h : StR w p s mb L) (ho : Off T w w') (hT : ∀ i, own p mb L i → ¬ T i) : StR w' p s mb L := by
  have hb : ∀ i, own p mb L i → w'.heap[i]? = w.heap[i]? := fun i hi => ho.2 i (own_lt h hi) (hT i hi)
  exact ⟨(hb p (.inl rfl)).trans h.blk, h.map.kept fun b e => hb b (.inr (.inl e)), fun x hx => row_kept (h.rows x hx) fun i hi => hb i (.inr (.inr ⟨x, hx, hi⟩)), h.apart, h.keys, h.used, h.room, h.left⟩
theorem StR.below {w w' : World} {p : Nat} {s : S} {mb : Option Nat} {L : List Fi} (h : StR w p s mb L) (hb : Below w.heap.size w w') : StR w' p s mb L :=
  h.kept (T := fun _ => False) (Off.of_below _ hb) (fun _ _ h => h)
theorem Mv.refl {w : World} {p : Nat} {s : S} {mb : Option Nat} {L : List Fi} (h : StR w p s mb L) : Mv w w p mb L s mb L := ⟨h, Off.refl _ _, fun _ h => .inl h⟩
theorem Mv.of_below {w w' : World} {p : Nat} {s : S} {mb : Option Nat} {L : List Fi} (h : StR w p s mb L) (hb : Below w.heap.size w w') : Mv w w' p mb L s mb L := ⟨h.below hb, Off.of_below _ hb, fun _ h => .inl h⟩
theorem Mv.trans {a b c : World} {p : Nat} {mb mb1 mb2 : Option Nat} {L L1 L2 : List Fi} {s1 s2 : S} (h : Mv a b p mb L s1 mb1 L1) (k : Mv b c p mb1 L1 s2 mb2 L2) : Mv a c p mb L s2 mb2 L2 :=
  ⟨k.st, h.off.trans k.off h.new, fun i hi => (k.new i hi).elim (h.new i) (fun h2 => .inr (Nat.le_trans h.off.1.size h2))⟩
/-- A step that turns the store's own cells alone. -/
theorem Mv.of_own {w w' : World} {p : Nat} {s s' : S} {mb : Option Nat} {L : List Fi} (h : StR w p s mb L) (ho : Own w w' p s' mb) (hu : s'.used = s.used) (hr : s'.room = s.room) (hl : s'.a = true → 0 ≤ s'.n ∧ s'.n ≤ 9223372036854775807) : Mv w w' p mb L s' mb L := by
  have hOff : Off (fun i => i = p) w w' := Off.of_grown ho.2.1 (fun i e => (Option.some.inj e).symm)
  have hb : ∀ i, own p mb L i → i ≠ p → w'.heap[i]? = w.heap[i]? := fun i hi hn => hOff.2 i (own_lt h hi) hn
  refine ⟨⟨ho.1, h.map.kept fun b e => hb b (.inr (.inl e)) ?_, fun x hx => row_kept (h.rows x hx) fun i hi => hb i (.inr (.inr ⟨x, hx, hi⟩)) ?_, h.apart, h.keys, by rw [hu]; exact h.used, by rw [hr]; exact h.room, hl⟩, hOff.mono fun i e => .inl e, fun i hi => .inl hi⟩
  · subst e; exact (MapO.ne h.map h.blk).symm
  · rintro rfl
    obtain ⟨cur, h2⟩ := row_heap (h.rows x hx) hi
    rw [h.blk] at h2; cases h2

/-! ### Lists of files -/
theorem mem_put {L : List Fi} {k : ByteArray} {z : Value × List Int} (hk : L.Pairwise fun x y => x.1 ≠ y.1) : ∀ x ∈ putL L k z, x = (k, z) ∨ (x ∈ L ∧ x.1 ≠ k) := by
  induction L with
  | nil => intro x hx; simp [putL] at hx; exact .inl hx
  | cons y r ih =>
    obtain ⟨h1, h2⟩ := List.pairwise_cons.1 hk
    intro x hx
    unfold putL at hx
    split at hx
    · rename_i he
      rcases List.mem_cons.1 hx with rfl | hx
      · exact .inl rfl
      · exact .inr ⟨List.mem_cons_of_mem _ hx, fun e => h1 x hx (by rw [he, e])⟩
    · rename_i he
      rcases List.mem_cons.1 hx with rfl | hx
      · exact .inr ⟨List.mem_cons_self, he⟩
      · rcases ih h2 x hx with h3 | ⟨h3, h4⟩
        · exact .inl h3
        · exact .inr ⟨List.mem_cons_of_mem _ h3, h4⟩
theorem pair_put {L : List Fi} {k : ByteArray} {z : Value × List Int} (R : Fi → Fi → Prop) (hR : L.Pairwise R) (hk : L.Pairwise fun x y => x.1 ≠ y.1) (h1 : ∀ x ∈ L, x.1 ≠ k → R x (k, z) ∧ R (k, z) x) : (putL L k z).Pairwise R := by
  induction L with
  | nil => exact List.pairwise_singleton _ _
  | cons y r ih =>
    obtain ⟨a1, a2⟩ := List.pairwise_cons.1 hR
    obtain ⟨b1, b2⟩ := List.pairwise_cons.1 hk
    unfold putL
    split
    · rename_i he
      exact List.pairwise_cons.2 ⟨fun x hx => (h1 x (List.mem_cons_of_mem _ hx) (fun e => b1 x hx (by rw [he, e]))).2, a2⟩
    · rename_i he
      refine List.pairwise_cons.2 ⟨fun x hx => ?_, ih a2 b2 (fun x hx hn => h1 x (List.mem_cons_of_mem _ hx) hn)⟩
      rcases mem_put b2 x hx with rfl | ⟨hx, _⟩
      · exact (h1 y List.mem_cons_self he).1
      · exact a1 x hx
theorem used_put {L : List Fi} {k : ByteArray} {v : Value} {l : List Int} : usedL (putL L k (v, l)) + (bytL L k).length = usedL L + l.length := by
  induction L with
  | nil => simp [putL, usedL, bytL]
  | cons y r ih =>
    unfold putL bytL
    split
    · simp only [usedL]; omega
    · simp only [usedL]; omega
theorem byt_used (L : List Fi) (k : ByteArray) : (bytL L k).length ≤ usedL L := by
  induction L with
  | nil => simp [bytL]
  | cons y r ih =>
    unfold bytL usedL
    split
    · omega
    · omega
theorem val_row {w : World} {L : List Fi} (h : ∀ x ∈ L, rowOf w x.2.1 x.2.2) (k : ByteArray) : rowOf w (valL L k) (bytL L k) := by
  induction L with
  | nil => exact World.ownsRow_nil _ _ _ _
  | cons y r ih =>
    unfold valL bytL
    split
    · exact h y List.mem_cons_self
    · exact ih fun x hx => h x (List.mem_cons_of_mem _ hx)
theorem val_own {L : List Fi} {k : ByteArray} {i : Nat} (h : (valL L k).ownBlock = some i) : ∃ x ∈ L, x.1 = k ∧ x.2.1.ownBlock = some i := by
  induction L with
  | nil => cases h
  | cons y r ih =>
    unfold valL at h
    split at h
    · rename_i he; exact ⟨y, List.mem_cons_self, he, h⟩
    · obtain ⟨x, hx, h2⟩ := ih h; exact ⟨x, List.mem_cons_of_mem _ hx, h2⟩
/-- No other file lies where this one lies. -/
theorem apart_val {L : List Fi} (ha : L.Pairwise apart) {k : ByteArray} {x : Fi} (hx : x ∈ L) (hn : x.1 ≠ k) {i : Nat} (h : (valL L k).ownBlock = some i) : x.2.1.ownBlock ≠ some i := by
  induction L with
  | nil => cases hx
  | cons y r ih =>
    obtain ⟨a1, a2⟩ := List.pairwise_cons.1 ha
    unfold valL at h
    split at h
    · rename_i he
      rcases List.mem_cons.1 hx with rfl | hx
      · exact absurd he hn
      · exact a1 x hx i h
    · rcases List.mem_cons.1 hx with rfl | hx
      · obtain ⟨y2, hy2, _, h2⟩ := val_own h
        intro e
        exact a1 y2 hy2 i e h2
      · exact ih a2 hx h

/-- Behind put: the store with one file's bytes anew. -/
theorem put_step {w w2 w3 : World} {p : Nat} {s s1 : S} {mb : Option Nat} {L : List Fi} {k : ByteArray} {v : Value} {nb : List Int} (h : StR w p s mb L)
    (hoff : Off (own p mb L) w w2) (hp : w2.heap[p]? = some (blk s1 mb)) (hm : MapO w2 mb L) (hx : ∀ x ∈ L, x.1 ≠ k → rowOf w2 x.2.1 x.2.2) (hv : rowOf w2 v nb)
    (hloc : ∀ i, v.ownBlock = some i → (valL L k).ownBlock = some i ∨ w.heap.size ≤ i) (hu : s1.used = s.used) (hr : s1.room = s.room) (hl : s1.a = true → 0 ≤ s1.n ∧ s1.n ≤ 9223372036854775807)
    (hroom : (usedL L : Int) - (bytL L k).length + nb.length ≤ s.room) (hput : PutTo w2 w3 p s1 mb L k v nb nb.length) :
    ∃ mb' v', Mv w w3 p mb L { s1 with used := s.used + ((nb.length : Int) - ((bytL L k).length : Int)) } mb' (putL L k (v', nb)) := by
  obtain ⟨b', q1, q2, q3, q4⟩ := hput
  rw [hu] at q1
  have hb2 : ∀ i, i < w2.heap.size → i ≠ p → mb ≠ some i → w3.heap[i]? = w2.heap[i]? := fun i hi h1 h2 => q4.2 i hi (fun e => e.elim h1 h2)
  have hrow : ∀ {u : Value} {l : List Int}, rowOf w2 u l → rowOf w3 u l := fun {u l} hu => row_kept hu fun i hi => by
    obtain ⟨cur, hc⟩ := row_heap hu hi
    refine hb2 i (Array.getElem?_eq_some_iff.1 hc).1 ?_ ?_
    · rintro rfl; rw [hp] at hc; cases hc
    · intro e; rw [e] at hm; obtain ⟨es, c, h1, _⟩ := hm; rw [hc] at h1; cases h1
  have hup := used_put (L := L) (k := k) (v := v) (l := nb)
  have hlt : ∀ x ∈ L, ∀ i, x.2.1.ownBlock = some i → i < w.heap.size := fun x hx i hi => ((h.rows x hx).lt i hi).2
  refine ⟨some b', v, ⟨⟨q1, q2, fun x hx2 => ?_, pair_put _ h.apart h.keys fun x hx2 hn => ⟨fun i hi e => ?_, fun i hi e => ?_⟩, pair_put _ h.keys h.keys fun x _ hn => ⟨hn, hn.symm⟩, ?_, ?_, hl⟩, hoff.trans q4 fun i hi => ?_, fun i hi => ?_⟩⟩
  · rcases mem_put h.keys x hx2 with rfl | ⟨h1, h2⟩
    · exact hrow hv
    · exact hrow (hx x h1 h2)
  · rcases hloc i e with h1 | h1
    · exact apart_val h.apart hx2 hn h1 hi
    · have := hlt x hx2 i hi; omega
  · rcases hloc i hi with h1 | h1
    · exact apart_val h.apart hx2 hn h1 e
    · have := hlt x hx2 i e; omega
  · show s.used + _ = _
    have := h.used; omega
  · have := h.room
    show _ ≤ s1.room ∧ s1.room ≤ _
    rw [hr]; omega
  · rcases hi with rfl | hi
    · exact .inl (.inl rfl)
    · exact .inl (.inr (.inl hi))
  · rcases hi with rfl | hi | ⟨x, hx2, hi⟩
    · exact .inl (.inl rfl)
    · rcases q3 with h1 | ⟨_, h1⟩
      · exact .inl (.inr (.inl (h1.trans hi)))
      · cases hi; exact .inr (Nat.le_trans hoff.1.size h1)
    · rcases mem_put h.keys x hx2 with rfl | ⟨h1, h2⟩
      · rcases hloc i hi with h1 | h1
        · obtain ⟨y, hy, _, h3⟩ := val_own h1; exact .inl (.inr (.inr ⟨y, hy, h3⟩))
        · exact .inr h1
      · exact .inl (.inr (.inr ⟨x, h1, hi⟩))

/-- Bytes from anywhere behind a row, and where the new row lies. -/
theorem app_at (w : World) (v : Value) (l : List Int) (hown : rowOf w v l) (x : Value) (m : List Int) (hx : BAt w x m) (hb : l.length + m.length ≤ 4000000) :
    ∃ A cap w', (Builtin.append_ #[32, 32] 32 #[v, x]).run Try.prog w = .ok (.slice A (l.length + m.length) cap) w' ∧ rowOf w' (.slice A (l.length + m.length) cap) (l ++ m) ∧ w.grownBy w' v.ownBlock ∧
      ∀ i, (Value.slice A (l.length + m.length) cap).ownBlock = some i → v.ownBlock = some i ∨ w.heap.size ≤ i := by
  obtain ⟨i0, hi0, hz0, hz1, hz2⟩ := info_parts u8Inf
  obtain ⟨A, cap, rfl, _, hc⟩ := id hx
  cases A with
  | none =>
    have h0 : m = [] := by
      cases m with
      | nil => rfl
      | cons y r => obtain ⟨g, o, h1, _⟩ := hc (by simp); cases h1
    subst h0
    obtain ⟨A1, c1, h1, _⟩ := BAt.of_own hown
    refine ⟨A1, c1, w, ?_, ?_, grownBy_refl _ _, ?_⟩
    · show _ = Result.ok (Value.slice A1 l.length c1) w
      rw [← h1]
      rcases hown.2 with ⟨h4, _⟩ | ⟨g, cap3, cur, h4, _, _, hnc, _⟩
      · rw [h4]
        simp [Builtin.append_, run_underlying Try.underlying32, sizeOf, typeInfo, hi0, Builtin.lenOf, Builtin.firstCells]
      · rw [h4]
        simp [Builtin.append_, run_underlying Try.underlying32, sizeOf, typeInfo, hi0, Builtin.lenOf, Builtin.firstCells, hnc, storeCells]
    · rw [h1] at hown
      rw [List.append_nil]
      exact hown
    · intro i hi; rw [h1]; exact .inl hi
  | some a =>
    obtain ⟨v', w', hr, ho, hg, _, hat⟩ := run_append_own_at (P := Try.prog) w 0 32 32 5 i0 (.int .u8 0) 1 1 Try.underlying32 hi0 hz0 hz1 hz2 rfl (by decide) v l.length (bv l) hown a m.length cap (bv m) (by rw [bv_len, Nat.mul_one]) (bat_cells hx rfl) (bv_one _) (by unfold maxLen; omega) (by omega) (Nat.zero_le _)
    rw [← bv_app] at ho
    have ho2 : rowOf w' v' (l ++ m) := by unfold rowOf; rw [List.length_append]; exact ho
    obtain ⟨A1, c1, h1, _⟩ := BAt.of_own ho2
    rw [List.length_append] at h1
    subst h1
    refine ⟨A1, c1, w', hr, ho2, hg, fun i hi => ?_⟩
    rcases hat with h2 | h2
    · exact .inl (h2.symm.trans hi)
    · rw [h2] at hi; cases hi; exact .inr (Nat.le_refl _)
end Go.Proofs.Ytklngdmpledgeaa.Sr
