/-
  Both stores side by side in one world: a round of StorePlays' loop. Conditions: none.
-/
import Derived.Test.YtffeinbbgfogoaaSRlsm
namespace Go.Proofs.Ytffeinbbgfogoaa.Sr
open Go.RowKit Fr

structure Pl (w W : World) (p q : Nat) (room : Int) (n : Nat) (s : S) (mb : Option Nat) (L : List Fi) (x : RS) : Prop where
  st : StR W p s mb L
  rf : RfR W q x
  rl : Rl s x
  al : Alike x.D L
  good : Good x.D n
  room : s.room = room
  apart : ∀ j, own p mb L j → ¬ ro q x j
  lo : ∀ j, own p mb L j → w.heap.size ≤ j
  lr : ∀ j, ro q x j → w.heap.size ≤ j
  bel : Below w.heap.size w W
theorem Pl.below {w W W' : World} {p q n : Nat} {room : Int} {s : S} {mb : Option Nat} {L : List Fi} {x : RS} (h : Pl w W p q room n s mb L x) (hb : Below W.heap.size W W') : Pl w W' p q room n s mb L x :=
  ⟨h.st.below hb, h.rf.below hb, h.rl, h.al, h.good, h.room, h.apart, h.lo, h.lr, h.bel.trans (hb.mono h.bel.size)⟩
theorem do_room (s : S) (L : List Fi) (a : Ac) : (doS s L a).room = s.room := by
  have hu : ∀ n, (useS s n).room = s.room := fun n => by
    unfold useS
    split
    · split <;> rfl
    · rfl
  unfold doS
  split
  · unfold appS
    split
    · split
      · exact hu _
      · exact hu _
    · rfl
  split
  · unfold wriS
    split
    · split
      · exact hu _
      · exact hu _
    · rfl
  split
  · unfold cutS
    split
    · split
      · exact hu _
      · exact hu _
    · rfl
  split
  · unfold renS
    split
    · exact hu _
    · rfl
  split
  · unfold drpS
    split
    · split
      · exact hu _
      · exact hu _
    · rfl
  · rfl
/-- The store first, then the reference. -/
theorem Pl.both1 {w W W1 W2 : World} {p q n : Nat} {room : Int} {s : S} {mb : Option Nat} {L : List Fi} {x : RS} (a : Ac) (h : Pl w W p q room n s mb L x) (h1 : Mo W W1 p mb L (doS s L a) (doL s L a)) (h2 : RTo W1 W2 q x (doS s x.D a) (doL s x.D a)) :
    ∃ mb' L' x', Pl w W2 p q room (n + 1) (doS s L a) mb' L' x' := by
  obtain ⟨mb', L', mv, al1⟩ := h1
  obtain ⟨x', hm, al2, hl⟩ := h2
  obtain ⟨e1, e2⟩ := do_congr s a h.rf.srt.keys h.st.keys h.al
  have s1 := mv.off.1.size
  have hown : ∀ j, own p mb' L' j → ¬ ro q x j := fun j hj hr => (mv.new j hj).elim (fun h3 => h.apart j h3 hr) fun h3 => by have := h.rf.lt hr; omega
  have hb1 : Below w.heap.size w W1 := h.bel.trans (mv.off.below h.lo h.bel.size)
  have hq : ∀ j, j = q → w.heap.size ≤ j := fun j e => h.lr j (.inl e)
  refine ⟨mb', L', x', mv.st.kept hm.off (fun j hj e => hown j hj (.inl e)), hm.st, by rw [e1]; exact hl, ?_, good_alike (do_good s a h.good) hm.st.srt.keys al2, by rw [do_room]; exact h.room, fun j hj hr => ?_, fun j hj => ?_, fun j hj => ?_, hb1.trans (hm.off.below hq hb1.size)⟩
  · exact (al2.symm.trans e2).trans al1
  · rcases hm.new j hr with h3 | h3
    · exact hown j hj h3
    · have := own_lt mv.st hj; omega
  · exact (mv.new j hj).elim (h.lo j) fun h3 => Nat.le_trans h.bel.size h3
  · exact (hm.new j hj).elim (h.lr j) fun h3 => Nat.le_trans hb1.size h3
/-- The reference first, then the store. -/
theorem Pl.both2 {w W W1 W2 : World} {p q n : Nat} {room : Int} {s : S} {mb : Option Nat} {L : List Fi} {x : RS} (a : Ac) (h : Pl w W p q room n s mb L x) (h2 : RTo W W1 q x (doS s x.D a) (doL s x.D a)) (h1 : Mo W1 W2 p mb L (doS s L a) (doL s L a)) :
    ∃ mb' L' x', Pl w W2 p q room (n + 1) (doS s L a) mb' L' x' := by
  obtain ⟨mb', L', mv, al1⟩ := h1
  obtain ⟨x', hm, al2, hl⟩ := h2
  obtain ⟨e1, e2⟩ := do_congr s a h.rf.srt.keys h.st.keys h.al
  have s1 := hm.off.1.size
  have hq : ∀ j, j = q → w.heap.size ≤ j := fun j e => h.lr j (.inl e)
  have hro : ∀ j, own p mb L j → ¬ ro q x' j := fun j hj hr => (hm.new j hr).elim (h.apart j hj) fun h3 => by have := own_lt h.st hj; omega
  have hb1 : Below w.heap.size w W1 := h.bel.trans (hm.off.below hq h.bel.size)
  refine ⟨mb', L', x', mv.st, hm.st.kept mv.off (fun j hj ho => hro j ho hj), by rw [e1]; exact hl, ?_, good_alike (do_good s a h.good) hm.st.srt.keys al2, by rw [do_room]; exact h.room, fun j hj hr => ?_, fun j hj => ?_, fun j hj => ?_, hb1.trans (mv.off.below h.lo hb1.size)⟩
  · exact (al2.symm.trans e2).trans al1
  · rcases mv.new j hj with h3 | h3
    · exact hro j h3 hr
    · have := hm.st.lt hr; omega
  · exact (mv.new j hj).elim (h.lo j) fun h3 => Nat.le_trans hb1.size h3
  · exact (hm.new j hj).elim (h.lr j) fun h3 => Nat.le_trans h.bel.size h3
/-- What the reference's changes ask for. -/
theorem Pl.fit {w W W' : World} {p q n : Nat} {room : Int} {s : S} {mb : Option Nat} {L : List Fi} {x : RS} (h : Pl w W p q room n s mb L x) (hr : 0 ≤ room ∧ room ≤ 1000) (hn : n ≤ 990) (hrf : RfR W' q x) : Fit W' q x s := by
  have h1 := h.st.room
  have h2 := h.rl.used
  have h3 := h.st.used
  have h4 := h.good.2.1
  have h5 := h.room
  exact ⟨hrf, h.rl, by omega, by omega, by omega⟩
/-- The old store turns, the copy goes on. -/
theorem Pl.copy {w W W1 W2 : World} {p q n : Nat} {room : Int} {s s2 : S} {mb mb1 : Option Nat} {L L1 Lc : List Fi} {x : RS} (h : Pl w W p q room n s mb L x) (hc : Copied W W1 s L mb1 L1) (h1 : Mo W1 W2 p mb L s2 Lc) : Pl w W2 W.heap.size q room n s mb1 L1 x := by
  obtain ⟨c1, c2, c3, c4⟩ := hc
  obtain ⟨mb', L', mv, _⟩ := h1
  have s1 := c2.size
  have hb1 : Below w.heap.size w W1 := h.bel.trans (c2.mono h.bel.size)
  refine ⟨c1.kept mv.off (fun j hj ho => ?_), (h.rf.below c2).kept mv.off (fun j hj ho => h.apart j ho hj), h.rl, h.al.trans c4, h.good, h.room, fun j hj hr => ?_, fun j hj => ?_, h.lr, hb1.trans (mv.off.below h.lo hb1.size)⟩
  · have := c3 j hj; have := own_lt h.st ho; omega
  · have := c3 j hj; have := h.rf.lt hr; omega
  · have := c3 j hj; have := h.bel.size; omega
end Go.Proofs.Ytffeinbbgfogoaa.Sr
