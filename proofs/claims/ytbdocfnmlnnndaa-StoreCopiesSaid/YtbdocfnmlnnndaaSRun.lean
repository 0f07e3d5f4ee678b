/-
  Calls of do, one behind the other, at stores that are alike; calls in memory. Conditions: none.
-/
import Derived.Test.YtbdocfnmlnnndaaSDo2
import Derived.Test.YtbdocfnmlnnndaaSAlk
import Derived.Test.YtbdocfnmlnnndaaSCop0
namespace Go.Proofs.Ytbdocfnmlnnndaa.Sr
open Go.RowKit Fr

theorem fnd_alike {L L' : List Fi} (h : Alike L L') (d : Bool) (k : ByteArray) (ns : List ByteArray) : fnd d L' k ns = fnd d L k ns := by
  unfold fnd; rw [(h k).1]
theorem do_congr (s : S) {L L' : List Fi} (a : Ac) (hk : KeysL L) (hk' : KeysL L') (h : Alike L L') : doS s L' a = doS s L a ∧ Alike (doL s L a) (doL s L' a) := by
  have e1 : ∀ k, bytL L' k = bytL L k := fun k => (h k).2
  have e2 : ∀ k, hasL L' k = hasL L k := fun k => (h k).1
  have eW : ∀ k m, wriB s L' k m ↔ wriB s L k m := fun k m => by unfold wriB; rw [e1]
  have eC : ∀ k x, cutB s L' k x ↔ cutB s L k x := fun k x => by unfold cutB; rw [e1, fnd_alike h]
  have hren : Alike (renL s L a.nm a.tw) (renL s L' a.nm a.tw) := by
    unfold renL
    rw [fnd_alike h]
    split
    · rw [e1]; exact (h.del hk hk' _).put _ _ _ _
    · exact h
  have hrenK : ∀ {L : List Fi}, KeysL L → KeysL (renL s L a.nm a.tw) := fun {L} hk => by
    unfold renL
    split
    · exact keys_put (keys_del hk _) _ _
    · exact hk
  constructor
  · unfold doS
    have w1 : wriS s L' a.nm a.b.length = wriS s L a.nm a.b.length := by unfold wriS; simp only [eW, e1]
    have w2 : cutS s L' a.nm a.n = cutS s L a.nm a.n := by unfold cutS; simp only [eC, e1]
    have w3 : renS s L' a.nm a.tw = renS s L a.nm a.tw := by
      unfold renS
      rw [fnd_alike h, same_used (hrenK hk) (hrenK hk') hren]
    have w4 : drpS s L' a.nm = drpS s L a.nm := by unfold drpS; rw [fnd_alike h, e1]
    rw [w1, w2, w3, w4]
  · unfold doL
    split
    · unfold appL
      split
      · split
        · rw [e1]; exact h.put _ _ _ _
        · exact h
      · exact h
    split
    · unfold wriL
      simp only [eW]
      split
      · split
        · exact h.put _ _ _ _
        · exact h
      · exact h
    split
    · unfold cutL
      simp only [eC]
      split
      · split
        · rw [e1]; exact h.put _ _ _ _
        · exact h
      · exact h
    split
    · exact hren
    split
    · unfold drpL
      rw [fnd_alike h]
      split
      · exact h.del hk hk' _
      · exact h
    · exact h

/-- A list whose names are right, of at most n files. -/
def Good (L : List Fi) (n : Nat) : Prop := KeysL L ∧ L.length ≤ n ∧ ∀ x ∈ L, x.1.size ≤ 12
theorem put_len (L : List Fi) (k : ByteArray) (z : Value × List Int) : (putL L k z).length ≤ L.length + 1 := by
  induction L with
  | nil => simp [putL]
  | cons y r ih =>
    unfold putL
    split
    · simp
    · simp only [List.length_cons]; omega
theorem Good.put {L : List Fi} {n : Nat} (h : Good L n) {k : ByteArray} (hk : k.size ≤ 12) (z : Value × List Int) : Good (putL L k z) (n + 1) := by
  refine ⟨keys_put h.1 _ _, Nat.le_trans (put_len _ _ _) (by have := h.2.1; omega), fun x hx => ?_⟩
  rcases mem_put h.1 x hx with rfl | ⟨hx, _⟩
  · exact hk
  · exact h.2.2 x hx
theorem Good.del {L : List Fi} {n : Nat} (h : Good L n) (k : ByteArray) : Good (delL L k) n :=
  ⟨keys_del h.1 _, Nat.le_trans (del_sub L k).length_le h.2.1, fun x hx => h.2.2 x ((del_sub L k).subset hx)⟩
theorem Good.more {L : List Fi} {n : Nat} (h : Good L n) : Good L (n + 1) := ⟨h.1, Nat.le_succ_of_le h.2.1, h.2.2⟩
theorem rdy_size {d : Bool} {k t : ByteArray} (h : rdy d [t, k] = 0) : t.size ≤ 12 := by
  unfold rdy at h
  split at h
  · cases h
  · split at h
    · rename_i h2
      simp only [List.all_cons, Bool.and_eq_true] at h2
      have h3 := h2.1
      unfold okN at h3
      simp only [Bool.and_eq_true, decide_eq_true_eq] at h3
      exact h3.1.2
    · cases h
theorem do_good (s : S) {L : List Fi} {n : Nat} (a : Ac) (h : Good L n) : Good (doL s L a) (n + 1) := by
  unfold doL
  split
  · unfold appL
    split
    · rename_i hB
      split
      · exact h.put (okN_of hB.1).2 _
      · exact h.more
    · exact h.more
  split
  · unfold wriL
    split
    · rename_i hB
      split
      · exact h.put (okN_of hB.1).2 _
      · exact h.more
    · exact h.more
  split
  · unfold cutL
    split
    · rename_i hB
      split
      · exact h.put (okN_of (fnd_of hB.1).1).2 _
      · exact h.more
    · exact h.more
  split
  · unfold renL
    split
    · rename_i hB
      exact (h.del _).put (rdy_size (fnd_of hB.1).1) _
    · exact h.more
  split
  · unfold drpL
    split
    · exact (h.del _).more
    · exact h.more
  · exact h.more

/-- The calls, one behind the other. -/
def runA (st : S × List Fi) (l : List Ac) : S × List Fi := l.foldl (fun st a => (doS st.1 st.2 a, doL st.1 st.2 a)) st
theorem runA_snoc (st : S × List Fi) (l : List Ac) (a : Ac) : runA st (l ++ [a]) = (doS (runA st l).1 (runA st l).2 a, doL (runA st l).1 (runA st l).2 a) := by
  unfold runA; rw [List.foldl_append]; rfl
theorem run_good (l : List Ac) : ∀ (st : S × List Fi) (n : Nat), Good st.2 n → Good (runA st l).2 (n + l.length) := by
  induction l with
  | nil => intro st n h; exact h
  | cons a l ih =>
    intro st n h
    have := ih (doS st.1 st.2 a, doL st.1 st.2 a) (n + 1) (do_good st.1 a h)
    rw [show n + (a :: l).length = n + 1 + l.length by simp; omega]
    exact this
theorem Mo.step {W0 W W' : World} {p : Nat} {mb0 mb' : Option Nat} {L0 L' : List Fi} {st : S × List Fi} (a : Ac) (hk : KeysL st.2) (h : Mv W0 W p mb0 L0 st.1 mb' L') (ha : Alike st.2 L') (hm : Mo W W' p mb' L' (doS st.1 L' a) (doL st.1 L' a)) :
    Mo W0 W' p mb0 L0 (doS st.1 st.2 a) (doL st.1 st.2 a) := by
  obtain ⟨mb2, L2, h1, h2⟩ := hm
  obtain ⟨e1, e2⟩ := do_congr st.1 a hk h.st.keys ha
  rw [e1] at h1
  exact ⟨mb2, L2, h.trans h1, e2.trans h2⟩

/-- A call in memory. -/
structure AcM where
  k : Int
  n : Int
  nm : ByteArray
  tw : ByteArray
  A : Option Addr
  nb : Nat
  cb : Nat
  l : List Int
def AcM.ac (a : AcM) : Ac := ⟨a.k, a.n, a.nm, a.tw, a.l.take (min a.nb 60)⟩
def ActsIn (w : World) (A : Option Addr) (n : Nat) (cs : List AcM) : Prop :=
  cs.length = n ∧ ∀ (i : Nat) (a : AcM), cs[i]? = some a → a.n ≤ 9223372036854775807 ∧ BAt w (.slice a.A a.nb a.cb) a.l ∧ ∃ g o, A = some ⟨g, o, none⟩ ∧ g < w.heap.size ∧
    w.cell? ⟨g, o + i * 5, none⟩ = some (.int .i64 a.k) ∧ w.cell? ⟨g, o + i * 5 + 1, none⟩ = some (.int .i64 a.n) ∧ w.cell? ⟨g, o + i * 5 + 2, none⟩ = some (.string a.nm) ∧ w.cell? ⟨g, o + i * 5 + 3, none⟩ = some (.string a.tw) ∧ w.cell? ⟨g, o + i * 5 + 4, none⟩ = some (.slice a.A a.nb a.cb)
end Go.Proofs.Ytbdocfnmlnnndaa.Sr
