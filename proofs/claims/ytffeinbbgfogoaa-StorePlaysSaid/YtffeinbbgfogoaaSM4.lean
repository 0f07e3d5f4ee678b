/-
  Calls of do, one behind the other, at stores that are alike; calls in memory. Conditions: none.
-/
import Derived.Test.YtffeinbbgfogoaaSDo2
import Derived.Test.YtffeinbbgfogoaaSAlk
import Derived.Test.YtffeinbbgfogoaaSCop0
import Derived.Test.YtffeinbbgfogoaaSRset
import Derived.Test.YtffeinbbgfogoaaSRuse
import Derived.Deep.RegionHeld3
namespace Go.Proofs.Ytffeinbbgfogoaa.Sr
open Go.RowKit Fr

theorem fnd_alike {L L' : List Fi} (h : Alike L L') (d : Bool) (k : ByteArray) (ns : List ByteArray) : fnd d L' k ns = fnd d L k ns := by
  unfold fnd; rw [(h k).1]
theorem do_congr (s : S) {L L' : List Fi} (a : Ac) (hk : KeysL L) (hk' : KeysL L') (h : Alike L L') : doS s L' a = doS s L a ∧ Alike (doL s L a) (doL s L' a) := by
  have e1 : ∀ k, bytL L' k = bytL L k := fun k => (h k).2
  have e2 : ∀ k, hasL L' k = hasL L k := fun k => (h k).1
  have eW : ∀ k m, wriB s L' k m ↔ wriB s L k m := fun k m => by unfold wriB; rw [e1]
  have eC : ∀ k x, cutB s L' k x ↔ cutB s L k x := fun k x => by unfold cutB; rw [e1, fnd_alike h]
  have hren : Alike (renL s L a.nm a.tw) (renL s L' a.nm a.tw) := by
    unfold renL
    rw [fnd_alike h]
    split
    · rw [e1]; exact (h.del hk hk' _).put _ _ _ _
    · exact h
  have hrenK : ∀ {L : List Fi}, KeysL L → KeysL (renL s L a.nm a.tw) := fun {L} hk => by
    unfold renL
    split
    · exact keys_put (keys_del hk _) _ _
    · exact hk
  constructor
  · unfold doS
    have w1 : wriS s L' a.nm a.b.length = wriS s L a.nm a.b.length := by unfold wriS; simp only [eW, e1]
    have w2 : cutS s L' a.nm a.n = cutS s L a.nm a.n := by unfold cutS; simp only [eC, e1]
    have w3 : renS s L' a.nm a.tw = renS s L a.nm a.tw := by
      unfold renS
      rw [fnd_alike h, same_used (hrenK hk) (hrenK hk') hren]
    have w4 : drpS s L' a.nm = drpS s L a.nm := by unfold drpS; rw [fnd_alike h, e1]
    rw [w1, w2, w3, w4]
  · unfold doL
    split
    · unfold appL
      split
      · split
        · rw [e1]; exact h.put _ _ _ _
        · exact h
      · exact h
    split
    · unfold wriL
      simp only [eW]
      split
      · split
        · exact h.put _ _ _ _
        · exact h
      · exact h
    split
    · unfold cutL
      simp only [eC]
      split
      · split
        · rw [e1]; exact h.put _ _ _ _
        · exact h
      · exact h
    split
    · exact hren
    split
    · unfold drpL
      rw [fnd_alike h]
      split
      · exact h.del hk hk' _
      · exact h
    · exact h

/-- A list whose names are right, of at most n files. -/
def Good (L : List Fi) (n : Nat) : Prop := KeysL L ∧ L.length ≤ n ∧ ∀ x ∈ L, x.1.size ≤ 12
theorem put_len (L : List Fi) (k : ByteArray) (z : Value × List Int) : (putL L k z).length ≤ L.length + 1 := by
  induction L with
  | nil => simp [putL]
  | cons y r ih =>
    unfold putL
    split
    · simp
    · simp only [List.length_cons]; omega
theorem Good.put {L : List Fi} {n : Nat} (h : Good L n) {k : ByteArray} (hk : k.size ≤ 12) (z : Value × List Int) : Good (putL L k z) (n + 1) := by
  refine ⟨keys_put h.1 _ _, Nat.le_trans (put_len _ _ _) (by have := h.2.1; omega), fun x hx => ?_⟩
  rcases mem_put h.1 x hx with rfl | ⟨hx, _⟩
  · exact hk
  · exact h.2.2 x hx
theorem Good.del {L : List Fi} {n : Nat} (h : Good L n) (k : ByteArray) : Good (delL L k) n :=
  ⟨keys_del h.1 _, Nat.le_trans (del_sub L k).length_le h.2.1, fun x hx => h.2.2 x ((del_sub L k).subset hx)⟩
theorem Good.more {L : List Fi} {n : Nat} (h : Good L n) : Good L (n + 1) := ⟨h.1, Nat.le_succ_of_le h.2.1, h.2.2⟩
theorem rdy_size {d : Bool} {k t : ByteArray} (h : rdy d [t, k] = 0) : t.size ≤ 12 := by
  unfold rdy at h
  split at h
  · cases h
  · split at h
    · rename_i h2
      simp only [List.all_cons, Bool.and_eq_true] at h2
      have h3 := h2.1
      unfold okN at h3
      simp only [Bool.and_eq_true, decide_eq_true_eq] at h3
      exact h3.1.2
    · cases h
theorem do_good (s : S) {L : List Fi} {n : Nat} (a : Ac) (h : Good L n) : Good (doL s L a) (n + 1) := by
  unfold doL
  split
  · unfold appL
    split
    · rename_i hB
      split
      · exact h.put (okN_of hB.1).2 _
      · exact h.more
    · exact h.more
  split
  · unfold wriL
    split
    · rename_i hB
      split
      · exact h.put (okN_of hB.1).2 _
      · exact h.more
    · exact h.more
  split
  · unfold cutL
    split
    · rename_i hB
      split
      · exact h.put (okN_of (fnd_of hB.1).1).2 _
      · exact h.more
    · exact h.more
  split
  · unfold renL
    split
    · rename_i hB
      exact (h.del _).put (rdy_size (fnd_of hB.1).1) _
    · exact h.more
  split
  · unfold drpL
    split
    · exact (h.del _).more
    · exact h.more
  · exact h.more

/-- The calls, one behind the other. -/
def runA (st : S × List Fi) (l : List Ac) : S × List Fi := l.foldl (fun st a => (doS st.1 st.2 a, doL st.1 st.2 a)) st
theorem runA_snoc (st : S × List Fi) (l : List Ac) (a : Ac) : runA st (l ++ [a]) = (doS (runA st l).1 (runA st l).2 a, doL (runA st l).1 (runA st l).2 a) := by
  unfold runA; rw [List.foldl_append]; rfl
theorem run_good (l : List Ac) : ∀ (st : S × List Fi) (n : Nat), Good st.2 n → Good (runA st l).2 (n + l.length) := by
  induction l with
  | nil => intro st n h; exact h
  | cons a l ih =>
    intro st n h
    have := ih (doS st.1 st.2 a, doL st.1 st.2 a) (n + 1) (do_good st.1 a h)
    rw [show n + (a :: l).length = n + 1 + l.length by simp; omega]
    exact this
theorem Mo.step {W0 W W' : World} {p : Nat} {mb0 mb' : Option Nat} {L0 L' : List Fi} {st : S × List Fi} (a : Ac) (hk : KeysL st.2) (h : Mv W0 W p mb0 L0 st.1 mb' L') (ha : Alike st.2 L') (hm : Mo W W' p mb' L' (doS st.1 L' a) (doL st.1 L' a)) :
    Mo W0 W' p mb0 L0 (doS st.1 st.2 a) (doL st.1 st.2 a) := by
  obtain ⟨mb2, L2, h1, h2⟩ := hm
  obtain ⟨e1, e2⟩ := do_congr st.1 a hk h.st.keys ha
  rw [e1] at h1
  exact ⟨mb2, L2, h.trans h1, e2.trans h2⟩

/-- A call in memory. -/
structure AcM where
  k : Int
  n : Int
  nm : ByteArray
  tw : ByteArray
  A : Option Addr
  nb : Nat
  cb : Nat
  l : List Int
def AcM.ac (a : AcM) : Ac := ⟨a.k, a.n, a.nm, a.tw, a.l.take (min a.nb 60)⟩
def ActsIn (w : World) (A : Option Addr) (n : Nat) (cs : List AcM) : Prop :=
  cs.length = n ∧ ∀ (i : Nat) (a : AcM), cs[i]? = some a → a.n ≤ 9223372036854775807 ∧ BAt w (.slice a.A a.nb a.cb) a.l ∧ ∃ g o, A = some ⟨g, o, none⟩ ∧ g < w.heap.size ∧
    w.cell? ⟨g, o + i * 5, none⟩ = some (.int .i64 a.k) ∧ w.cell? ⟨g, o + i * 5 + 1, none⟩ = some (.int .i64 a.n) ∧ w.cell? ⟨g, o + i * 5 + 2, none⟩ = some (.string a.nm) ∧ w.cell? ⟨g, o + i * 5 + 3, none⟩ = some (.string a.tw) ∧ w.cell? ⟨g, o + i * 5 + 4, none⟩ = some (.slice a.A a.nb a.cb)
end Go.Proofs.Ytffeinbbgfogoaa.Sr

namespace Go.Proofs.Ytffeinbbgfogoaa.Sr
open Go.RowKit Fr

theorem step_bapp {w : World} {ops : Array Oper} {o : Oper} {a : Act} {K : Act → World → Prop} {Q : Exit → Act → World → Prop} {E : Prop} (hgd : o.guard = none) (s x : Operand)
    (ho : o.op = .call { callee := .builtin .append, args := #[s, x], argTypes := #[32, 32] }) (ht : o.type = 32) (base : Nat) (v : Value) (l : List Int) (hs : a.eval s = v) (hown : w.ownsRow base 5 1 v l.length (bv l)) (u : Value) (m : List Int) (hx : a.eval x = u) (hu : BAt w u m) (hb : l.length + m.length ≤ 4000000) (hbase : base ≤ w.heap.size) (nn : Nat) (hnn : l.length + m.length = nn)
    (h : ∀ A c w', w'.ownsRow base 5 1 (.slice A nn c) (l ++ m).length (bv (l ++ m)) → w.grownBy w' v.ownBlock → K (a.put o.dst (.slice A nn c)) w') :
    if Region.wanted o (yielded ops a.tmps) = true then Oper.wp Try.prog o a w K Q else E := by
  subst hnn
  have hw : Region.wanted o (yielded ops a.tmps) = true := by simp [Region.wanted, hgd]
  rw [if_pos hw]
  obtain ⟨A, c, w', hr, h1, h2⟩ := app_any w base v l hown u m hu hb hbase
  exact Lib.wp_append_run w s x _ _ ho v u hs hx _ w' (by rw [ht]; exact hr) (h A c w' h1 h2)
theorem bat_grown {w w' : World} {u : Value} {l : List Int} {r : Option Nat} (h : BAt w u l) (hg : w.grownBy w' r) (hn : ∀ i, vb u i → r ≠ some i) : BAt w' u l :=
  bat_kept (T := fun i => r = some i) h (Off.of_grown hg fun _ e => e) (fun i hi e => hn i hi e)

/-- The files behind j bytes. -/
def grL (D : List Fi) (k : ByteArray) (bs : List Int) (j : Nat) : List Fi := if j = 0 then D else putL D k (dv, bytL D k ++ bs.take j)
theorem grL_byt (D : List Fi) (k : ByteArray) (bs : List Int) (j : Nat) : bytL (grL D k bs j) k = bytL D k ++ bs.take j := by
  unfold grL
  split
  · rename_i h; subst h; simp
  · rw [byt_put, if_pos rfl]
theorem grL_len (D : List Fi) (k : ByteArray) (bs : List Int) (j : Nat) : (grL D k bs j).length ≤ D.length + 1 := by
  unfold grL
  split
  · omega
  · exact put_len _ _ _
theorem grL_keys {D : List Fi} (h : KeysL D) (k : ByteArray) (bs : List Int) (j : Nat) : KeysL (grL D k bs j) := by
  unfold grL
  split
  · exact h
  · exact keys_put h _ _
theorem put_put (D : List Fi) (k : ByteArray) (v v' v'' : Value) (l l' : List Int) : Alike (putL D k (v, l)) (putL (putL D k (v', l')) k (v'', l)) := fun j => by
  simp only [has_put, byt_put]
  constructor <;> (split <;> rfl)
theorem grL_step {D D1 : List Fi} {k : ByteArray} {bs : List Int} {j : Nat} {b : Int} (v : Value) (hs : SrtL D1) (ha : Alike (grL D k bs j) D1) (hb : bs[j]? = some b) : Alike (grL D k bs (j + 1)) (insS D1 k (v, bytL D1 k ++ [b])) := by
  have e1 : bytL D1 k = bytL D k ++ bs.take j := by rw [(ha k).2, grL_byt]
  have e2 : bytL D1 k ++ [b] = bytL D k ++ bs.take (j + 1) := by
    rw [e1, List.append_assoc]
    congr 1
    obtain ⟨h1, h2⟩ := List.getElem?_eq_some_iff.1 hb
    rw [List.take_succ_eq_append_getElem h1, h2]
  rw [e2]
  refine Alike.trans ?_ (ins_alike k dv v _ hs)
  refine Alike.trans ?_ (ha.put k dv dv _)
  unfold grL
  rw [if_neg (Nat.succ_ne_zero _)]
  by_cases hj : j = 0
  · subst hj; rw [if_pos rfl]; exact Alike.refl _
  · rw [if_neg hj]; exact put_put _ _ _ _ _ _ _
theorem val_bat {w : World} {q : Nat} {x : RS} (k : ByteArray) (h : RfR w q x) : BAt w (valL x.D k) (bytL x.D k) ∧ ∀ i, vb (valL x.D k) i → ro q x i ∧ i ≠ q := by
  cases hh : hasL x.D k
  · rw [val_none hh, byt_none hh]
    exact ⟨BAt.nil w, fun i hi => by obtain ⟨a, n, c, e, _⟩ := hi; cases e⟩
  · obtain ⟨y, hy, _, hv, hb⟩ := val_at h.srt hh
    have hm := List.mem_of_getElem? hy
    rw [← hv, ← hb]
    exact ⟨h.bts y hm, fun i hi => ⟨.inr (.inr ⟨y, hm, hi⟩), fun e => h.apart y hm (by rw [← e]; exact hi)⟩⟩
/-- A set behind what was laid since. -/
theorem Rm.set {w w1 w2 : World} {q : Nat} {x x1 x2 : RS} {v : Value} (h : Rm w w1 q x x1) {W : World} (hb : Below w1.heap.size w1 W) (hs : Rs W w2 q x1 x2 v) (hv : ∀ i, vb v i → ro q x1 i ∨ w1.heap.size ≤ i) : Rm w w2 q x x2 := by
  obtain ⟨h1, h2, h3⟩ := hs
  have z1 := h.off.1.size
  have z2 := hb.size
  refine ⟨h1, (h.off.trans (Off.of_below (fun i => i = q) hb) (fun _ e => .inl e)).trans h2 (fun _ e => .inl e), fun i hi => ?_⟩
  rcases h3 i hi with h4 | h4 | h4
  · exact h.new i h4
  · exact .inr (by omega)
  · rcases hv i h4 with h5 | h5
    · exact h.new i h5
    · exact .inr (by omega)
end Go.Proofs.Ytffeinbbgfogoaa.Sr
