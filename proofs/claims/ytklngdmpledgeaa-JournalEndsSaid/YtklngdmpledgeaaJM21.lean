/-
  What counts of a file: the numbers rise by one; a journal while it is opened. Conditions: none.
-/
import Derived.Test.YtklngdmpledgeaaJM20
namespace Go.Proofs.Ytklngdmpledgeaa.Jo
open Go.RowKit Fr Sr

def recs (pre : List Rc) : List Re := pre.map (·.2)
def nxt (pre : List Rc) : Nat := match pre.getLast? with | none => 0 | some x => x.2.1 + 1
def whole (pre : List Rc) : Nat := match pre.getLast? with | none => 0 | some x => x.1
theorem recs_snoc (pre : List Rc) (x : Rc) : recs (pre ++ [x]) = recs pre ++ [x.2] := by simp [recs]
theorem nxt_snoc (pre : List Rc) (x : Rc) : nxt (pre ++ [x]) = x.2.1 + 1 := by simp [nxt]
theorem whole_snoc (pre : List Rc) (x : Rc) : whole (pre ++ [x]) = x.1 := by simp [whole]
theorem nxt_cons (y : Rc) (pre : List Rc) (h : pre ≠ []) : nxt (y :: pre) = nxt pre := by
  unfold nxt
  cases pre with
  | nil => exact absurd rfl h
  | cons z r => rw [List.getLast?_cons_cons]
theorem cntF_len : ∀ (fs : List Fr) (nx : Nat), (cntF nx fs).length ≤ fs.length := by
  intro fs
  induction fs with
  | nil => intro nx; simp [cntF]
  | cons f fs ih =>
    intro nx
    cases hd : dec f.2 with
    | none => rw [cntF_none hd]; simp
    | some y =>
      by_cases hs : 0 < f.1 ∧ y.1 ≠ nx
      · rw [cntF_bad hd hs]; simp
      · rw [cntF_good hd hs]; simp; exact ih _
theorem cntF_mem : ∀ (fs : List Fr) (nx : Nat) (x : Rc), x ∈ cntF nx fs → x.2.1 ≤ 4611686018427387903 := by
  intro fs
  induction fs with
  | nil => intro nx x hx; simp [cntF] at hx
  | cons f fs ih =>
    intro nx x hx
    cases hd : dec f.2 with
    | none => rw [cntF_none hd] at hx; cases hx
    | some y =>
      by_cases hs : 0 < f.1 ∧ y.1 ≠ nx
      · rw [cntF_bad hd hs] at hx; cases hx
      · rw [cntF_good hd hs] at hx
        rcases List.mem_cons.1 hx with rfl | h
        · exact dec_le hd
        · exact ih _ _ h
theorem cntF_chain : ∀ (fs : List Fr) (nx : Nat) (pre r : List Rc) (x : Rc), (∀ f ∈ fs, 0 < f.1) → cntF nx fs = pre ++ x :: r → x.2.1 = if pre = [] then nx else nxt pre := by
  intro fs
  induction fs with
  | nil => intro nx pre r x _ h; simp [cntF] at h
  | cons f fs ih =>
    intro nx pre r x hp h
    cases hd : dec f.2 with
    | none => rw [cntF_none hd] at h; simp at h
    | some y =>
      by_cases hs : 0 < f.1 ∧ y.1 ≠ nx
      · rw [cntF_bad hd hs] at h; simp at h
      · rw [cntF_good hd hs] at h
        have hy : y.1 = nx := by
          have := hp f List.mem_cons_self
          exact Decidable.byContradiction fun e => hs ⟨this, e⟩
        cases pre with
        | nil =>
          rw [if_pos rfl]
          have := (List.cons.inj h).1
          rw [← this]; exact hy
        | cons z pre =>
          rw [if_neg (by simp)]
          obtain ⟨h1, h2⟩ := List.cons.inj h
          have h3 := ih (y.1 + 1) pre r x (fun g hg => hp g (List.mem_cons_of_mem _ hg)) h2
          rw [h3]
          split
          · rename_i he; subst he; rw [← h1]; rfl
          · rename_i he; rw [nxt_cons _ _ he]
theorem frs_pos : ∀ (k p : Nat) (l : List Int), 0 < p → ∀ f ∈ frs k p l, 0 < f.1 := by
  intro k
  induction k with
  | zero => intro p l _ f hf; rw [frs] at hf; cases hf
  | succ k ih =>
    intro p l hp f hf
    rw [frs] at hf
    split at hf
    · rcases List.mem_cons.1 hf with rfl | h
      · exact hp
      · exact ih _ _ (by omega) f h
    · cases hf
/-- Each record's number is one more than that of the one ahead of it. -/
theorem cnt_next {L : List Int} {pre r : List Rc} {x : Rc} (h : cnt L = pre ++ x :: r) (hp : pre ≠ []) : x.2.1 = nxt pre := by
  unfold cnt allF at h
  rw [frs] at h
  split at h
  · rename_i he
    have hn := nxN_ok he
    cases hd : dec (nxB L) with
    | none => rw [cntF_none hd] at h; simp at h
    | some y =>
      rw [cntF_good hd (fun h => by have := h.1; simp at this)] at h
      cases pre with
      | nil => exact absurd rfl hp
      | cons z pre =>
        obtain ⟨h1, h2⟩ := List.cons.inj h
        have h3 := cntF_chain _ _ pre r x (frs_pos _ _ _ (by omega)) h2
        rw [h3]
        split
        · rename_i he; subst he; rw [← h1]; rfl
        · rename_i he; rw [nxt_cons _ _ he]
  · simp [cntF] at h
theorem cnt_len (L : List Int) : (cnt L).length ≤ L.length := Nat.le_trans (cntF_len _ _) (allF_len L)

abbrev Ty := Option Addr × Nat × Nat
abbrev cR2 (Kx : Nat → Prop) (x : Rc) (y : Ty) (W : World) : Prop := BAt W (.slice y.1 y.2.1 y.2.2) x.2.2 ∧ BK Kx (.slice y.1 y.2.1 y.2.2) x.2.2
theorem cR_y {Kx : Nat → Prop} {x : Rc} {v : Value} {W : World} (h : cR Kx x v W) : ∃ y : Ty, v = .agg #[.int .i64 (x.2.1 : Int), .slice y.1 y.2.1 y.2.2] ∧ cR2 Kx x y W := by
  obtain ⟨A, k, c, h1, h2, h3⟩ := h
  exact ⟨(A, k, c), h1, h2, h3⟩
theorem cR2_put {Kx : Nat → Prop} {x : Rc} {y : Ty} {W : World} {k : Nat} {r : Loop} {o : Obj} (h : cR2 Kx x y W) (hk : W.heap[k]? = some (.loop r)) : cR2 Kx x y (W.putObj k o) := ⟨BAt.put h.1 hk, h.2⟩
/-- A journal while it is opened. -/
structure OI (w : World) (p : Nat) (st : S) (mb : Option Nat) (L : List Fi) (j t wb bj bd : Nat) (s : List Rc × Value × List Xr) (W : World) : Prop where
  js : JSt W p st mb L j t true (nxt s.1) s.2.1 s.2.2 (recs s.1)
  wh : Boxed W wb 3 (.int .i64 (whole s.1 : Int))
  jb : Boxed W bj 61 (.pointer (some ⟨j, 0, none⟩))
  db : W.heap[bd]? = some (.cells #[.pointer (some ⟨p, 0, none⟩), .bool true] 113 (0, 0))
  bel : Below w.heap.size w W
  lo : ∀ i, own p mb L i → i < w.heap.size
  ho : ∀ i, oj j t s.2.1 i → w.heap.size ≤ i
  out : ∀ i, i = wb ∨ i = bj ∨ i = bd → ¬ oj j t s.2.1 i
  hb : w.heap.size ≤ wb
def OK (p : Nat) (mb : Option Nat) (L : List Fi) (j t wb : Nat) (s : List Rc × Value × List Xr) (k : Nat) : Prop := ¬ (own p mb L k ∨ oj j t s.2.1 k) ∧ k ≠ wb
theorem Jr.out {S T : Nat → Prop} {w w' : World} {j t p nx : Nat} {snd : Bool} {sv : Value} {xs : List Xr} {rs : List Re} (h : Jr w T j t p snd nx sv xs rs) (ho : Off S w w') (hj : ∀ i, oj j t sv i → ¬ S i) (hv : ∀ i, S i → ∀ o, w.heap[i]? = some o → o.isCells = false ∨ ∃ x, o = .cells #[.int .i64 x] 3 (0, 0)) : Jr w' T j t p snd nx sv xs rs := by
  refine ⟨(ho.2 j (h.oj_lt (.inl rfl)) (hj j (.inl rfl))).trans h.blk, h.tab.kept (kept_of_off ho) (hj t (.inr (.inl rfl))) (fun g hg => hj g (.inr (.inr hg))), ⟨h.vals.1, fun i x r hx hr => ?_⟩, h.asc, h.lt, h.few, h.nxl⟩
  obtain ⟨h1, h2, h3⟩ := h.vals.2 i x r hx hr
  refine ⟨h1, bat_step h2 ho (fun hp a n c ha hs => ?_), h3⟩
  obtain ⟨A, cap, e1, _, e3⟩ := h2
  obtain ⟨g, o, e4, e5, e6⟩ := e3 hp
  rw [e1, e4] at ha
  cases ha
  have e7 := e6 0 hp
  obtain ⟨ob, e8⟩ : ∃ ob, w.heap[g]? = some ob := ⟨_, Array.getElem?_eq_getElem e5⟩
  simp only [World.cell?, e8] at e7
  rcases hv g hs ob e8 with h4 | ⟨x, rfl⟩
  · cases ob with
    | cells cs ty fr => cases h4
    | _ => cases e7
  · rw [Nat.add_zero] at e7
    cases o with
    | zero => simp at e7
    | succ o => simp at e7
end Go.Proofs.Ytklngdmpledgeaa.Jo

namespace Go.Proofs.Ytklngdmpledgeaa.Jo
open Go.RowKit Fr Sr

theorem Jr.oj_obj {w : World} {T : Nat → Prop} {j t p nx : Nat} {snd : Bool} {sv : Value} {xs : List Xr} {rs : List Re} (h : Jr w T j t p snd nx sv xs rs) {i : Nat} (hi : oj j t sv i) : ∃ cs ty fr, w.heap[i]? = some (.cells cs ty fr) ∧ ty ≠ 3 := by
  rcases hi with rfl | rfl | hi
  · exact ⟨_, _, _, h.blk, by decide⟩
  · exact ⟨_, _, _, h.tab.2.1, by decide⟩
  · obtain ⟨_, h2 | ⟨g, cap, cur, h3, _, h4, _⟩⟩ := h.tab.2.2
    · rw [h2.1] at hi; cases hi
    · rw [h3] at hi
      cases hi
      exact ⟨_, _, _, h4, by decide⟩
theorem JSt.out {S : Nat → Prop} {w w' : World} {p j t nx : Nat} {s : Sr.S} {mb : Option Nat} {L : List Fi} {snd : Bool} {sv : Value} {xs : List Xr} {rs : List Re} (h : JSt w p s mb L j t snd nx sv xs rs) (ho : Off S w w') (h1 : ∀ i, own p mb L i → ¬ S i) (h2 : ∀ i, oj j t sv i → ¬ S i) (h3 : ∀ i, S i → ∀ o, w.heap[i]? = some o → o.isCells = false ∨ ∃ x, o = .cells #[.int .i64 x] 3 (0, 0)) : JSt w' p s mb L j t snd nx sv xs rs :=
  ⟨h.st.kept ho h1, h.jr.out ho h2 h3, h.sep⟩
theorem notoj {w : World} {T : Nat → Prop} {j t p nx : Nat} {snd : Bool} {sv : Value} {xs : List Xr} {rs : List Re} (h : Jr w T j t p snd nx sv xs rs) {b : Nat} {cs : Array Value} {ty : TypeId} {fr : Nat × Nat} (hb : w.heap[b]? = some (.cells cs ty fr)) (hty : ty ≠ 117 ∧ ty ≠ 172 ∧ ty ≠ 122) : ¬ oj j t sv b := fun hi => by
  have key : ∀ {cs' : Array Value} {ty' : TypeId} {fr' : Nat × Nat}, w.heap[b]? = some (.cells cs' ty' fr') → ty = ty' := fun h2 => by
    rw [hb] at h2
    simp only [Option.some.injEq, Obj.cells.injEq] at h2
    exact h2.2.1
  rcases hi with rfl | rfl | hi
  · exact hty.1 (key h.blk)
  · exact hty.2.1 (key h.tab.2.1)
  · obtain ⟨_, h2 | ⟨g, cap, cur, h3, _, h4, _⟩⟩ := h.tab.2.2
    · rw [h2.1] at hi; cases hi
    · rw [h3] at hi
      cases hi
      exact hty.2.2 (key h4)
theorem notoj_int {w : World} {T : Nat → Prop} {j t p nx : Nat} {snd : Bool} {sv : Value} {xs : List Xr} {rs : List Re} (h : Jr w T j t p snd nx sv xs rs) {b : Nat} {x : Value} (hb : w.heap[b]? = some (.cells #[x] 3 (0, 0))) : ¬ oj j t sv b := notoj h hb (by decide)
section
variable {w X Y : World} {p j t wb bj bd B : Nat} {st : S} {mb : Option Nat} {L : List Fi} {s : List Rc × Value × List Xr}
theorem OI.turn {S : Nat → Prop} (h : OI w p st mb L j t wb bj bd s X) (ho : Off S X Y) (hS : ∀ i, S i → w.heap.size ≤ i ∧ ¬ oj j t s.2.1 i ∧ i ≠ wb ∧ i ≠ bj ∧ i ≠ bd) (h3 : ∀ i, S i → ∀ o, X.heap[i]? = some o → o.isCells = false ∨ ∃ x, o = .cells #[.int .i64 x] 3 (0, 0)) : OI w p st mb L j t wb bj bd s Y := by
  have k : ∀ {b : Nat} {o : Obj}, X.heap[b]? = some o → ¬ S b → Y.heap[b]? = some o := fun hb hs => (ho.2 _ (Array.getElem?_eq_some_iff.1 hb).1 hs).trans hb
  refine ⟨h.js.out ho (fun i hi hs => ?_) (fun i hi hs => (hS i hs).2.1 hi) h3, k h.wh (fun hs => (hS _ hs).2.2.1 rfl), k h.jb (fun hs => (hS _ hs).2.2.2.1 rfl), k h.db (fun hs => (hS _ hs).2.2.2.2 rfl), ?_, h.lo, h.ho, h.out, h.hb⟩
  · have := h.lo i hi; have := (hS i hs).1; omega
  · refine h.bel.trans ⟨ho.1.os, ho.1.tape, ho.1.output, ho.1.size, fun i hi => ho.2 i (Nat.lt_of_lt_of_le hi h.bel.size) (fun hs => ?_)⟩
    have := (hS i hs).1; omega
theorem OI.from (hB : w.heap.size ≤ B) : OwnFrom B (OI w p st mb L j t wb bj bd) := fun s X Y row h hg hr => by
  refine h.turn (Off.of_grown (T := fun i => row = some i) hg fun i e => e) (fun i hi => ?_) (fun i hi o ho => ?_)
  · obtain ⟨h1, o, h2, h3⟩ := hr i hi
    have hne : ∀ {cs : Array Value} {ty : TypeId} {fr : Nat × Nat} {b : Nat}, X.heap[b]? = some (.cells cs ty fr) → i ≠ b := fun hb e => by
      rw [e, hb] at h2
      cases h2; cases h3
    refine ⟨by omega, fun h4 => ?_, hne h.wh, hne h.jb, hne h.db⟩
    obtain ⟨cs, ty, fr, h5, _⟩ := h.js.jr.oj_obj h4
    exact hne h5 rfl
  · obtain ⟨h1, o2, h2, h3⟩ := hr i hi
    rw [h2] at ho; cases ho
    exact .inl h3
theorem OI.int (hB : w.heap.size ≤ B) (hw : wb < B) : EInt (OI w p st mb L j t wb bj bd) B := fun s X r x y h hr ho => by
  refine h.turn (Off.of_grown (T := fun i => i = r) (grownBy_set X ⟨r, 0, none⟩ _) fun i e => (Option.some.inj e).symm) (fun i hi => ?_) (fun i hi o ho2 => ?_)
  · subst hi
    have hne : ∀ {cs : Array Value} {ty : TypeId} {fr : Nat × Nat} {b : Nat}, X.heap[b]? = some (.cells cs ty fr) → ty ≠ 3 → i ≠ b := fun hb hty e => by
      rw [← e, ho] at hb
      simp only [Option.some.injEq, Obj.cells.injEq] at hb
      exact hty hb.2.1.symm
    refine ⟨by omega, fun h4 => ?_, by omega, hne h.jb (by decide), hne h.db (by decide)⟩
    obtain ⟨cs, ty, fr, h5, h6⟩ := h.js.jr.oj_obj h4
    exact hne h5 h6 rfl
  · subst hi
    rw [ho] at ho2; cases ho2
    exact .inr ⟨x, rfl⟩
theorem OI.below (h : OI w p st mb L j t wb bj bd s X) (hb : Below X.heap.size X Y) : OI w p st mb L j t wb bj bd s Y :=
  own_below (OI.from (B := w.heap.size) (Nat.le_refl _)) h hb
theorem OI.keeps (h : OI w p st mb L j t wb bj bd s X) : ∀ k, X.heap.size ≤ k → OK p mb L j t wb s k := fun k hk => by
  refine ⟨fun h1 => ?_, fun e => ?_⟩
  · rcases h1 with h1 | h1
    · have := own_lt h.js.st h1; omega
    · have := h.js.jr.oj_lt h1; omega
  · have := h.wh.lt; omega
theorem cons_int {D : Nat} {o1 o2 : Obj} {K : (List Rc × Value × List Xr) → Nat → Prop} {I : (List Rc × Value × List Xr) → World → Prop} (hI : EInt I (D + 1 + 1)) : EInt (fun s W => I s W ∧ W.heap[D + 1]? = some o1 ∧ W.heap[D]? = some o2 ∧ K s D ∧ K s (D + 1)) (D + 1 + 1) := fun s X r x y h hr ho =>
  ⟨hI s X r x y h.1 hr ho, block_set h.2.1 (by show D + 1 ≠ r; omega) _, block_set h.2.2.1 (by show D ≠ r; omega) _, h.2.2.2⟩
/-- A round of the loop over the file's records. -/
theorem OI.step {w W W1 w5 : World} {p j t wb bj bd n e k c : Nat} {st : S} {mb : Option Nat} {L : List Fi} {pre : List Rc} {sv1 : Value} {xs1 : List Xr} {A : Option Addr} {bs : List Int} (h : OI w p st mb L j t wb bj bd (pre, sv1, xs1) W) (hb : Below W.heap.size W W1) (hp : Puts W1 w5 j t sv1 (fun sv' => JSt w5 p st mb L j t true (n + 1) sv' (xs1 ++ [((n : Int), ⟨A, k, c⟩)]) (recs pre ++ [(n, bs)]))) :
    (KS (OK p mb L j t wb (pre, sv1, xs1)) W (w5.setCell ⟨wb, 0, none⟩ (.int .i64 (e : Int))) ∧ ∃ s' : List Rc × Value × List Xr, s'.1 = pre ++ [(e, n, bs)] ∧ OI w p st mb L j t wb bj bd s' (w5.setCell ⟨wb, 0, none⟩ (.int .i64 (e : Int))) ∧ Goes (OK p mb L j t wb (pre, sv1, xs1)) (OK p mb L j t wb s') W) ∧ Boxed w5 wb 3 (.int .i64 (whole pre : Int)) := by
  obtain ⟨sv', hjs, ho, hnw⟩ := hp
  have h1 := h.below hb
  have hne : ∀ i, i = wb ∨ i = bj ∨ i = bd → ¬ oj j t sv1 i := h.out
  have k5 : ∀ {b : Nat} {o : Obj}, W1.heap[b]? = some o → ¬ oj j t sv1 b → w5.heap[b]? = some o := fun hb2 hs => (ho.2 _ (Array.getElem?_eq_some_iff.1 hb2).1 hs).trans hb2
  have hwh := k5 h1.wh (hne wb (.inl rfl))
  have hjb := k5 h1.jb (hne bj (.inr (.inl rfl)))
  have hdb := k5 h1.db (hne bd (.inr (.inr rfl)))
  have hwl : wb < W.heap.size := h.wh.lt
  have n1 : bj ≠ wb := fun e => by
    rw [e, hwh] at hjb
    simp only [Option.some.injEq, Obj.cells.injEq] at hjb
    exact absurd hjb.2.1 (by decide)
  have n2 : bd ≠ wb := fun e => by
    rw [e, hwh] at hdb
    simp only [Option.some.injEq, Obj.cells.injEq] at hdb
    exact absurd hdb.2.1 (by decide)
  have ho2 : Off (fun i => i = wb) w5 (w5.setCell ⟨wb, 0, none⟩ (.int .i64 (e : Int))) := Off.of_grown (grownBy_set _ _ _) fun i e => (Option.some.inj e).symm
  have hjs6 : JSt (w5.setCell ⟨wb, 0, none⟩ (.int .i64 (e : Int))) p st mb L j t true (n + 1) sv' (xs1 ++ [((n : Int), ⟨A, k, c⟩)]) (recs pre ++ [(n, bs)]) := by
    refine hjs.out ho2 (fun i hi e => ?_) (fun i hi e => ?_) (fun i hi o ho3 => ?_)
    · have := h.lo i hi; have := h.hb; omega
    · exact notoj_int hjs.jr hwh (by rw [← e]; exact hi)
    · subst hi
      rw [hwh] at ho3; cases ho3
      exact .inr ⟨_, rfl⟩
  have hbj6 := block_set hjb (p := ⟨wb, 0, none⟩) n1 (.int .i64 (e : Int))
  have hbd6 := block_set hdb (p := ⟨wb, 0, none⟩) n2 (.int .i64 (e : Int))
  have hwb6 := block_put hwh (.int .i64 (e : Int))
  have s1 := hb.size
  refine ⟨⟨⟨Nat.le_trans s1 (Nat.le_trans ho.1.size ho2.1.size), fun i hi hl => ?_⟩, (pre ++ [(e, n, bs)], sv', xs1 ++ [((n : Int), ⟨A, k, c⟩)]), rfl, ⟨?_, ?_, hbj6, hbd6, ?_, h.lo, fun i hi => ?_, fun i hi => ?_, h.hb⟩, fun i hi hl => ⟨fun h2 => ?_, hi.2⟩⟩, hwh⟩
  · exact (ho2.2 i (Nat.lt_of_lt_of_le hl (Nat.le_trans s1 ho.1.size)) hi.2).trans ((ho.2 i (Nat.lt_of_lt_of_le hl s1) (fun h3 => hi.1 (.inr h3))).trans (hb.block i hl))
  · show JSt _ p st mb L j t true (nxt (pre ++ [(e, n, bs)])) _ _ (recs (pre ++ [(e, n, bs)]))
    rw [nxt_snoc, recs_snoc]; exact hjs6
  · show Boxed _ wb 3 (.int .i64 (whole (pre ++ [(e, n, bs)]) : Int))
    rw [whole_snoc]; exact hwb6
  · refine h1.bel.trans ⟨(ho.1.trans ho2.1).os, (ho.1.trans ho2.1).tape, (ho.1.trans ho2.1).output, (ho.1.trans ho2.1).size, fun i hi => ?_⟩
    have hi1 : i < W1.heap.size := Nat.lt_of_lt_of_le hi h1.bel.size
    exact (ho2.2 i (Nat.lt_of_lt_of_le hi1 ho.1.size) (fun e => by have := h.hb; omega)).trans (ho.2 i hi1 (fun h3 => by have := h.ho i h3; omega))
  · rcases hnw i hi with h3 | h3
    · exact h.ho i h3
    · have := h1.bel.size; omega
  · rcases hi with rfl | rfl | rfl
    · exact notoj_int hjs6.jr hwb6
    · exact notoj hjs6.jr hbj6 (by decide)
    · exact notoj hjs6.jr hbd6 (by decide)
  · rcases h2 with h3 | h3
    · exact hi.1 (.inl h3)
    · rcases hnw i h3 with h4 | h4
      · exact hi.1 (.inr h4)
      · omega
end
end Go.Proofs.Ytklngdmpledgeaa.Jo
