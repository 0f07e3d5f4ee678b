/-
  What counts of a file: the numbers rise by one; a journal while it is opened. Conditions: none.
-/
import Derived.Test.YtjijgoflbjbnfaaGreatVM18
import Derived.Test.YtjijgoflbjbnfaaGreatVM9
import Derived.Shelf.SlSortCmp.KitK
import Derived.Test.YtjijgoflbjbnfaaGreatVM10
import Derived.Test.YtjijgoflbjbnfaaGreatTLays
namespace Go.Proofs.YtjijgoflbjbnfaaGreat.Jo
open Go.RowKit Fr Sr

def recs (pre : List Rc) : List Re := pre.map (·.2)
def nxt (pre : List Rc) : Nat := match pre.getLast? with | none => 0 | some x => x.2.1 + 1
def whole (pre : List Rc) : Nat := match pre.getLast? with | none => 0 | some x => x.1
theorem recs_snoc (pre : List Rc) (x : Rc) : recs (pre ++ [x]) = recs pre ++ [x.2] := by simp [recs]
theorem nxt_snoc (pre : List Rc) (x : Rc) : nxt (pre ++ [x]) = x.2.1 + 1 := by simp [nxt]
theorem whole_snoc (pre : List Rc) (x : Rc) : whole (pre ++ [x]) = x.1 := by simp [whole]
theorem nxt_cons (y : Rc) (pre : List Rc) (h : pre ≠ []) : nxt (y :: pre) = nxt pre := by
  unfold nxt
  cases pre with
  | nil => exact absurd rfl h
  | cons z r => rw [List.getLast?_cons_cons]
theorem cntF_len : ∀ (fs : List Fr) (nx : Nat), (cntF nx fs).length ≤ fs.length := by
  intro fs
  induction fs with
  | nil => intro nx; simp [cntF]
  | cons f fs ih =>
    intro nx
    cases hd : dec f.2 with
    | none => rw [cntF_none hd]; simp
    | some y =>
      by_cases hs : 0 < f.1 ∧ y.1 ≠ nx
      · rw [cntF_bad hd hs]; simp
      · rw [cntF_good hd hs]; simp; exact ih _
theorem cntF_mem : ∀ (fs : List Fr) (nx : Nat) (x : Rc), x ∈ cntF nx fs → x.2.1 ≤ 4611686018427387903 := by
  intro fs
  induction fs with
  | nil => intro nx x hx; simp [cntF] at hx
  | cons f fs ih =>
    intro nx x hx
    cases hd : dec f.2 with
    | none => rw [cntF_none hd] at hx; cases hx
    | some y =>
      by_cases hs : 0 < f.1 ∧ y.1 ≠ nx
      · rw [cntF_bad hd hs] at hx; cases hx
      · rw [cntF_good hd hs] at hx
        rcases List.mem_cons.1 hx with rfl | h
        · exact dec_le hd
        · exact ih _ _ h
theorem cntF_chain : ∀ (fs : List Fr) (nx : Nat) (pre r : List Rc) (x : Rc), (∀ f ∈ fs, 0 < f.1) → cntF nx fs = pre ++ x :: r → x.2.1 = if pre = [] then nx else nxt pre := by
  intro fs
  induction fs with
  | nil => intro nx pre r x _ h; simp [cntF] at h
  | cons f fs ih =>
    intro nx pre r x hp h
    cases hd : dec f.2 with
    | none => rw [cntF_none hd] at h; simp at h
    | some y =>
      by_cases hs : 0 < f.1 ∧ y.1 ≠ nx
      · rw [cntF_bad hd hs] at h; simp at h
      · rw [cntF_good hd hs] at h
        have hy : y.1 = nx := by
          have := hp f List.mem_cons_self
          exact Decidable.byContradiction fun e => hs ⟨this, e⟩
        cases pre with
        | nil =>
          rw [if_pos rfl]
          have := (List.cons.inj h).1
          rw [← this]; exact hy
        | cons z pre =>
          rw [if_neg (by simp)]
          obtain ⟨h1, h2⟩ := List.cons.inj h
          have h3 := ih (y.1 + 1) pre r x (fun g hg => hp g (List.mem_cons_of_mem _ hg)) h2
          rw [h3]
          split
          · rename_i he; subst he; rw [← h1]; rfl
          · rename_i he; rw [nxt_cons _ _ he]
theorem frs_pos : ∀ (k p : Nat) (l : List Int), 0 < p → ∀ f ∈ frs k p l, 0 < f.1 := by
  intro k
  induction k with
  | zero => intro p l _ f hf; rw [frs] at hf; cases hf
  | succ k ih =>
    intro p l hp f hf
    rw [frs] at hf
    split at hf
    · rcases List.mem_cons.1 hf with rfl | h
      · exact hp
      · exact ih _ _ (by omega) f h
    · cases hf
/-- Each record's number is one more than that of the one ahead of it. -/
theorem cnt_next {L : List Int} {pre r : List Rc} {x : Rc} (h : cnt L = pre ++ x :: r) (hp : pre ≠ []) : x.2.1 = nxt pre := by
  unfold cnt allF at h
  rw [frs] at h
  split at h
  · rename_i he
    have hn := nxN_ok he
    cases hd : dec (nxB L) with
    | none => rw [cntF_none hd] at h; simp at h
    | some y =>
      rw [cntF_good hd (fun h => by have := h.1; simp at this)] at h
      cases pre with
      | nil => exact absurd rfl hp
      | cons z pre =>
        obtain ⟨h1, h2⟩ := List.cons.inj h
        have h3 := cntF_chain _ _ pre r x (frs_pos _ _ _ (by omega)) h2
        rw [h3]
        split
        · rename_i he; subst he; rw [← h1]; rfl
        · rename_i he; rw [nxt_cons _ _ he]
  · simp [cntF] at h
theorem cnt_len (L : List Int) : (cnt L).length ≤ L.length := Nat.le_trans (cntF_len _ _) (allF_len L)

abbrev Ty := Option Addr × Nat × Nat
abbrev cR2 (Kx : Nat → Prop) (x : Rc) (y : Ty) (W : World) : Prop := BAt W (.slice y.1 y.2.1 y.2.2) x.2.2 ∧ BK Kx (.slice y.1 y.2.1 y.2.2) x.2.2
theorem cR_y {Kx : Nat → Prop} {x : Rc} {v : Value} {W : World} (h : cR Kx x v W) : ∃ y : Ty, v = .agg #[.int .i64 (x.2.1 : Int), .slice y.1 y.2.1 y.2.2] ∧ cR2 Kx x y W := by
  obtain ⟨A, k, c, h1, h2, h3⟩ := h
  exact ⟨(A, k, c), h1, h2, h3⟩
theorem cR2_put {Kx : Nat → Prop} {x : Rc} {y : Ty} {W : World} {k : Nat} {r : Loop} {o : Obj} (h : cR2 Kx x y W) (hk : W.heap[k]? = some (.loop r)) : cR2 Kx x y (W.putObj k o) := ⟨BAt.put h.1 hk, h.2⟩
/-- A journal while it is opened. -/
structure OI (w : World) (p : Nat) (st : S) (mb : Option Nat) (L : List Fi) (j t wb bj bd : Nat) (s : List Rc × Value × List Xr) (W : World) : Prop where
  js : JSt W p st mb L j t true (nxt s.1) s.2.1 s.2.2 (recs s.1)
  wh : Boxed W wb 3 (.int .i64 (whole s.1 : Int))
  jb : Boxed W bj 59 (.pointer (some ⟨j, 0, none⟩))
  db : W.heap[bd]? = some (.cells #[.pointer (some ⟨p, 0, none⟩), .bool true] 91 (0, 0))
  bel : Below w.heap.size w W
  lo : ∀ i, own p mb L i → i < w.heap.size
  ho : ∀ i, oj j t s.2.1 i → w.heap.size ≤ i
  out : ∀ i, i = wb ∨ i = bj ∨ i = bd → ¬ oj j t s.2.1 i
  hb : w.heap.size ≤ wb
def OK (p : Nat) (mb : Option Nat) (L : List Fi) (j t wb : Nat) (s : List Rc × Value × List Xr) (k : Nat) : Prop := ¬ (own p mb L k ∨ oj j t s.2.1 k) ∧ k ≠ wb
theorem Jr.out {S T : Nat → Prop} {w w' : World} {j t p nx : Nat} {snd : Bool} {sv : Value} {xs : List Xr} {rs : List Re} (h : Jr w T j t p snd nx sv xs rs) (ho : Off S w w') (hj : ∀ i, oj j t sv i → ¬ S i) (hv : ∀ i, S i → ∀ o, w.heap[i]? = some o → o.isCells = false ∨ ∃ x, o = .cells #[.int .i64 x] 3 (0, 0)) : Jr w' T j t p snd nx sv xs rs := by
  refine ⟨(ho.2 j (h.oj_lt (.inl rfl)) (hj j (.inl rfl))).trans h.blk, h.tab.kept (kept_of_off ho) (hj t (.inr (.inl rfl))) (fun g hg => hj g (.inr (.inr hg))), ⟨h.vals.1, fun i x r hx hr => ?_⟩, h.asc, h.lt, h.few, h.nxl⟩
  obtain ⟨h1, h2, h3⟩ := h.vals.2 i x r hx hr
  refine ⟨h1, bat_step h2 ho (fun hp a n c ha hs => ?_), h3⟩
  obtain ⟨A, cap, e1, _, e3⟩ := h2
  obtain ⟨g, o, e4, e5, e6⟩ := e3 hp
  rw [e1, e4] at ha
  cases ha
  have e7 := e6 0 hp
  obtain ⟨ob, e8⟩ : ∃ ob, w.heap[g]? = some ob := ⟨_, Array.getElem?_eq_getElem e5⟩
  simp only [World.cell?, e8] at e7
  rcases hv g hs ob e8 with h4 | ⟨x, rfl⟩
  · cases ob with
    | cells cs ty fr => cases h4
    | _ => cases e7
  · rw [Nat.add_zero] at e7
    cases o with
    | zero => simp at e7
    | succ o => simp at e7
end Go.Proofs.YtjijgoflbjbnfaaGreat.Jo

namespace Go.Proofs.YtjijgoflbjbnfaaGreat.Jo
open Go.RowKit Fr Sr

theorem Jr.oj_obj {w : World} {T : Nat → Prop} {j t p nx : Nat} {snd : Bool} {sv : Value} {xs : List Xr} {rs : List Re} (h : Jr w T j t p snd nx sv xs rs) {i : Nat} (hi : oj j t sv i) : ∃ cs ty fr, w.heap[i]? = some (.cells cs ty fr) ∧ ty ≠ 3 := by
  rcases hi with rfl | rfl | hi
  · exact ⟨_, _, _, h.blk, by decide⟩
  · exact ⟨_, _, _, h.tab.2.1, by decide⟩
  · obtain ⟨_, h2 | ⟨g, cap, cur, h3, _, h4, _⟩⟩ := h.tab.2.2
    · rw [h2.1] at hi; cases hi
    · rw [h3] at hi
      cases hi
      exact ⟨_, _, _, h4, by decide⟩
theorem JSt.out {S : Nat → Prop} {w w' : World} {p j t nx : Nat} {s : Sr.S} {mb : Option Nat} {L : List Fi} {snd : Bool} {sv : Value} {xs : List Xr} {rs : List Re} (h : JSt w p s mb L j t snd nx sv xs rs) (ho : Off S w w') (h1 : ∀ i, own p mb L i → ¬ S i) (h2 : ∀ i, oj j t sv i → ¬ S i) (h3 : ∀ i, S i → ∀ o, w.heap[i]? = some o → o.isCells = false ∨ ∃ x, o = .cells #[.int .i64 x] 3 (0, 0)) : JSt w' p s mb L j t snd nx sv xs rs :=
  ⟨h.st.kept ho h1, h.jr.out ho h2 h3, h.sep⟩
theorem notoj {w : World} {T : Nat → Prop} {j t p nx : Nat} {snd : Bool} {sv : Value} {xs : List Xr} {rs : List Re} (h : Jr w T j t p snd nx sv xs rs) {b : Nat} {cs : Array Value} {ty : TypeId} {fr : Nat × Nat} (hb : w.heap[b]? = some (.cells cs ty fr)) (hty : ty ≠ 95 ∧ ty ≠ 160 ∧ ty ≠ 100) : ¬ oj j t sv b := fun hi => by
  have key : ∀ {cs' : Array Value} {ty' : TypeId} {fr' : Nat × Nat}, w.heap[b]? = some (.cells cs' ty' fr') → ty = ty' := fun h2 => by
    rw [hb] at h2
    simp only [Option.some.injEq, Obj.cells.injEq] at h2
    exact h2.2.1
  rcases hi with rfl | rfl | hi
  · exact hty.1 (key h.blk)
  · exact hty.2.1 (key h.tab.2.1)
  · obtain ⟨_, h2 | ⟨g, cap, cur, h3, _, h4, _⟩⟩ := h.tab.2.2
    · rw [h2.1] at hi; cases hi
    · rw [h3] at hi
      cases hi
      exact hty.2.2 (key h4)
theorem notoj_int {w : World} {T : Nat → Prop} {j t p nx : Nat} {snd : Bool} {sv : Value} {xs : List Xr} {rs : List Re} (h : Jr w T j t p snd nx sv xs rs) {b : Nat} {x : Value} (hb : w.heap[b]? = some (.cells #[x] 3 (0, 0))) : ¬ oj j t sv b := notoj h hb (by decide)
section
variable {w X Y : World} {p j t wb bj bd B : Nat} {st : S} {mb : Option Nat} {L : List Fi} {s : List Rc × Value × List Xr}
theorem OI.turn {S : Nat → Prop} (h : OI w p st mb L j t wb bj bd s X) (ho : Off S X Y) (hS : ∀ i, S i → w.heap.size ≤ i ∧ ¬ oj j t s.2.1 i ∧ i ≠ wb ∧ i ≠ bj ∧ i ≠ bd) (h3 : ∀ i, S i → ∀ o, X.heap[i]? = some o → o.isCells = false ∨ ∃ x, o = .cells #[.int .i64 x] 3 (0, 0)) : OI w p st mb L j t wb bj bd s Y := by
  have k : ∀ {b : Nat} {o : Obj}, X.heap[b]? = some o → ¬ S b → Y.heap[b]? = some o := fun hb hs => (ho.2 _ (Array.getElem?_eq_some_iff.1 hb).1 hs).trans hb
  refine ⟨h.js.out ho (fun i hi hs => ?_) (fun i hi hs => (hS i hs).2.1 hi) h3, k h.wh (fun hs => (hS _ hs).2.2.1 rfl), k h.jb (fun hs => (hS _ hs).2.2.2.1 rfl), k h.db (fun hs => (hS _ hs).2.2.2.2 rfl), ?_, h.lo, h.ho, h.out, h.hb⟩
  · have := h.lo i hi; have := (hS i hs).1; omega
  · refine h.bel.trans ⟨ho.1.os, ho.1.tape, ho.1.output, ho.1.size, fun i hi => ho.2 i (Nat.lt_of_lt_of_le hi h.bel.size) (fun hs => ?_)⟩
    have := (hS i hs).1; omega
theorem OI.from (hB : w.heap.size ≤ B) : OwnFrom B (OI w p st mb L j t wb bj bd) := fun s X Y row h hg hr => by
  refine h.turn (Off.of_grown (T := fun i => row = some i) hg fun i e => e) (fun i hi => ?_) (fun i hi o ho => ?_)
  · obtain ⟨h1, o, h2, h3⟩ := hr i hi
    have hne : ∀ {cs : Array Value} {ty : TypeId} {fr : Nat × Nat} {b : Nat}, X.heap[b]? = some (.cells cs ty fr) → i ≠ b := fun hb e => by
      rw [e, hb] at h2
      cases h2; cases h3
    refine ⟨by omega, fun h4 => ?_, hne h.wh, hne h.jb, hne h.db⟩
    obtain ⟨cs, ty, fr, h5, _⟩ := h.js.jr.oj_obj h4
    exact hne h5 rfl
  · obtain ⟨h1, o2, h2, h3⟩ := hr i hi
    rw [h2] at ho; cases ho
    exact .inl h3
theorem OI.int (hB : w.heap.size ≤ B) (hw : wb < B) : EInt (OI w p st mb L j t wb bj bd) B := fun s X r x y h hr ho => by
  refine h.turn (Off.of_grown (T := fun i => i = r) (grownBy_set X ⟨r, 0, none⟩ _) fun i e => (Option.some.inj e).symm) (fun i hi => ?_) (fun i hi o ho2 => ?_)
  · subst hi
    have hne : ∀ {cs : Array Value} {ty : TypeId} {fr : Nat × Nat} {b : Nat}, X.heap[b]? = some (.cells cs ty fr) → ty ≠ 3 → i ≠ b := fun hb hty e => by
      rw [← e, ho] at hb
      simp only [Option.some.injEq, Obj.cells.injEq] at hb
      exact hty hb.2.1.symm
    refine ⟨by omega, fun h4 => ?_, by omega, hne h.jb (by decide), hne h.db (by decide)⟩
    obtain ⟨cs, ty, fr, h5, h6⟩ := h.js.jr.oj_obj h4
    exact hne h5 h6 rfl
  · subst hi
    rw [ho] at ho2; cases ho2
    exact .inr ⟨x, rfl⟩
theorem OI.below (h : OI w p st mb L j t wb bj bd s X) (hb : Below X.heap.size X Y) : OI w p st mb L j t wb bj bd s Y :=
  own_below (OI.from (B := w.heap.size) (Nat.le_refl _)) h hb
theorem OI.keeps (h : OI w p st mb L j t wb bj bd s X) : ∀ k, X.heap.size ≤ k → OK p mb L j t wb s k := fun k hk => by
  refine ⟨fun h1 => ?_, fun e => ?_⟩
  · rcases h1 with h1 | h1
    · have := own_lt h.js.st h1; omega
    · have := h.js.jr.oj_lt h1; omega
  · have := h.wh.lt; omega
theorem cons_int {D : Nat} {o1 o2 : Obj} {K : (List Rc × Value × List Xr) → Nat → Prop} {I : (List Rc × Value × List Xr) → World → Prop} (hI : EInt I (D + 1 + 1)) : EInt (fun s W => I s W ∧ W.heap[D + 1]? = some o1 ∧ W.heap[D]? = some o2 ∧ K s D ∧ K s (D + 1)) (D + 1 + 1) := fun s X r x y h hr ho =>
  ⟨hI s X r x y h.1 hr ho, block_set h.2.1 (by show D + 1 ≠ r; omega) _, block_set h.2.2.1 (by show D ≠ r; omega) _, h.2.2.2⟩
/-- A round of the loop over the file's records. -/
theorem OI.step {w W W1 w5 : World} {p j t wb bj bd n e k c : Nat} {st : S} {mb : Option Nat} {L : List Fi} {pre : List Rc} {sv1 : Value} {xs1 : List Xr} {A : Option Addr} {bs : List Int} (h : OI w p st mb L j t wb bj bd (pre, sv1, xs1) W) (hb : Below W.heap.size W W1) (hp : Puts W1 w5 j t sv1 (fun sv' => JSt w5 p st mb L j t true (n + 1) sv' (xs1 ++ [((n : Int), ⟨A, k, c⟩)]) (recs pre ++ [(n, bs)]))) :
    (KS (OK p mb L j t wb (pre, sv1, xs1)) W (w5.setCell ⟨wb, 0, none⟩ (.int .i64 (e : Int))) ∧ ∃ s' : List Rc × Value × List Xr, s'.1 = pre ++ [(e, n, bs)] ∧ OI w p st mb L j t wb bj bd s' (w5.setCell ⟨wb, 0, none⟩ (.int .i64 (e : Int))) ∧ Goes (OK p mb L j t wb (pre, sv1, xs1)) (OK p mb L j t wb s') W) ∧ Boxed w5 wb 3 (.int .i64 (whole pre : Int)) := by
  obtain ⟨sv', hjs, ho, hnw⟩ := hp
  have h1 := h.below hb
  have hne : ∀ i, i = wb ∨ i = bj ∨ i = bd → ¬ oj j t sv1 i := h.out
  have k5 : ∀ {b : Nat} {o : Obj}, W1.heap[b]? = some o → ¬ oj j t sv1 b → w5.heap[b]? = some o := fun hb2 hs => (ho.2 _ (Array.getElem?_eq_some_iff.1 hb2).1 hs).trans hb2
  have hwh := k5 h1.wh (hne wb (.inl rfl))
  have hjb := k5 h1.jb (hne bj (.inr (.inl rfl)))
  have hdb := k5 h1.db (hne bd (.inr (.inr rfl)))
  have hwl : wb < W.heap.size := h.wh.lt
  have n1 : bj ≠ wb := fun e => by
    rw [e, hwh] at hjb
    simp only [Option.some.injEq, Obj.cells.injEq] at hjb
    exact absurd hjb.2.1 (by decide)
  have n2 : bd ≠ wb := fun e => by
    rw [e, hwh] at hdb
    simp only [Option.some.injEq, Obj.cells.injEq] at hdb
    exact absurd hdb.2.1 (by decide)
  have ho2 : Off (fun i => i = wb) w5 (w5.setCell ⟨wb, 0, none⟩ (.int .i64 (e : Int))) := Off.of_grown (grownBy_set _ _ _) fun i e => (Option.some.inj e).symm
  have hjs6 : JSt (w5.setCell ⟨wb, 0, none⟩ (.int .i64 (e : Int))) p st mb L j t true (n + 1) sv' (xs1 ++ [((n : Int), ⟨A, k, c⟩)]) (recs pre ++ [(n, bs)]) := by
    refine hjs.out ho2 (fun i hi e => ?_) (fun i hi e => ?_) (fun i hi o ho3 => ?_)
    · have := h.lo i hi; have := h.hb; omega
    · exact notoj_int hjs.jr hwh (by rw [← e]; exact hi)
    · subst hi
      rw [hwh] at ho3; cases ho3
      exact .inr ⟨_, rfl⟩
  have hbj6 := block_set hjb (p := ⟨wb, 0, none⟩) n1 (.int .i64 (e : Int))
  have hbd6 := block_set hdb (p := ⟨wb, 0, none⟩) n2 (.int .i64 (e : Int))
  have hwb6 := block_put hwh (.int .i64 (e : Int))
  have s1 := hb.size
  refine ⟨⟨⟨Nat.le_trans s1 (Nat.le_trans ho.1.size ho2.1.size), fun i hi hl => ?_⟩, (pre ++ [(e, n, bs)], sv', xs1 ++ [((n : Int), ⟨A, k, c⟩)]), rfl, ⟨?_, ?_, hbj6, hbd6, ?_, h.lo, fun i hi => ?_, fun i hi => ?_, h.hb⟩, fun i hi hl => ⟨fun h2 => ?_, hi.2⟩⟩, hwh⟩
  · exact (ho2.2 i (Nat.lt_of_lt_of_le hl (Nat.le_trans s1 ho.1.size)) hi.2).trans ((ho.2 i (Nat.lt_of_lt_of_le hl s1) (fun h3 => hi.1 (.inr h3))).trans (hb.block i hl))
  · show JSt _ p st mb L j t true (nxt (pre ++ [(e, n, bs)])) _ _ (recs (pre ++ [(e, n, bs)]))
    rw [nxt_snoc, recs_snoc]; exact hjs6
  · show Boxed _ wb 3 (.int .i64 (whole (pre ++ [(e, n, bs)]) : Int))
    rw [whole_snoc]; exact hwb6
  · refine h1.bel.trans ⟨(ho.1.trans ho2.1).os, (ho.1.trans ho2.1).tape, (ho.1.trans ho2.1).output, (ho.1.trans ho2.1).size, fun i hi => ?_⟩
    have hi1 : i < W1.heap.size := Nat.lt_of_lt_of_le hi h1.bel.size
    exact (ho2.2 i (Nat.lt_of_lt_of_le hi1 ho.1.size) (fun e => by have := h.hb; omega)).trans (ho.2 i hi1 (fun h3 => by have := h.ho i h3; omega))
  · rcases hnw i hi with h3 | h3
    · exact h.ho i h3
    · have := h1.bel.size; omega
  · rcases hi with rfl | rfl | rfl
    · exact notoj_int hjs6.jr hwb6
    · exact notoj hjs6.jr hbj6 (by decide)
    · exact notoj hjs6.jr hbd6 (by decide)
  · rcases h2 with h3 | h3
    · exact hi.1 (.inl h3)
    · rcases hnw i h3 with h4 | h4
      · exact hi.1 (.inr h4)
      · omega
end
end Go.Proofs.YtjijgoflbjbnfaaGreat.Jo

namespace Go.Proofs.YtjijgoflbjbnfaaGreat.Tb
open Go.Sort Ky

theorem toList_set {α : Type} (d : Array α) (i : Nat) (v : α) : (d.setIfInBounds i v).toList = d.toList.set i v := by simp
theorem get_bang {α : Type} [Inhabited α] (d : Array α) (i : Nat) (x : α) (h : d.toList[i]? = some x) : d[i]! = x := by
  rw [Array.getElem!_eq_getD, Array.getD_eq_getD_getElem?, ← Array.getElem?_toList, h]; rfl
theorem swp_toList {α : Type} [Inhabited α] (d : Array α) (A M B : List α) (x y : α) (h : d.toList = A ++ x :: (M ++ y :: B)) :
    (swp d A.length (A.length + 1 + M.length)).toList = A ++ y :: (M ++ x :: B) ∧ (swp d (A.length + 1 + M.length) A.length).toList = A ++ y :: (M ++ x :: B) := by
  have hx : d[A.length]! = x := get_bang _ _ _ (by rw [h]; simp)
  have hy : d[A.length + 1 + M.length]! = y := get_bang _ _ _ (by
    rw [h, List.getElem?_append_right (by omega), show A.length + 1 + M.length - A.length = M.length + 1 by omega, List.getElem?_cons_succ, List.getElem?_append_right (by omega), Nat.sub_self]; rfl)
  constructor
  · unfold swp
    rw [hx, hy, toList_set, toList_set, h, List.set_append_right _ _ (by omega), Nat.sub_self, List.set_cons_zero, List.set_append_right _ _ (by omega), show A.length + 1 + M.length - A.length = M.length + 1 by omega, List.set_cons_succ, List.set_append_right _ _ (by omega), Nat.sub_self, List.set_cons_zero]
  · unfold swp
    rw [hx, hy, toList_set, toList_set, h, List.set_append_right _ _ (by omega), show A.length + 1 + M.length - A.length = M.length + 1 by omega, List.set_cons_succ, List.set_append_right _ _ (by omega), Nat.sub_self, List.set_cons_zero, List.set_append_right _ _ (by omega), Nat.sub_self, List.set_cons_zero]

section
variable {κ V : Type} [Ky κ] [Inhabited V]
instance : Inhabited (κ × V) := ⟨(default, default)⟩
/-- Two rows by their keys. -/
def cfR (x y : κ × V) : Int := cmpK x.1 y.1
theorem ltOf_cfR {κ V : Type} [Ky κ] (x y : κ × V) : ltOf cfR x y = lt x.1 y.1 := by
  unfold ltOf cfR
  rw [Bool.eq_iff_iff, decide_eq_true_eq]
  exact cmpK_neg _ _
theorem swo_cfR {κ V : Type} [Ky κ] : SWO (ltOf (cfR : κ × V → κ × V → Int)) where
  irrefl := fun x => by rw [ltOf_cfR]; exact irr _
  trans := fun x y z h k => by rw [ltOf_cfR] at *; exact tr _ _ _ h k
  ntrans := fun x y z h k => by
    rw [ltOf_cfR] at *
    cases e : lt x.1 z.1
    · rfl
    · have := lt_of_lt_not e k
      rw [this] at h; cases h
theorem kv_swp {κ V : Type} [Ky κ] (A B : List (κ × V)) (x y : κ × V) (h : x.1 ≠ y.1) (k : κ) : kv (A ++ y :: x :: B) k = kv (A ++ x :: y :: B) k := by
  rw [kv_append, kv_append]
  congr 1
  unfold kv
  rw [List.filter_cons, List.filter_cons, List.filter_cons, List.filter_cons]
  by_cases h1 : x.1 = k
  · have h2 : ¬ y.1 = k := fun e => h (h1.trans e.symm)
    simp [h1, h2]
  · by_cases h2 : y.1 = k <;> simp [h1, h2]
theorem split_two {α : Type} (l : List α) (j : Nat) (h : j + 1 < l.length) : ∃ A x y B, l = A ++ x :: y :: B ∧ A.length = j := by
  refine ⟨l.take j, l[j], l[j + 1], l.drop (j + 2), ?_, by rw [List.length_take]; omega⟩
  have h1 := List.drop_eq_getElem_cons (show j < l.length by omega)
  have h2 := List.drop_eq_getElem_cons h
  rw [← h2, ← h1, List.take_append_drop]
theorem kv_insInner (a : Nat) (k : κ) : ∀ (j : Nat) (d : Array (κ × V)), j < d.size → kv (insInner (ltOf cfR) a j d).toList k = kv d.toList k
  | 0, d, _ => by rw [insInner]
  | j + 1, d, h => by
    rw [insInner]
    split
    · next hc =>
      simp only [Bool.and_eq_true, decide_eq_true_eq] at hc
      rw [kv_insInner a k j _ (by rw [size_swp]; omega)]
      obtain ⟨A, x, y, B, e, hl⟩ := split_two d.toList j (by simpa using h)
      have hs := (swp_toList d A [] B x y (by simpa using e)).2
      rw [hl] at hs
      rw [show j + 1 + [].length = j + 1 from rfl] at hs
      have hx : d[j]! = x := get_bang _ _ _ (by rw [e, ← hl]; simp)
      have hy : d[j + 1]! = y := get_bang _ _ _ (by rw [e, ← hl, List.getElem?_append_right (by omega)]; simp)
      have hne : x.1 ≠ y.1 := fun e => by
        have := hc.2
        rw [hx, hy, ltOf_cfR, e, irr] at this; cases this
      rw [hs, e]
      exact kv_swp A B x y hne k
    · rfl
theorem size_insInner' (a : Nat) : ∀ (j : Nat) (d : Array (κ × V)), (insInner (ltOf cfR) a j d).size = d.size
  | 0, d => by rw [insInner]
  | j + 1, d => by
    rw [insInner]
    split
    · rw [size_insInner' a j, size_swp]
    · rfl
theorem kv_insOuter (a b : Nat) (k : κ) : ∀ (n i : Nat) (d : Array (κ × V)), b - i = n → b ≤ d.size → kv (insOuter (ltOf cfR) a b i d).toList k = kv d.toList k
  | 0, i, d, hn, _ => by rw [insOuter, if_neg (by omega)]
  | n + 1, i, d, hn, hb => by
    rw [insOuter, if_pos (by omega), kv_insOuter a b k n (i + 1) _ (by omega) (by rw [size_insInner']; exact hb), kv_insInner a k i d (by omega)]
theorem kv_insertion (d : Array (κ × V)) (a b : Nat) (hb : b ≤ d.size) (k : κ) : kv (Go.Sort.insertionSort (ltOf cfR) d a b).toList k = kv d.toList k := kv_insOuter a b k _ _ d rfl hb
theorem size_insertion (d : Array (κ × V)) (a b : Nat) (hab : a ≤ b) (hb : b ≤ d.size) : (Go.Sort.insertionSort (ltOf cfR) d a b).size = d.size := (insertionSort_holds (lt := ltOf cfR) swo_cfR d a b hab hb).1.1
theorem srt_of_sorted (d : Array (κ × V)) (h : SortedIn (ltOf cfR) 0 d.size d) : srt d.toList := by
  unfold srt
  rw [List.pairwise_iff_getElem]
  intro i j hi hj hij
  have := h i j (Nat.zero_le _) hij (by simpa using hj)
  rw [ltOf_cfR, get_bang d j _ (List.getElem?_eq_getElem hj), get_bang d i _ (List.getElem?_eq_getElem hi)] at this
  exact this
/-- The insertion sort of a whole row keeps the order of equal keys. -/
theorem stab_insertion (d : Array (κ × V)) : Stab d.toList (Go.Sort.insertionSort (ltOf cfR) d 0 d.size).toList := by
  have h := insertionSort_holds (lt := ltOf (cfR : κ × V → κ × V → Int)) swo_cfR d 0 d.size (Nat.zero_le _) (Nat.le_refl _)
  refine ⟨srt_of_sorted _ ?_, kv_insertion d 0 d.size (Nat.le_refl _)⟩
  rw [h.1.1]
  exact h.2
end
end Go.Proofs.YtjijgoflbjbnfaaGreat.Tb

namespace Go.Proofs.YtjijgoflbjbnfaaGreat.Tb.Ib
open Go.RowKit Go.Sort

def enc (r : R) : List Value := [ek r.1, ev r.2]
theorem enc_len (r : R) : (enc r).length = 2 := rfl
theorem enc_one (r : R) : ∀ v ∈ enc r, v.oneCell' = true := fun v hv => by simp [enc] at hv; rcases hv with rfl | rfl <;> rfl

/-- A world of the sort keeps all but the row's block. -/
theorem kept_of_swk {w0 W : World} {blk off : Nat} {d : Array R} (h : SWK enc 2 w0 blk off d W) : Kept (fun k => k = blk) w0 W := by
  obtain ⟨n, os, rfl⟩ := h
  refine ⟨rfl, rfl, rfl, ?_, fun k hk hn => ?_⟩
  · unfold sortWorldK
    rw [size_grow, size_putRowK]
    exact Nat.le_add_right _ _
  · unfold sortWorldK putRowK putRow mapBlock grow
    show ((w0.heap.modify blk _) ++ os)[k]? = _
    rw [Array.getElem?_append_left (by simpa using hk), Array.getElem?_modify, if_neg (by omega)]

/-- A row that is held: its cells. -/
theorem holdsK_of (w : World) (g off : Nat) (l : List R) (h : ∀ i r, l[i]? = some r → (w.cell? ⟨g, off + i * 2, none⟩ = some (ek r.1) ∧ w.cell? ⟨g, off + i * 2 + 1, none⟩ = some (ev r.2)) ∧ w.frozen? ⟨g, off + i * 2, none⟩ = false ∧ w.frozen? ⟨g, off + i * 2 + 1, none⟩ = false) : HoldsK enc 2 w g off l.toArray := by
  intro j hj
  rw [size_flatK, List.size_toArray] at hj
  have hlt : j / 2 < l.length := by omega
  obtain ⟨r, hr⟩ : ∃ r, l[j / 2]? = some r := ⟨_, List.getElem?_eq_getElem hlt⟩
  have hb : l.toArray[j / 2]! = r := get_bang _ _ _ (by simpa using hr)
  obtain ⟨⟨h1, h2⟩, h3, h4⟩ := h _ r hr
  rw [get_flatK _ _ _ _ (by simpa using hj), hb]
  rcases Nat.mod_two_eq_zero_or_one j with e | e
  · have ej : j = j / 2 * 2 := by omega
    rw [e, show off + j = off + j / 2 * 2 by omega]
    exact ⟨h1, h3⟩
  · have ej : j = j / 2 * 2 + 1 := by omega
    rw [e, show off + j = off + j / 2 * 2 + 1 by omega]
    exact ⟨h2, h4⟩
/-- Its cells again. -/
theorem cells_of_holds {w : World} {g off : Nat} {d : Array R} (h : HoldsK enc 2 w g off d) (i : Nat) (r : R) (hi : d.toList[i]? = some r) : w.cell? ⟨g, off + i * 2, none⟩ = some (ek r.1) ∧ w.cell? ⟨g, off + i * 2 + 1, none⟩ = some (ev r.2) := by
  have hlt : i < d.size := by have := (List.getElem?_eq_some_iff.1 hi).1; simpa using this
  have h0 := (h.cell hlt (show 0 < 2 by decide)).1
  have h1 := (h.cell hlt (show 1 < 2 by decide)).1
  rw [get_bang d i r hi] at h0 h1
  exact ⟨h0, h1⟩

set_option maxRecDepth 100000 in
theorem cmpc_any (x y : R) (W : World) : Calls Tryz.prog 108 #[.agg #[ek x.1, ev x.2], .agg #[ek y.1, ev y.2]] W fun e w' => e = .returned (.int .i64 (cmpK x.1 y.1)) ∧ ∃ q os', w' = grow (W.drewN q) os' := by
  have hc := fun w => compare_int x.1 y.1 w
  obtain ⟨z, hz⟩ : ∃ z, z = cmpK x.1 y.1 := ⟨_, rfl⟩
  rw [← hz] at hc ⊢
  have HC := Lib.hid hc
  clear hc hz
  unfold ek ev
  go_enter Tryz.func108, Tryz.ntmps108
  go_wp2_with (go_at_call 109; refine (HC.out _).mono ?_; rintro e w' ⟨rfl, rfl⟩)
  go_ret
  exact ⟨rfl, 0, _, by rw [alloc_eq_grow, alloc_eq_grow, grow_grow]; rfl⟩
theorem cmpLays_any (blk off size : Nat) (w : World) : CmpLays Tryz.prog 108 #[] enc 2 cfR blk off size w := fun _ _ _ _ x y => cmpc_any x y _

/-- The insertion sort of a part. -/
theorem ins_any (w0 W : World) (blk off cap a b : Nat) (d0 d : Array R) (hW : SWK enc 2 w0 blk off d W) (hH : HoldsK enc 2 w0 blk off d0) (hs : d.size = d0.size) (hblk : blk < w0.heap.size) (hab : a ≤ b) (hb : b ≤ d.size) (hsz : d.size < 4611686018427387904) :
    Calls Tryz.prog 165 #[.slice (some ⟨blk, off, none⟩) d.size cap, .int .i64 a, .int .i64 b, .func (.func 108) #[] #[]] W fun e w' => e = .returned (.tuple #[]) ∧ SWK enc 2 w0 blk off (Go.Sort.insertionSort (ltOf cfR) d a b) w' := by
  have h := AnyQ.insertionSortCmpFunc Tryz.insLaysIb 2 Tryz.isAgg100 Tryz.sizeOf100 enc enc_len enc_one cfR 108 #[] blk off cap a b d W (enters_of Tryz.func108 (by kernel_rfl) rfl) (cmpLays_any _ _ _ _) (hW.holds hblk hH hs) (hW.lt hblk) hab hb hsz
  change Calls Tryz.prog 165 _ _ _ at h
  refine h.mono fun e w' he => ⟨he.1, ?_⟩
  obtain ⟨n, os, rfl⟩ := he.2
  exact hW.on hblk n _ os (size_insertion d a b hab hb)
end Go.Proofs.YtjijgoflbjbnfaaGreat.Tb.Ib

namespace Go.Proofs.YtjijgoflbjbnfaaGreat.Tb.Ib
open Go.RowKit Go.Sort

set_option maxRecDepth 100000 in
theorem ins_none (A : Option Addr) (cap : Nat) (f : Value) (w : World) : Calls Tryz.prog 165 #[.slice A 0 cap, .int .i64 0, .int .i64 0, f] w fun e w' => e = .returned (.tuple #[]) ∧ w = w' := by
  go_enter Tryz.func165, Tryz.ntmps165
  go_wp2
  refine wp_loop_rounds 1 ?_
  rw [rounds_succ]
  go_wp2
  go_end0
  exact ⟨rfl, rfl⟩
set_option maxRecDepth 100000 in
theorem stable_none (A : Option Addr) (cap : Nat) (f : Value) (w : World) : Calls Tryz.prog 135 #[.slice A 0 cap, .int .i64 0, f] w fun e w' => e = .returned (.tuple #[]) ∧ w = w' := by
  go_enter Tryz.func135, Tryz.ntmps135
  go_wp2
  refine wp_loop_rounds 1 ?_
  rw [rounds_succ]
  go_wp2_with (go_at_call 165; refine (ins_none A cap f _).mono ?_; rintro e w' ⟨rfl, rfl⟩)
  refine wp_loop_rounds 1 ?_
  rw [rounds_succ]
  go_wp2
  go_end0
  exact ⟨rfl, rfl⟩
set_option maxRecDepth 100000 in
theorem sort_none (A : Option Addr) (cap : Nat) (f : Value) (w : World) : Calls Tryz.prog 107 #[.slice A 0 cap, f] w fun e w' => e = .returned (.tuple #[]) ∧ w = w' := by
  go_enter Tryz.func107, Tryz.ntmps107
  go_wp2_with (go_at_call 135; refine (stable_none A cap f _).mono ?_; rintro e w' ⟨rfl, rfl⟩)
  go_end0
  exact ⟨rfl, rfl⟩

/-- What the stable sort leaves. -/
def Sorted (w : World) (g off : Nat) (l : List R) (w' : World) : Prop := ∃ d : Array R, d.size = l.length ∧ Stab l d.toList ∧ SWK enc 2 w g off d w'

set_option maxRecDepth 100000 in
set_option maxHeartbeats 1000000 in
theorem stable_small (w : World) (g off cap : Nat) (l : List R) (hH : HoldsK enc 2 w g off l.toArray) (hg : g < w.heap.size) (hn : l.length < 20) :
    Calls Tryz.prog 135 #[.slice (some ⟨g, off, none⟩) l.length cap, .int .i64 l.length, .func (.func 108) #[] #[]] w fun e w' => e = .returned (.tuple #[]) ∧ Sorted w g off l w' := by
  have hi := ins_any w w g off cap 0 l.toArray.size l.toArray l.toArray (SWK.start hH) hH rfl hg (Nat.zero_le _) (Nat.le_refl _) (by simp; omega)
  simp only [List.size_toArray] at hi
  have hi2 := hi.mono (R' := fun e w' => e = .returned (.tuple #[]) ∧ Sorted w g off l w') fun e w' ⟨h1, h2⟩ => ⟨h1, by
    have hst := stab_insertion l.toArray
    simp only [List.size_toArray] at hst
    exact ⟨_, by rw [size_insertion _ _ _ (Nat.zero_le _) (by simp)]; simp, hst, h2⟩⟩
  have HI := Lib.hid hi2
  clear hi hi2 hH
  go_enter Tryz.func135, Tryz.ntmps135
  go_wp2
  refine wp_loop_rounds 1 ?_
  rw [rounds_succ]
  go_wp2_with (go_at_call 165; refine HI.out.mono ?_; rintro e w' ⟨rfl, hs⟩)
  have HS := Lib.hid hs
  clear hs
  refine wp_loop_rounds 1 ?_
  rw [rounds_succ]
  go_wp2
  all_goals first | (exfalso; omega) | (go_end0; exact ⟨rfl, HS.out⟩)
set_option maxRecDepth 100000 in
theorem sort_small (w : World) (g off cap : Nat) (l : List R) (hH : HoldsK enc 2 w g off l.toArray) (hg : g < w.heap.size) (hn : l.length < 20) :
    Calls Tryz.prog 107 #[.slice (some ⟨g, off, none⟩) l.length cap, .func (.func 108) #[] #[]] w fun e w' => e = .returned (.tuple #[]) ∧ Sorted w g off l w' := by
  have HI := Lib.hid (stable_small w g off cap l hH hg hn)
  clear hH
  go_enter Tryz.func107, Tryz.ntmps107
  go_wp2_with (go_at_call 135; refine HI.out.mono ?_; rintro e w' ⟨rfl, hs⟩)
  have HS := Lib.hid hs
  clear hs
  go_end0
  exact ⟨rfl, HS.out⟩
end Go.Proofs.YtjijgoflbjbnfaaGreat.Tb.Ib
