/-
  A journal and its store in memory, and what each step leaves of them. Conditions: none.
-/
import Derived.Test.YtjijgoflbjbnfaaGreatVM9
import Derived.Test.YtjijgoflbjbnfaaGreatVM11
import Derived.Test.YtjijgoflbjbnfaaGreatVM17
import Derived.Test.YtjijgoflbjbnfaaGreatVM4
namespace Go.Proofs.YtjijgoflbjbnfaaGreat.Jo
open Go.RowKit Fr Sr

abbrev Xr := Int × Tb.Ib.Bv
abbrev Re := Nat × List Int
def bval (v : Tb.Ib.Bv) : Value := .slice v.A v.n v.c
/-- The rows hold the records, outside of T. -/
def Vals (w : World) (T : Nat → Prop) (xs : List Xr) (rs : List Re) : Prop :=
  xs.length = rs.length ∧ ∀ (i : Nat) (x : Xr) (r : Re), xs[i]? = some x → rs[i]? = some r → x.1 = (r.1 : Int) ∧ BAt w (bval x.2) r.2 ∧ BK (fun k => ¬ T k) (bval x.2) r.2
/-- The journal's own blocks. -/
def oj (j t : Nat) (sv : Value) (i : Nat) : Prop := i = j ∨ i = t ∨ sv.ownBlock = some i
structure Jr (w : World) (T : Nat → Prop) (j t p : Nat) (snd : Bool) (nx : Nat) (sv : Value) (xs : List Xr) (rs : List Re) : Prop where
  blk : w.heap[j]? = some (.cells #[.pointer (some ⟨p, 0, none⟩), .bool snd, .pointer (some ⟨t, 0, none⟩), .int .i64 (nx : Int)] 95 (0, 0))
  tab : Tb.Ib.TabV 0 w t sv xs
  vals : Vals w T xs rs
  asc : Tb.asc xs
  lt : ∀ x ∈ xs, x.1 < (nx : Int)
  few : xs.length ≤ 900
  nxl : nx ≤ 4611686018427387904
/-- A journal over a store. -/
structure JSt (w : World) (p : Nat) (s : S) (mb : Option Nat) (L : List Fi) (j t : Nat) (snd : Bool) (nx : Nat) (sv : Value) (xs : List Xr) (rs : List Re) : Prop where
  st : StR w p s mb L
  jr : Jr w (fun i => own p mb L i ∨ oj j t sv i) j t p snd nx sv xs rs
  sep : ∀ i, own p mb L i → ¬ oj j t sv i

theorem bat_step {S : Nat → Prop} {w w' : World} {v : Value} {l : List Int} (h : BAt w v l) (ho : Off S w w') (hf : BK (fun k => ¬ S k) v l) : BAt w' v l := by
  obtain ⟨A, cap, h1, h2, h3⟩ := h
  refine ⟨A, cap, h1, h2, fun hp => ?_⟩
  obtain ⟨g, o, h4, h5, h6⟩ := h3 hp
  refine ⟨g, o, h4, Nat.lt_of_lt_of_le h5 ho.1.size, fun i hi => ?_⟩
  have h7 := h6 i hi
  have h8 := ho.2 g h5 (hf hp ⟨g, o, none⟩ l.length cap (by rw [h1, h4]))
  simp only [World.cell?] at h7 ⊢
  rw [h8]; exact h7
theorem bk_lt {w : World} {v : Value} {l : List Int} (h : BAt w v l) : BK (fun k => k < w.heap.size) v l := fun hp a n c ha => by
  obtain ⟨A, cap, h1, h2, h3⟩ := h
  obtain ⟨g, o, h4, h5, _⟩ := h3 hp
  rw [h1, h4] at ha
  cases ha
  exact h5
theorem Vals.step {S T T' : Nat → Prop} {w w' : World} {xs : List Xr} {rs : List Re} (h : Vals w T xs rs) (ho : Off S w w') (hS : ∀ i, S i → T i) (hT : ∀ i, T' i → T i ∨ w.heap.size ≤ i) : Vals w' T' xs rs := by
  refine ⟨h.1, fun i x r hx hr => ?_⟩
  obtain ⟨h1, h2, h3⟩ := h.2 i x r hx hr
  refine ⟨h1, bat_step h2 ho (fun hp a n c ha hs => h3 hp a n c ha (hS _ hs)), fun hp a n c ha ht => ?_⟩
  rcases hT _ ht with h4 | h4
  · exact h3 hp a n c ha h4
  · have h5 : a.block < w.heap.size := bk_lt h2 hp a n c ha
    omega
theorem Jr.oj_lt {w : World} {T : Nat → Prop} {j t p nx : Nat} {snd : Bool} {sv : Value} {xs : List Xr} {rs : List Re} (h : Jr w T j t p snd nx sv xs rs) {i : Nat} (hi : oj j t sv i) : i < w.heap.size := by
  rcases hi with rfl | rfl | hi
  · exact (Array.getElem?_eq_some_iff.1 h.blk).1
  · exact h.tab.2.1.lt
  · exact (h.tab.2.2.lt i hi).2
theorem kept_of_off {S : Nat → Prop} {w w' : World} (h : Off S w w') : Tb.Kept S w w' := ⟨h.1.os, h.1.tape, h.1.output, h.1.size, h.2⟩
theorem off_of_kept {S : Nat → Prop} {w w' : World} (h : Tb.Kept S w w') : Off S w w' := ⟨⟨h.os, h.tape, h.output, h.size, fun _ hk => absurd hk (Nat.not_lt_zero _)⟩, h.block⟩
theorem Jr.step {S T T' : Nat → Prop} {w w' : World} {j t p nx : Nat} {snd : Bool} {sv : Value} {xs : List Xr} {rs : List Re} (h : Jr w T j t p snd nx sv xs rs) (ho : Off S w w') (hS : ∀ i, S i → T i) (hj : ∀ i, oj j t sv i → ¬ S i) (hT : ∀ i, T' i → T i ∨ w.heap.size ≤ i) : Jr w' T' j t p snd nx sv xs rs :=
  ⟨(ho.2 j (h.oj_lt (.inl rfl)) (hj j (.inl rfl))).trans h.blk, h.tab.kept (kept_of_off ho) (hj t (.inr (.inl rfl))) (fun g hg => hj g (.inr (.inr hg))), h.vals.step ho hS hT, h.asc, h.lt, h.few, h.nxl⟩
section
variable {w w' : World} {p j t nx : Nat} {s s' : S} {mb mb' : Option Nat} {L L' : List Fi} {snd : Bool} {sv : Value} {xs : List Xr} {rs : List Re}
theorem JSt.below (h : JSt w p s mb L j t snd nx sv xs rs) (hb : Below w.heap.size w w') : JSt w' p s mb L j t snd nx sv xs rs :=
  ⟨h.st.below hb, h.jr.step (S := fun _ => False) (Off.of_below _ hb) (fun _ h => h.elim) (fun _ _ h => h) (fun _ h => .inl h), h.sep⟩
/-- The store has turned. -/
theorem JSt.store (h : JSt w p s mb L j t snd nx sv xs rs) (hm : Mv w w' p mb L s' mb' L') : JSt w' p s' mb' L' j t snd nx sv xs rs := by
  refine ⟨hm.st, h.jr.step hm.off (fun _ hi => .inl hi) (fun i hi ho => h.sep i ho hi) (fun i hi => ?_), fun i hi ho => ?_⟩
  · rcases hi with hi | hi
    · exact (hm.new i hi).imp .inl id
    · exact .inl (.inr hi)
  · rcases hm.new i hi with h1 | h1
    · exact h.sep i h1 ho
    · have := h.jr.oj_lt ho; omega
theorem JSt.ne (h : JSt w p s mb L j t snd nx sv xs rs) : j ≠ t ∧ sv.ownBlock ≠ some j := by
  refine ⟨fun e => ?_, fun e => ?_⟩
  · have h1 := h.jr.blk
    have h2 : w.heap[t]? = some (.cells #[sv] 160 (0, 0)) := h.jr.tab.2.1
    rw [e, h2] at h1
    simp at h1
  · obtain ⟨_, h2 | ⟨g, cap, cur, h3, _, h4, _⟩⟩ := h.jr.tab.2.2
    · rw [h2.1] at e; cases e
    · rw [h3] at e
      cases e
      rw [h.jr.blk] at h4
      simp only [Option.some.injEq, Obj.cells.injEq] at h4
      exact absurd h4.2.1 (by decide)
/-- The journal's own cells are stored to. -/
theorem JSt.set (h : JSt w p s mb L j t snd nx sv xs rs) (k : Nat) (u : Value) (snd' : Bool) (nx' : Nat) (_hk : k < 4) (hb : (w.setCell ⟨j, k, none⟩ u).heap[j]? = some (.cells #[.pointer (some ⟨p, 0, none⟩), .bool snd', .pointer (some ⟨t, 0, none⟩), .int .i64 (nx' : Int)] 95 (0, 0))) (hlt : nx ≤ nx') (hle : nx' ≤ 4611686018427387904) : JSt (w.setCell ⟨j, k, none⟩ u) p s mb L j t snd' nx' sv xs rs := by
  have hg := grownBy_set w ⟨j, k, none⟩ u
  have ho : Off (fun i => i = j) w (w.setCell ⟨j, k, none⟩ u) := Off.of_grown hg fun i e => (Option.some.inj e).symm
  obtain ⟨n1, n2⟩ := h.ne
  refine ⟨h.st.kept ho (fun i hi e => h.sep i hi (.inl e)), ⟨hb, h.jr.tab.kept (kept_of_off ho) (fun e => n1 e.symm) (fun g hg e => n2 (by rw [hg]; exact congrArg some e)), h.jr.vals.step ho (fun i e => .inr (.inl e)) (fun i hi => .inl hi), h.jr.asc, fun x hx => by have := h.jr.lt x hx; omega, h.jr.few, hle⟩, h.sep⟩
end
end Go.Proofs.YtjijgoflbjbnfaaGreat.Jo

namespace Go.Proofs.YtjijgoflbjbnfaaGreat.Jo
open Go.RowKit Fr Sr

theorem put_last (l : List Xr) (k : Int) (v : Tb.Ib.Bv) (h : ∀ x ∈ l, x.1 < k) : Tb.putL l k v = l ++ [(k, v)] ∧ Tb.hasB l k = false := by
  have h1 : l.length = Tb.pl l k := Tb.pl_eq l k l.length (Nat.le_refl _) (fun j _ r hr => decide_eq_true (h r (List.mem_of_getElem? hr))) (fun r hr => by simp at hr)
  have h2 : Tb.hasB l k = false := by unfold Tb.hasB; rw [← h1]; simp
  unfold Tb.putL
  rw [h2, ← h1]
  simp
theorem four {w : World} {j : Nat} {a b c d : Value} {ty : TypeId} (h : w.heap[j]? = some (.cells #[a, b, c, d] ty (0, 0))) : (w.cell? ⟨j, 0, none⟩ = some a ∧ w.cell? ⟨j, 1, none⟩ = some b ∧ w.cell? ⟨j, 2, none⟩ = some c ∧ w.cell? ⟨j, 3, none⟩ = some d) ∧ w.frozen? ⟨j, 0, none⟩ = false ∧ w.frozen? ⟨j, 1, none⟩ = false ∧ w.frozen? ⟨j, 2, none⟩ = false ∧ w.frozen? ⟨j, 3, none⟩ = false :=
  ⟨⟨by simp [World.cell?, h], by simp [World.cell?, h], by simp [World.cell?, h], by simp [World.cell?, h]⟩, by simp [World.frozen?, h], by simp [World.frozen?, h], by simp [World.frozen?, h], by simp [World.frozen?, h]⟩
theorem set_four {w : World} {j : Nat} {xs : Array Value} {ty : TypeId} {fr : Nat × Nat} (h : w.heap[j]? = some (.cells xs ty fr)) (i : Nat) (u : Value) (hi : i < xs.size) : (w.setCell ⟨j, i, none⟩ u).heap[j]? = some (.cells (xs.set i u hi) ty fr) := by
  simp only [World.setCell, Array.getElem?_modify, if_true]; rw [h]
  simp [Array.setIfInBounds, hi]
/-- What put leaves. -/
def Puts (w w' : World) (j t : Nat) (sv : Value) (Q : Value → Prop) : Prop := ∃ sv', Q sv' ∧ Off (oj j t sv) w w' ∧ ∀ i, oj j t sv' i → oj j t sv i ∨ w.heap.size ≤ i
section
variable {w w' : World} {p j t nx n k c : Nat} {s : S} {mb : Option Nat} {L : List Fi} {snd : Bool} {sv : Value} {xs : List Xr} {rs : List Re} {A : Option Addr} {l : List Int}
/-- The table has one more row. -/
theorem JSt.row (h : JSt w p s mb L j t snd nx sv xs rs) (hlt : ∀ x ∈ xs, x.1 < (n : Int)) (_hx : nx ≤ n + 1) (hn : n ≤ 4611686018427387903) (hf : xs.length < 900) (hb : BAt w (.slice A k c) l) (hk : BK (fun i => ¬ (own p mb L i ∨ oj j t sv i)) (.slice A k c) l) (hch : Tb.Ib.Changed 0 w t sv (Tb.putL xs (n : Int) ⟨A, k, c⟩) w')
    (hj : (w'.setCell ⟨j, 3, none⟩ (.int .i64 ((n + 1 : Nat) : Int))).heap[j]? = some (.cells #[.pointer (some ⟨p, 0, none⟩), .bool snd, .pointer (some ⟨t, 0, none⟩), .int .i64 ((n + 1 : Nat) : Int)] 95 (0, 0))) :
    Puts w (w'.setCell ⟨j, 3, none⟩ (.int .i64 ((n + 1 : Nat) : Int))) j t sv (fun sv' => JSt (w'.setCell ⟨j, 3, none⟩ (.int .i64 ((n + 1 : Nat) : Int))) p s mb L j t snd (n + 1) sv' (xs ++ [((n : Int), ⟨A, k, c⟩)]) (rs ++ [(n, l)])) := by
  rw [(put_last xs n ⟨A, k, c⟩ hlt).1] at hch
  obtain ⟨sv', htab, hkp, hnew⟩ := hch
  obtain ⟨n1, n2⟩ := h.ne
  have ho1 : Off (Tb.Ib.OwnS t sv) w w' := off_of_kept hkp
  have ho2 : Off (fun i => i = j) w' (w'.setCell ⟨j, 3, none⟩ (.int .i64 ((n + 1 : Nat) : Int))) := Off.of_grown (grownBy_set _ _ _) fun i e => (Option.some.inj e).symm
  have ho : Off (oj j t sv) w (w'.setCell ⟨j, 3, none⟩ (.int .i64 ((n + 1 : Nat) : Int))) := by
    refine ⟨ho1.1.trans ho2.1, fun i hi hn => ?_⟩
    exact (ho2.2 i (Nat.lt_of_lt_of_le hi ho1.1.size) (fun e => hn (.inl e))).trans (ho1.2 i hi (fun e => hn (.inr e)))
  have hoj : ∀ i, oj j t sv' i → oj j t sv i ∨ w.heap.size ≤ i := fun i hi => by
    rcases hi with hi | hi | hi
    · exact .inl (.inl hi)
    · exact .inl (.inr (.inl hi))
    · rcases hnew with h1 | ⟨g, h1, h2⟩
      · exact .inl (.inr (.inr (by rw [← h1]; exact hi)))
      · rw [h1] at hi; cases hi; exact .inr h2
  have hjb : sv'.ownBlock ≠ some j := fun e => by
    rcases hnew with h1 | ⟨g, h1, h2⟩
    · exact n2 (by rw [← h1]; exact e)
    · rw [h1] at e; cases e; have := h.jr.oj_lt (.inl rfl : oj j t sv j); omega
  refine ⟨sv', ⟨h.st.kept ho (fun i hi => h.sep i hi), ⟨hj, htab.kept (kept_of_off ho2) (fun e => n1 e.symm) (fun g hg e => hjb (by rw [hg]; exact congrArg some e)), ?_, ?_, fun x hx2 => ?_, by simp; omega, by omega⟩, fun i hi hoi => ?_⟩, ho, hoj⟩
  · have hv := h.jr.vals.step (T' := fun i => own p mb L i ∨ oj j t sv' i) ho (fun i hi => .inr hi) (fun i hi => hi.elim (fun h1 => .inl (.inl h1)) (fun h1 => (hoj i h1).imp .inr id))
    refine ⟨by rw [List.length_append, List.length_append, hv.1]; rfl, fun i x r hx2 hr => ?_⟩
    rw [List.getElem?_append] at hx2 hr
    split at hx2
    · rw [if_pos (by rw [← hv.1]; assumption)] at hr
      exact hv.2 i x r hx2 hr
    · rw [if_neg (by rw [← hv.1]; assumption)] at hr
      have e1 : i - xs.length = 0 := by
        have := (List.getElem?_eq_some_iff.1 hx2).1
        simp at this; omega
      rw [← hv.1, e1] at hr
      rw [e1] at hx2
      simp at hx2 hr
      subst hx2 hr
      refine ⟨rfl, bat_step hb ho (fun hp a n2 c2 ha hs => hk hp a n2 c2 ha (.inr hs)), fun hp a n2 c2 ha ht => ?_⟩
      rcases ht with h4 | h4
      · exact hk hp a n2 c2 ha (.inl h4)
      · rcases hoj _ h4 with h5 | h5
        · exact hk hp a n2 c2 ha (.inr h5)
        · have h6 : a.block < w.heap.size := bk_lt hb hp a n2 c2 ha
          omega
  · have := Tb.asc_putL xs (n : Int) ⟨A, k, c⟩ h.jr.asc
    rw [(put_last xs n ⟨A, k, c⟩ hlt).1] at this
    exact this
  · rcases List.mem_append.1 hx2 with h1 | h1
    · have := hlt x h1; omega
    · simp at h1; rw [h1]; show (n : Int) < _; omega
  · rcases hoj i hoi with h1 | h1
    · exact h.sep i hi h1
    · have := own_lt h.st hi; omega
set_option maxRecDepth 100000 in
set_option maxHeartbeats 4000000 in
theorem jput_any (h : JSt w p s mb L j t snd nx sv xs rs) (hlt : ∀ x ∈ xs, x.1 < (n : Int)) (hx : nx ≤ n + 1) (hn : n ≤ 4611686018427387903) (hf : xs.length < 900) (hb : BAt w (.slice A k c) l) (hk : BK (fun i => ¬ (own p mb L i ∨ oj j t sv i)) (.slice A k c) l) :
    Calls Tryz.prog 51 #[.pointer (some ⟨j, 0, none⟩), .agg #[.int .i64 (n : Int), .slice A k c]] w fun e w' => e = .returned (.tuple #[]) ∧ Puts w w' j t sv (fun sv' => JSt w' p s mb L j t snd (n + 1) sv' (xs ++ [((n : Int), ⟨A, k, c⟩)]) (rs ++ [(n, l)])) := by
  obtain ⟨W, hW⟩ : ∃ W, W = w.alloc (.cells #[.int .i64 (n : Int), .slice A k c] 100) := ⟨_, rfl⟩
  have hal : Below w.heap.size w W := by rw [hW]; exact alloc_below _ _
  have h1 := h.below hal
  have hbk : W.heap[w.heap.size]? = some (.cells #[.int .i64 (n : Int), .slice A k c] 100 (0, 0)) := by rw [hW]; exact block_new _ _
  obtain ⟨⟨c0, c1, c2, c3⟩, _⟩ := four h1.jr.blk
  obtain ⟨⟨r0, r1⟩, _⟩ := block_cell2 hbk
  have hlw : w.heap.size < W.heap.size := by rw [hW]; simp
  have HP := Lib.hid (Tb.Ib.put_any 0 W.drew t sv xs (n : Int) ⟨A, k, c⟩ (h1.jr.tab.below (Below.refl _ _).drew) h1.jr.asc (by omega) (Nat.zero_le _))
  have hjl : j < W.heap.size := h1.jr.oj_lt (.inl rfl)
  have hjn : ¬ Tb.Ib.OwnS t sv j := fun e => e.elim (fun e => h.ne.1 e) (fun e => h.ne.2 e)
  have hrn : ¬ Tb.Ib.OwnS t sv w.heap.size := fun e => by
    have : oj j t sv w.heap.size := .inr e
    have := h.jr.oj_lt this; omega
  have HX : Hid (∀ w', Tb.Kept (Tb.Ib.OwnS t sv) W w' → w'.heap[j]? = some (.cells #[.pointer (some ⟨p, 0, none⟩), .bool snd, .pointer (some ⟨t, 0, none⟩), .int .i64 (nx : Int)] 95 (0, 0)) ∧ w'.heap[w.heap.size]? = some (.cells #[.int .i64 (n : Int), .slice A k c] 100 (0, 0))) := fun w' hw => ⟨(hw.block j hjl hjn).trans h1.jr.blk, (hw.block _ hlw hrn).trans hbk⟩
  have HH := Lib.hid (And.intro h1 (And.intro hlt (And.intro hx (And.intro hf (And.intro (hb.kept hal) hk)))))
  have HAL := Lib.hid hal
  have hn2 : n ≤ 4611686018427387903 := hn
  have HW := Lib.hid hW
  clear h h1 hlt hx hf hb hk hal hbk hjl hjn hrn hlw hW
  go_enter Tryz.func51, Tryz.ntmps51
  go_upto_region 1 with fail
  rw [← HW.out]
  go_region_held3 (fun w' => w'.cell? ⟨j, 2, none⟩ = some (.pointer (some ⟨t, 0, none⟩)) ∧ w'.cell? ⟨w.heap.size, 0, none⟩ = some (.int .i64 (n : Int)) ∧ w'.cell? ⟨w.heap.size, 1, none⟩ = some (.slice A k c))
    (first | (exact ⟨c2, r0, r1⟩) | (exact ⟨x2, y0, y1⟩))
    (first
      | (go_at_call 81; (with_reducible refine HP.out.mono ?_); rintro e w2 ⟨rfl, hch⟩
         have hkk : Tb.Kept (Tb.Ib.OwnS t sv) W w2 := (by obtain ⟨_, _, h3, _⟩ := hch; exact (Tb.Kept.of_below ((Below.refl _ _).drew)).trans h3)
         obtain ⟨hj2, hr2⟩ := HX.out w2 hkk
         obtain ⟨⟨x0, x1, x2, x3⟩, _, _, _, xf⟩ := four hj2
         obtain ⟨⟨y0, y1⟩, _⟩ := block_cell2 hr2
         have HJ2 := Lib.hid hj2
         have HCH := Lib.hid hch
         clear hch hkk hj2 hr2))
  all_goals
    clear HX HP
    go_wp2
    go_end0
    have hdr : Below W.heap.size W W.drew := (Below.refl _ _).drew
    obtain ⟨sv', hq, ho, hnw⟩ := (HH.out.1.below hdr).row HH.out.2.1 HH.out.2.2.1 hn HH.out.2.2.2.1 (HH.out.2.2.2.2.1.kept hdr) HH.out.2.2.2.2.2 HCH.out (set_four HJ2.out 3 _ (by simp))
    exact ⟨rfl, sv', hq, ((Off.of_below _ (HAL.out.trans (hdr.mono HAL.out.size))).trans ho (fun i hi => .inl hi)), fun i hi => (hnw i hi).imp id (fun h => Nat.le_trans HAL.out.size h)⟩
end
end Go.Proofs.YtjijgoflbjbnfaaGreat.Jo

namespace Go.Proofs.YtjijgoflbjbnfaaGreat.Jo
open Go.RowKit Fr
variable {F : Fence} {n : Nat} {P : Program} {α β : Type}

theorem alloc_put (w : World) (o q : Obj) (k : Nat) (h : k < w.heap.size) : (w.alloc o).putObj k q = (w.putObj k q).alloc o := by
  have e : (w.heap.push o).setIfInBounds k q = (w.heap.setIfInBounds k q).push o := by
    refine Array.ext_getElem? fun i => ?_
    rw [Array.getElem?_setIfInBounds, Array.getElem?_push, Array.getElem?_push, Array.getElem?_setIfInBounds, Array.size_setIfInBounds, Array.size_push]
    by_cases hk : k = i
    · subst hk
      rw [if_pos rfl, if_pos (by omega), if_neg (by omega), if_pos rfl, if_pos h]
    · rw [if_neg hk, if_neg hk]
  unfold World.putObj World.alloc
  rw [e]
theorem range_gb {seen : β → List α} {K : β → Nat → Prop} {C : (Nat → Prop) → Prop} {E : (β → World → Prop) → Nat → Prop} {key : α → Int} {R : (Nat → Prop) → α → Value → World → Prop} {γ : Type} {R2 : (Nat → Prop) → α → γ → World → Prop} (mkv : α → γ → Value) (hR : ∀ {Kx : Nat → Prop} {x : α} {v : Value} {W : World}, R Kx x v W → ∃ y, v = mkv x y ∧ R2 Kx x y W) (hput : ∀ {Kx : Nat → Prop} {x : α} {y : γ} {W : World} {k : Nat} {r : Loop} {o : Obj}, R2 Kx x y W → W.heap[k]? = some (.loop r) → R2 Kx x y (W.putObj k o)) {g : Operand} {ps : Array Tmp} {assign body : Code} {Q : Exit → Act → World → Prop} {a : Act} {w : World}
    (hro : F.round = none) (h1 : 1 ≤ n) {gf : Nat} {lb : Array Value} (hg : a.eval g = .func (.func gf) #[] lb) (hFg : F.fn gf) (eg : ∀ args w, (callFunc gf args).run P w = .ok (.enter gf args) w)
    {B : Nat} (hB : B ≤ w.heap.size) {S : List α}
    (hseq : GSeq seen K C E key R F (n - 1) P gf lb S w) (hps : ps.size = 2)
    (I : β → World → Prop) (Ix : Code → β → World → Prop) (hI : OwnFrom w.heap.size I) (hIx : ∀ c, OwnFrom w.heap.size (Ix c)) (hIK : ∀ s W, I s W → ∀ k, W.heap.size ≤ k → K s k) (hE : ∀ (D : Nat) (o1 o2 : Obj), o1.isCells = false → o2.isCells = false → w.heap.size ≤ D → E (fun s W => I s W ∧ W.heap[D + 1]? = some o1 ∧ W.heap[D]? = some o2 ∧ K s D ∧ K s (D + 1)) (D + 1 + 1)) (s0 : β) (hs0 : seen s0 = []) (h0 : I s0 w) (hC : C (K s0)) (o : α → γ → Obj) (a₁ : α → γ → Nat → Act)
    (hassign : ∀ (l : Nat) (x : α) (y : γ) (W : World) (b : Nat) (K : Act → World → Prop), W.heap.size = b → K (a₁ x y b) (W.alloc (o x y)) → assign.wpIn (F.inRound l) (n - 1 - 1) P (Exit.then K (fun _ _ _ => False)) { tmps := (ps.zip #[.int .i64 (key x), mkv x y]).foldl (fun t (p, v) => t.setIfInBounds p v) a.tmps, defers := [] } W)
    (hbody : ∀ (l : Nat) (s : β) (x : α) (y : γ) (W : World), I s W → R2 (K s) x y W → (∃ r, S = seen s ++ x :: r) → body.wpIn (F.inRound l) (n - 1 - 1) P (gPost B seen K I Ix s x W) (a₁ x y W.heap.size) (W.alloc (o x y)))
    (hdone : ∀ (D : Nat) (s : β) (W : World), w.heap.size ≤ D → seen s = S → I s W → W.heap[D]? = some (.deferred (some [])) → Q .normal { a with defers := { target := .collected D, args := #[] } :: a.defers } W)
    (hstop : ∀ (D : Nat) (c : Code) (s : β) (r : List α) (W : World), w.heap.size ≤ D → S = seen s ++ r → Ix c s W → W.heap[D]? = some (.deferred (some [])) → c.wpIn F n P Q { a with defers := { target := .collected D, args := #[] } :: a.defers } W) :
    (Code.rangeFunc g ps assign body).wpIn F n P Q a w := by
  refine wpIn_rangeFunc fun fn hfn => ?_
  rw [hro]
  obtain ⟨D, hD⟩ : ∃ D, D = w.heap.size := ⟨_, rfl⟩
  obtain ⟨rc, hrc⟩ : ∃ rc : LoopState → Option Code → Loop, rc = fun st pe => { state := st, pending := pe, fn, tmps := a.tmps, params := ps, assign, body, defers := w.heap.size } := ⟨_, rfl⟩
  have hpar : ∀ st pe, (rc st pe).params = ps := fun st pe => by rw [hrc]
  obtain ⟨W1, hW1⟩ : ∃ W1, W1 = (w.alloc (.deferred (some []))).alloc (.loop (rc .ready none)) := ⟨_, rfl⟩
  have hsz : W1.heap.size = D + 1 + 1 := by rw [hW1, hD]; simp
  have hL : W1.heap[D + 1]? = some (.loop (rc .ready none)) := by
    have := World.alloc_heap_new (w.alloc (.deferred (some []))) (.loop (rc .ready none))
    rw [World.size_alloc, ← hD] at this
    rw [hW1]; exact this
  have hK : W1.heap[D]? = some (.deferred (some [])) := by
    have := World.alloc_heap_new w (.deferred (some []))
    rw [← hD] at this
    rw [hW1]
    exact (Below.heap_alloc _ _ _ (by simp; omega)).trans this
  have hI1 : I s0 W1 := by rw [hW1]; exact hI.alloc _ (hI.alloc _ h0)
  have hb1 : Below w.heap.size w W1 := by rw [hW1]; exact ((Below.refl _ w).alloc (Nat.le_refl _) _).alloc (by simp) _
  refine ⟨D + 1, [{ target := .collected D, args := #[] }], W1, { target := .fn (.func gf) lb, args := #[.func (.yield (D + 1)) #[] #[]] }, W1, gf, #[.func (.yield (D + 1)) #[] #[]] ++ lb, W1, ?_, ?_, ?_, ?_, fun _ => h1, ?_⟩
  · rw [hW1, hrc, hD]; exact run_enterLoop_outer _ _ _ _ _
  · simp only [resolve, hg]
    simp [go_sem]
  · intro f' hf'
    simp [Target.leads] at hf'
    subst hf'
    exact hFg
  · simp [invoke, go_sem, eg]
  -- what is kept beside the caller's own
  have keep : ∀ {A C : World} {row : Option Nat} {k : Nat} {o : Obj}, A.grownBy C row → (∀ r, row = some r → W1.heap.size ≤ r ∧ ∃ o : Obj, A.heap[r]? = some o ∧ o.isCells = false) → k < D + 2 → A.heap[k]? = some o → C.heap[k]? = some o := fun hgr hr hk ho =>
    (hgr.block _ (Array.getElem?_eq_some_iff.1 ho).1 (fun e => by have := (hr _ e.symm).1; omega)).trans ho
  have weak : ∀ {A : World} {row : Option Nat}, (∀ r, row = some r → W1.heap.size ≤ r ∧ ∃ o : Obj, A.heap[r]? = some o ∧ o.isCells = false) → ∀ r, row = some r → w.heap.size ≤ r ∧ ∃ o : Obj, A.heap[r]? = some o ∧ o.isCells = false := fun hr r e => ⟨by have := (hr r e).1; omega, (hr r e).2⟩
  refine (hseq (D + 1)
    (fun s W => I s W ∧ W.heap[D + 1]? = some (.loop (rc .ready none)) ∧ W.heap[D]? = some (.deferred (some [])) ∧ K s D ∧ K s (D + 1))
    (fun s W => ∃ c, Ix c s W ∧ W.heap[D + 1]? = some (.loop (rc .done (some c))) ∧ W.heap[D]? = some (.deferred (some [])))
    W1 hb1
    (fun s A C row hs hgr hr => ⟨hI s A C row hs.1 hgr (weak hr), keep hgr hr (by omega) hs.2.1, keep hgr hr (by omega) hs.2.2.1, hs.2.2.2⟩)
    (fun s A C row ⟨c, hc, h2, h3⟩ hgr hr => ⟨c, hIx c s A C row hc hgr (weak hr), keep hgr hr (by omega) h2, keep hgr hr (by omega) h3⟩)
    (fun s W' h => hIK s W' h.1) (by rw [hsz]; exact hE D _ _ rfl rfl (by omega))
    ?_ s0 hs0 ⟨hI1, hL, hK, hIK s0 w h0 D (by omega), hIK s0 w h0 (D + 1) (by omega)⟩ hC).mono ?_
  · -- one round
    rintro s x v W ⟨hi, hl, hk, kd0, kd1⟩ hok0 hfit
    obtain ⟨y, rfl, hok⟩ := hR hok0
    have hlt : D + 1 < W.heap.size := (Array.getElem?_eq_some_iff.1 hl).1
    have hy := run_yield (P := P) (args := #[.int .i64 (key x), mkv x y]) hl (by rw [hpar, hps]; rfl)
    have hfn' : (rc .ready none).fn = fn := by rw [hrc]
    have hta : (rc .ready none).tmps = a.tmps := by rw [hrc]
    have has : (rc .ready none).assign = assign := by rw [hrc]
    have hbo : (rc .ready none).body = body := by rw [hrc]
    rw [hpar, hfn', hta, has, hbo] at hy
    refine ⟨fn, _, assign, body, hy, roundIn_of_wpIn hfn (hassign _ x y W _ _ rfl ?_)⟩
    clear hy
    have hst : (rc .ready none).state = .ready := by rw [hrc]
    have hbz : ({ rc .ready none with state := .busy } : Loop) = rc .busy none := by rw [hrc]
    refine ⟨_, run_beginRound (block_old hl (o x y)) hst, ?_⟩
    rw [hbz, alloc_put W _ _ _ hlt]
    have hl2 : (W.putObj (D + 1) (.loop (rc .busy none))).heap[D + 1]? = some (.loop (rc .busy none)) := World.putObj_heap_same hlt
    have hk2 : (W.putObj (D + 1) (.loop (rc .busy none))).heap[D]? = some (.deferred (some [])) := (World.putObj_heap_other (by omega)).trans hk
    have hi2 : I s (W.putObj (D + 1) (.loop (rc .busy none))) := hI.putObj _ hi (by omega) hl rfl
    have hbd := hbody (D + 1) s x y _ hi2 (hput hok hl) hfit
    rw [show (W.putObj (D + 1) (.loop (rc .busy none))).heap.size = W.heap.size by simp] at hbd
    refine wpIn_mono hbd ?_
    -- the round's end
    have fin : ∀ (j : Option Code) (K0 : Nat → Prop) (W3 : World), K0 D → K0 (D + 1) → KS K0 (W.putObj (D + 1) (.loop (rc .busy none))) W3 →
        (Instr.endRound (D + 1) j).run P W3 = .ok (.bool j.isNone) (W3.putObj (D + 1) (.loop (rc (if j.isNone then .ready else .done) j))) ∧
        W3.heap[D + 1]? = some (.loop (rc .busy none)) ∧
        (W3.putObj (D + 1) (.loop (rc (if j.isNone then .ready else .done) j))).heap[D + 1]? = some (.loop (rc (if j.isNone then .ready else .done) j)) ∧
        (W3.putObj (D + 1) (.loop (rc (if j.isNone then .ready else .done) j))).heap[D]? = some (.deferred (some [])) ∧
        KS (fun k => K0 k ∧ W1.heap.size ≤ k) W (W3.putObj (D + 1) (.loop (rc (if j.isNone then .ready else .done) j))) := fun j K0 W3 k0 k1 hk3 => by
      have hl3 : W3.heap[D + 1]? = some (.loop (rc .busy none)) := (hk3.2 _ k1 (by simp; omega)).trans hl2
      have hk4 : W3.heap[D]? = some (.deferred (some [])) := (hk3.2 _ k0 (by simp; omega)).trans hk2
      have hr := run_endRound (P := P) j hl3
      have e : ({ rc .busy none with state := if j.isNone then .ready else .done, pending := j } : Loop) = rc (if j.isNone then .ready else .done) j := by rw [hrc]
      rw [e] at hr
      exact ⟨hr, hl3, World.putObj_heap_same (Array.getElem?_eq_some_iff.1 hl3).1, (World.putObj_heap_other (by omega)).trans hk4,
        ((KS.put W _ (by omega)).trans (hk3.mono (fun k hk => hk.1))).trans (KS.put W3 _ (by omega))⟩
    rintro e a3 W3 hp
    cases e with
    | normal =>
      obtain ⟨hk3, s', hs', hi3, hgo⟩ := hp
      obtain ⟨hr, hl3, hl4, hk4, _⟩ := fin none (K s) W3 kd0 kd1 hk3
      refine ⟨_, _, hr, .inl ⟨rfl, ?_, s', hs', ⟨hI.putObj _ hi3 (by omega) hl3 rfl, hl4, hk4, hgo D kd0 (by simp; omega), hgo (D + 1) kd1 (by simp; omega)⟩, fun k h2 h3 => hgo k h2 (by simpa using h3)⟩⟩
      refine ⟨Nat.le_trans (by simpa using hk3.1) (by simp), fun k h2 h3 => ?_⟩
      by_cases hkd : k = D + 1
      · subst hkd; exact hl4.trans hl.symm
      · exact (World.putObj_heap_other hkd).trans ((hk3.2 k h2 (by simpa using h3)).trans (World.putObj_heap_other hkd))
    | ret =>
      obtain ⟨hk3, s', hs', hi3⟩ := hp
      obtain ⟨hr, hl3, hl4, hk4, hk5⟩ := fin (some .ret) _ W3 ⟨kd0, by omega⟩ ⟨kd1, by omega⟩ hk3
      exact ⟨_, _, hr, .inr ⟨rfl, hk5.mono fun k h => ⟨⟨h.1, by omega⟩, h.2⟩, s', hs', .ret, (hIx _).putObj _ hi3 (by omega) hl3 rfl, hl4, hk4⟩⟩
    | exit id =>
      obtain ⟨hk3, s', hs', hi3⟩ := hp
      obtain ⟨hr, hl3, hl4, hk4, hk5⟩ := fin (some (.exit id)) _ W3 ⟨kd0, by omega⟩ ⟨kd1, by omega⟩ hk3
      exact ⟨_, _, hr, .inr ⟨rfl, hk5.mono fun k h => ⟨⟨h.1, by omega⟩, h.2⟩, s', hs', .exit id, (hIx _).putObj _ hi3 (by omega) hl3 rfl, hl4, hk4⟩⟩
    | goto t =>
      obtain ⟨hk3, s', hs', hi3⟩ := hp
      obtain ⟨hr, hl3, hl4, hk4, hk5⟩ := fin (some (.goto t)) _ W3 ⟨kd0, by omega⟩ ⟨kd1, by omega⟩ hk3
      exact ⟨_, _, hr, .inr ⟨rfl, hk5.mono fun k h => ⟨⟨h.1, by omega⟩, h.2⟩, s', hs', .goto t, (hIx _).putObj _ hi3 (by omega) hl3 rfl, hl4, hk4⟩⟩
    | panic ch => exact hp.elim
    | outgrown => exact hp.elim
  · -- behind the iterator
    have hnb : ∀ st pe, st ≠ LoopState.busy → (rc st pe).state ≠ .busy := fun st pe h => by rw [hrc]; exact h
    have hpe : ∀ st pe, (rc st pe).pending = pe := fun st pe => by rw [hrc]
    rintro e W2 ⟨⟨v, rfl⟩, (⟨s, hsS, hi, hl, hk, _⟩ | ⟨s, ⟨r, hSp⟩, c, hi, hl, hk⟩)⟩
    · have hr := run_endLoop (P := P) hl (hnb _ _ (by decide))
      rw [hpe] at hr
      rw [hD] at hl hk hr ⊢
      exact ⟨none, _, hr, hdone _ s _ (Nat.le_refl _) hsS (hI.putObj _ hi (by omega) hl rfl) ((World.putObj_heap_other (by omega)).trans hk)⟩
    · have hr := run_endLoop (P := P) hl (hnb _ _ (by decide))
      rw [hpe] at hr
      rw [hD] at hl hk hr ⊢
      exact ⟨some c, _, hr, hstop _ c s r _ (Nat.le_refl _) hSp ((hIx c).putObj _ hi (by omega) hl rfl) ((World.putObj_heap_other (by omega)).trans hk)⟩
end Go.Proofs.YtjijgoflbjbnfaaGreat.Jo
