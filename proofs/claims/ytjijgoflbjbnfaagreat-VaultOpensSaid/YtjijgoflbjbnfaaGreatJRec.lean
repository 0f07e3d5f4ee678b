/-
  The contract of Records. Conditions: at most nine hundred records.
-/
import Derived.Test.YtjijgoflbjbnfaaGreatVM21
namespace Go.Proofs.YtjijgoflbjbnfaaGreat.Jo
open Go.RowKit Go.Shelf Fr Sr
attribute [local go_sem] Oper.semAt_some

/-- A new row of slices that hold these bytes. -/
def RowsB (w : World) (base : Nat) (T : Nat → Prop) (v : Value) (bs : List (List Int)) : Prop :=
  ∃ us : List Value, w.ownsRow base 32 1 v bs.length us ∧ ∀ (i : Nat) (u : Value) (b : List Int), us[i]? = some u → bs[i]? = some b → BAt w u b ∧ BK (fun k => ¬ T k) u b
theorem rowsInf : (Tryz.prog.info? 32).map (fun i => (i.zero, i.size, i.bytes)) = some (some (.slice none 0 0), 1, 24) := by kernel_rfl
/-- While records are told. -/
structure RI (w : World) (lb : Nat) (B : List (List Int)) (s : List Xr × Value) (W : World) : Prop where
  box : Boxed W lb 31 s.2
  row : RowsB W (lb + 1) (fun k => k = lb ∨ s.2.ownBlock = some k) s.2 (B.take s.1.length)
  len : s.1.length ≤ B.length
  bel : Below w.heap.size w W
def RK (lb : Nat) (s : List Xr × Value) (k : Nat) : Prop := k ≠ lb ∧ s.2.ownBlock ≠ some k
theorem RowsB.turn {w w' : World} {S T : Nat → Prop} {base : Nat} {v : Value} {bs : List (List Int)} (h : RowsB w base T v bs) (ho : Off S w w') (hv : ∀ i, v.ownBlock = some i → ¬ S i) (h3 : ∀ i, S i → ∀ o, w.heap[i]? = some o → o.isCells = false) : RowsB w' base T v bs := by
  obtain ⟨us, h1, h2⟩ := h
  refine ⟨us, Oc.ownsRow_kept h1 (fun i hi => ho.2 i (h1.lt i hi).2 (hv i hi)), fun i u b hu hb => ?_⟩
  obtain ⟨h4, h5⟩ := h2 i u b hu hb
  refine ⟨bat_step h4 ho (fun hp a n c ha hs => ?_), h5⟩
  obtain ⟨A, cap, e1, _, e3⟩ := h4
  obtain ⟨g, o, e4, e5, e6⟩ := e3 hp
  rw [e1, e4] at ha
  cases ha
  have e7 := e6 0 hp
  obtain ⟨ob, e8⟩ : ∃ ob, w.heap[g]? = some ob := ⟨_, Array.getElem?_eq_getElem e5⟩
  simp only [World.cell?, e8] at e7
  have h6 := h3 g hs ob e8
  cases ob with
  | cells cs ty fr => cases h6
  | _ => cases e7
theorem RI.from {w : World} {lb N : Nat} {B : List (List Int)} (hN : w.heap.size ≤ N) : OwnFrom N (RI w lb B) := fun s X Y row h hg hr => by
  have ho : Off (fun i => row = some i) X Y := Off.of_grown (T := fun i => row = some i) hg fun i e => e
  have h3 : ∀ i, row = some i → ∀ o, X.heap[i]? = some o → o.isCells = false := fun i hi o ho2 => by
    obtain ⟨h1, o2, h2, h3⟩ := hr i hi
    rw [h2] at ho2; cases ho2; exact h3
  have hne : ∀ {i : Nat}, row = some i → ∀ {cs : Array Value} {ty : TypeId} {fr : Nat × Nat} {b : Nat}, X.heap[b]? = some (.cells cs ty fr) → i ≠ b := fun hi _ _ _ _ hb e => by
    subst e
    have := h3 _ hi _ hb
    cases this
  refine ⟨(ho.2 lb h.box.lt (fun e => hne e h.box rfl)).trans h.box, h.row.turn ho (fun i hi e => ?_) h3, h.len, h.bel.trans ⟨hg.os, hg.tape, hg.output, hg.size, fun i hi => ho.2 i (Nat.lt_of_lt_of_le hi h.bel.size) (fun e => by have := (hr i e).1; omega)⟩⟩
  obtain ⟨us, ⟨_, h1 | ⟨g, cap, cur, h4, _, h5, _⟩⟩, _⟩ := h.row
  · rw [h1.1] at hi; cases hi
  · rw [h4] at hi; cases hi
    exact hne e h5 rfl
theorem stepIn_app {F : Fence} {n : Nat} {P : Program} {w : World} {ops : Array Oper} {o : Oper} {a : Act} {K : Act → World → Prop} {Q : Exit → Act → World → Prop} {E : Prop} (hgd : o.guard = none) (s x : Operand) (t : TypeId)
    (ho : o.op = .call { callee := .builtin .append, args := #[s, x], argTypes := #[t, t] }) (vs vx : Value) (hs : a.eval s = vs) (hx : a.eval x = vx)
    (v' : Value) (w' : World) (hr : (Builtin.append_ #[t, t] o.type #[vs, vx]).run P w = .ok v' w') (h : K (a.put o.dst v') w') :
    if Region.wanted o (yielded ops a.tmps) = true then Oper.wpIn F n P o a w K Q else E := by
  have hw : Region.wanted o (yielded ops a.tmps) = true := by simp [Region.wanted, hgd]
  rw [if_pos hw]
  unfold Oper.wpIn
  refine ⟨?_, ?_⟩
  · simp [Oper.about, ho, resolve, Target.leads, Sem.run_pure]
  · rw [Oper.semAt_plain F _ _ (by rw [ho]; intro c hc'; cases hc')]
    simp [execOp, ho, resolve, invoke, builtin, hs, hx, hr, Result.andThen]
    exact h
/-- One slice of bytes behind the row. -/
theorem app_row {w : World} {base : Nat} {v u : Value} {us : List Value} {n g : Nat} (h : w.ownsRow base 32 1 v n us) (hn : n ≤ 100000) (hb : base ≤ w.heap.size) (hg : w.heap[g]? = some (.cells #[u] 32 (0, 0))) (hu : u.oneCell' = true) :
    ∃ v' w', (Builtin.append_ #[31, 31] 31 #[v, .slice (some ⟨g, 0, none⟩) 1 1]).run Tryz.prog w = .ok v' w' ∧ w'.ownsRow base 32 1 v' (n + 1) (us ++ [u]) ∧ w.grownBy w' v.ownBlock ∧ ∀ i, v'.ownBlock = some i → v.ownBlock = some i ∨ w.heap.size ≤ i := by
  obtain ⟨i0, hi0, hz0, hz1, hz2⟩ := info_parts rowsInf
  obtain ⟨v', w', hr, ho, hgr, _, hat⟩ := run_append_own_at (P := Tryz.prog) w base 31 31 32 i0 (.slice none 0 0) 1 24 Tryz.underlying31 hi0 hz0 hz1 hz2 rfl (by decide) v n us h ⟨g, 0, none⟩ 1 1 [u] rfl (World.news_of_block (cs := #[u]) hg) (by simpa using hu) (by unfold maxLen; omega) (by omega) hb
  refine ⟨v', w', hr, ho, hgr, fun i hi => ?_⟩
  rcases hat with h2 | h2
  · exact .inl (h2.symm.trans hi)
  · rw [h2] at hi; cases hi; exact .inr (Nat.le_refl _)
/-- A round: one more slice. -/
theorem rec_step {w W w3 : World} {lb : Nat} {B : List (List Int)} {pre : List Xr} {v : Value} {x : Xr} {A6 : Option Addr} {m c6 : Nat} {b : List Int} (hlb : w.heap.size ≤ lb) (h : RI w lb B (pre, v) W) (hN : B[pre.length]? = some b ∧ B.take (pre.length + 1) = B.take pre.length ++ [b] ∧ B.length ≤ 900) (ho : BAt w3 (.slice A6 m c6) b ∧ BK (fun k => W.drew.heap.size ≤ k) (.slice A6 m c6) b) (hb : Below W.drew.heap.size W.drew w3) :
    ∃ A5 n5 c5 w5, (Builtin.append_ #[31, 31] 31 #[v, .slice (some ⟨w3.heap.size, 0, none⟩) 1 1]).run Tryz.prog (w3.alloc (.cells #[.slice A6 m c6] 32)) = .ok (.slice A5 n5 c5) w5 ∧ Boxed w5 lb 31 v ∧
      KS (RK lb (pre, v)) W (w5.setCell ⟨lb, 0, none⟩ (.slice A5 n5 c5)) ∧ ∃ s' : List Xr × Value, s'.1 = pre ++ [x] ∧ RI w lb B s' (w5.setCell ⟨lb, 0, none⟩ (.slice A5 n5 c5)) ∧ Goes (RK lb (pre, v)) (RK lb s') W := by
  have hbx : Boxed W lb 31 v := h.box
  have hlW : lb < W.heap.size := hbx.lt
  have hpl : pre.length < B.length := (List.getElem?_eq_some_iff.1 hN.1).1
  obtain ⟨us, h1, h2⟩ := h.row
  have hl0 : (B.take pre.length).length = pre.length := by rw [List.length_take]; omega
  have h1' : W.ownsRow (lb + 1) 32 1 v pre.length us := by rw [← hl0]; exact h1
  have hvb : ∀ i, v.ownBlock = some i → lb + 1 ≤ i ∧ i < W.heap.size := fun i hi => h1'.lt i hi
  have hbW : Below W.heap.size W w3 := ((Below.refl W.heap.size W).drew).trans hb
  have hal := alloc_below w3 (.cells #[.slice A6 m c6] 32)
  have hb3 : Below W.heap.size W (w3.alloc (.cells #[.slice A6 m c6] 32)) := hbW.trans (hal.mono hbW.size)
  have own3 := Oc.ownsRow_kept h1' (fun g hg => hb3.block g (hvb g hg).2)
  obtain ⟨v5, w5, hr, ho5, hg5, hn5⟩ := app_row (u := .slice A6 m c6) own3 (by omega) (by have := hb3.size; omega) (block_new w3 _) rfl
  obtain ⟨A5, n5, c5, rfl⟩ : ∃ A n c, v5 = .slice A n c := by
    rcases ho5.2 with ⟨h7, _⟩ | ⟨g, cap, cur, h7, _⟩
    · exact ⟨none, 0, 0, h7⟩
    · exact ⟨_, _, _, h7⟩
  have s3 := hb3.size
  have k5 : ∀ i, i < W.heap.size → v.ownBlock ≠ some i → w5.heap[i]? = W.heap[i]? := fun i hi hv => (hg5.block i (Nat.lt_of_lt_of_le hi s3) (fun e => hv e.symm)).trans (hb3.block i hi)
  have hb5 : Boxed w5 lb 31 v := (k5 lb hlW (fun e => by have := (hvb lb e).1; omega)).trans hbx
  have ho6 : Off (fun i => i = lb) w5 (w5.setCell ⟨lb, 0, none⟩ (.slice A5 n5 c5)) := Off.of_grown (grownBy_set _ _ _) fun i e => (Option.some.inj e).symm
  have k6 : ∀ i, i < W.heap.size → RK lb (pre, v) i → (w5.setCell ⟨lb, 0, none⟩ (.slice A5 n5 c5)).heap[i]? = W.heap[i]? := fun i hi hk => (ho6.2 i (Nat.lt_of_lt_of_le hi (Nat.le_trans s3 hg5.size)) hk.1).trans (k5 i hi hk.2)
  have hz3 : w3.heap.size < (w3.alloc (.cells #[.slice A6 m c6] 32)).heap.size := by simp
  have oT : Off (fun i => i = lb ∨ v.ownBlock = some i) W (w5.setCell ⟨lb, 0, none⟩ (.slice A5 n5 c5)) := ⟨⟨(ho6.1.os.trans hg5.os).trans hb3.os, (ho6.1.tape.trans hg5.tape).trans hb3.tape, (ho6.1.output.trans hg5.output).trans hb3.output, Nat.le_trans s3 (Nat.le_trans hg5.size ho6.1.size), fun i hi => absurd hi (Nat.not_lt_zero _)⟩, fun i hi hk => k6 i hi ⟨fun e => hk (.inl e), fun e => hk (.inr e)⟩⟩
  refine ⟨A5, n5, c5, w5, hr, hb5, ⟨Nat.le_trans s3 (Nat.le_trans hg5.size ho6.1.size), fun i hk hi => k6 i hi hk⟩, (pre ++ [x], .slice A5 n5 c5), rfl, ⟨block_put hb5 (.slice A5 n5 c5), ?_, by simp; omega, ?_⟩, fun i hk hi => ⟨hk.1, fun e => ?_⟩⟩
  · have e1 : ((pre ++ [x], .slice A5 n5 c5) : List Xr × Value).1.length = pre.length + 1 := by simp
    rw [e1]
    refine ⟨us ++ [.slice A6 m c6], ?_, fun i u b' hu hb' => ?_⟩
    · have e2 : (B.take (pre.length + 1)).length = pre.length + 1 := by rw [List.length_take]; omega
      rw [e2]
      refine Oc.ownsRow_kept ho5 (fun g hg => ho6.2 g (ho5.lt g hg).2 (fun e => by have := (ho5.lt g hg).1; omega))
    · have hul : us.length = pre.length := by have := h1'.1; omega
      have hT : ∀ i, (i = lb ∨ (Value.slice A5 n5 c5).ownBlock = some i) → (i = lb ∨ v.ownBlock = some i) ∨ (w3.alloc (.cells #[.slice A6 m c6] 32)).heap.size ≤ i := fun i hi => by
        rcases hi with hi | hi
        · exact .inl (.inl hi)
        · exact (hn5 i hi).imp .inr id
      rw [hN.2.1] at hb'
      rw [List.getElem?_append] at hu hb'
      split at hu
      · rename_i hi
        rw [if_pos (by rw [hl0]; omega)] at hb'
        obtain ⟨a1, a2⟩ := h2 i u b' hu hb'
        refine ⟨bat_step a1 oT a2, fun hp a n c ha ht => ?_⟩
        have a3 : a.block < W.heap.size := bk_lt a1 hp a n c ha
        rcases hT _ ht with h7 | h7
        · exact a2 hp a n c ha h7
        · omega
      · rename_i hi
        rw [if_neg (by rw [hl0]; omega)] at hb'
        have e3 : i - us.length = 0 := by
          have := (List.getElem?_eq_some_iff.1 hu).1
          simp at this; omega
        rw [hl0, ← hul, e3] at hb'
        rw [e3] at hu
        simp at hu hb'
        subst hu hb'
        have hfresh : ∀ (hp : 0 < b.length) a n c, Value.slice A6 m c6 = .slice (some a) n c → W.heap.size ≤ a.block := fun hp a n c ha => ho.2 hp a n c ha
        have hold : ∀ (hp : 0 < b.length) a n c, Value.slice A6 m c6 = .slice (some a) n c → a.block < w3.heap.size := fun hp a n c ha => bk_lt ho.1 hp a n c ha
        have b3 := ho.1.kept hal
        have o35 : Off (fun i => i = lb ∨ v.ownBlock = some i) (w3.alloc (.cells #[.slice A6 m c6] 32)) (w5.setCell ⟨lb, 0, none⟩ (.slice A5 n5 c5)) := ⟨⟨ho6.1.os.trans hg5.os, ho6.1.tape.trans hg5.tape, ho6.1.output.trans hg5.output, Nat.le_trans hg5.size ho6.1.size, fun i hi => absurd hi (Nat.not_lt_zero _)⟩, fun i hi hk => (ho6.2 i (Nat.lt_of_lt_of_le hi hg5.size) (fun e => hk (.inl e))).trans (hg5.block i hi (fun e => hk (.inr e.symm)))⟩
        refine ⟨bat_step b3 o35 (fun hp a n c ha hs => ?_), fun hp a n c ha ht => ?_⟩
        · have := hfresh hp a n c ha
          rcases hs with h7 | h7
          · omega
          · have := (hvb _ h7).2; omega
        · have := hfresh hp a n c ha
          have := hold hp a n c ha
          rcases hT _ ht with (h7 | h7) | h7
          · omega
          · have := (hvb _ h7).2; omega
          · omega
  · refine h.bel.trans ⟨oT.1.os, oT.1.tape, oT.1.output, oT.1.size, fun i hi => k6 i (Nat.lt_of_lt_of_le hi h.bel.size) ⟨by omega, fun e => by have := (hvb i e).1; omega⟩⟩
  · rcases hn5 i e with h7 | h7
    · exact hk.2 h7
    · omega
theorem vals_from {w : World} {T : Nat → Prop} {xs : List Xr} {rs : List Re} (h : Vals w T xs rs) (k : Int) {pre r : List Xr} {x : Xr} (he : Tb.fromL xs k = pre ++ x :: r) : ∃ b, ((rs.drop (Tb.pl xs k)).map (·.2))[pre.length]? = some b ∧ BAt w (bval x.2) b ∧ ∃ q : Re, q ∈ rs ∧ q.2 = b ∧ x.1 = (q.1 : Int) ∧ BK (fun k => ¬ T k) (bval x.2) b := by
  have h1 : (xs.drop (Tb.pl xs k))[pre.length]? = some x := by
    have h2 : xs.drop (Tb.pl xs k) = pre ++ x :: r := he
    rw [h2]; simp
  rw [List.getElem?_drop] at h1
  have h3 : Tb.pl xs k + pre.length < rs.length := by
    rw [← h.1]; exact (List.getElem?_eq_some_iff.1 h1).1
  have h4 : rs[Tb.pl xs k + pre.length]? = some rs[Tb.pl xs k + pre.length] := List.getElem?_eq_getElem h3
  obtain ⟨a1, a2, a3⟩ := h.2 _ _ _ h1 h4
  exact ⟨_, by rw [List.getElem?_map, List.getElem?_drop, h4]; rfl, a2, _, List.getElem_mem h3, rfl, a1, a3⟩
theorem ownsRow_base {w : World} {b : Nat} {v : Value} {n : Nat} {us : List Value} (h : w.ownsRow (b + 1) 32 1 v n us) : w.ownsRow b 32 1 v n us := by
  obtain ⟨h0, h1 | ⟨g, cap, cur, h2, h3, h4⟩⟩ := h
  · exact ⟨h0, .inl h1⟩
  · exact ⟨h0, .inr ⟨g, cap, cur, h2, by omega, h4⟩⟩
section
variable {w : World} {p j t nx : Nat} {s : Sr.S} {mb : Option Nat} {L : List Fi} {snd : Bool} {sv : Value} {xs : List Xr} {rs : List Re}
set_option maxRecDepth 100000 in
set_option maxHeartbeats 4000000 in
theorem records_any (h : JSt w p s mb L j t snd nx sv xs rs) (k : Int) (hl : ∀ r ∈ rs, r.2.length ≤ 2000000) :
    Calls Tryz.prog 97 #[.pointer (some ⟨j, 0, none⟩), .int .i64 k] w fun e w' => ∃ v, e = .returned v ∧ RowsB w' w.heap.size (fun _ => False) v ((rs.drop (Tb.pl xs k)).map (·.2)) ∧ Below w.heap.size w w' := by
  obtain ⟨⟨c0, c1, c2, c3⟩, _⟩ := four h.jr.blk
  obtain ⟨B, hB⟩ : ∃ B, B = (rs.drop (Tb.pl xs k)).map (·.2) := ⟨_, rfl⟩
  rw [← hB]
  obtain ⟨W1, hW1⟩ : ∃ W1, W1 = w.alloc (.cells #[.slice none 0 0] 31) := ⟨_, rfl⟩
  have hal : Below w.heap.size w W1 := by rw [hW1]; exact alloc_below _ _
  have hjl : j < w.heap.size := h.jr.oj_lt (.inl rfl)
  have c2' := (hal.cell (p := ⟨j, 2, none⟩) hjl).trans c2
  have hlb : Boxed W1 w.heap.size 31 (.slice none 0 0) := by rw [hW1]; exact Boxed.new _ _ _
  have HW1 := Lib.hid hW1
  have HB := Lib.hid hB
  have HH := Lib.hid h
  have HAL := Lib.hid hal
  have HLB := Lib.hid hlb
  clear h hW1 hB hal hlb
  refine (callsIn_wide (n := 10)).1 ?_
  refine callsIn_of_wp_marks Tryz.func97 rfl trivial ?_ rfl
  simp only [Tryz.ntmps97, List.size_toArray, List.length_cons, List.length_nil, Nat.reduceAdd, Nat.reduceSub, Array.replicate_succ, Array.replicate_zero, List.push_toArray, List.append_toArray, List.nil_append, List.cons_append]
  rw [HW1.out] at c2'
  gi_wp2_with (first
    | (refine ⟨trivial, ?_⟩; gi_at_call 60; refine (callsIn_wide.2 (Tb.Ib.from_any _ _ _)).mono ?_; rintro e w' ⟨rfl, rfl⟩)
    | (refine ⟨trivial, ?_⟩; gi_at_call 64; refine (callsIn_wide.2 (orNone_some _ _)).mono ?_; rintro e w' ⟨rfl, rfl⟩))
  obtain ⟨W2, hW2⟩ : ∃ W2, W2 = ((w.alloc (.cells #[.slice none 0 0] 31)).alloc (.cells #[.pointer (some ⟨t, 0, none⟩)] 92)).alloc (.cells #[.int .i64 k] 3) := ⟨_, rfl⟩
  have h12 : Below W1.heap.size W1 W2 := by rw [hW2, HW1.out]; exact ((Below.refl _ _).alloc (Nat.le_refl _) _).alloc (by simp) _
  have hw2 : Below w.heap.size w W2 := HAL.out.trans (h12.mono HAL.out.size)
  have b1 : W2.heap[w.heap.size + 1]? = some (.cells #[.pointer (some ⟨t, 0, none⟩)] 92 (0, 0)) := by
    rw [hW2]
    have := block_new (w.alloc (.cells #[.slice none 0 0] 31)) (.cells #[.pointer (some ⟨t, 0, none⟩)] 92)
    rw [World.size_alloc] at this
    exact block_old this _
  have b2 : W2.heap[w.heap.size + 1 + 1]? = some (.cells #[.int .i64 k] 3 (0, 0)) := by
    rw [hW2]
    have := block_new ((w.alloc (.cells #[.slice none 0 0] 31)).alloc (.cells #[.pointer (some ⟨t, 0, none⟩)] 92)) (.cells #[.int .i64 k] 3)
    rwa [World.size_alloc, World.size_alloc] at this
  have hI0 : RI w w.heap.size B ([], .slice none 0 0) W2 := ⟨block_kept HLB.out h12, ⟨[], by
    have : B.take (([], Value.slice none 0 0) : List Xr × Value).1.length = [] := List.take_zero
    rw [this]; exact World.ownsRow_nil _ _ _ _, fun i u b hu => by simp at hu⟩, Nat.zero_le _, hw2⟩
  have hz2 : W2.heap.size = w.heap.size + 1 + 1 + 1 := by rw [hW2]; simp
  rw [← hW2]
  clear hW2 c2'
  have hasc := HH.out.jr.asc
  have HBL : Hid (B.length ≤ 900) := by
    show B.length ≤ 900
    rw [HB.out, List.length_map, List.length_drop, ← HH.out.jr.vals.1]
    have := HH.out.jr.few
    omega
  have hseq := from1_g (10 - 1) (by decide) (fun s : List Xr × Value => s.1) (RK w.heap.size) (w.heap.size + 1) w W2 (some ⟨t, 0, none⟩) k xs HH.out.jr.tab.read hasc (by have := HH.out.jr.few; omega) hw2 b1 b2
  have HX : Hid (∀ pre x r, Tb.fromL xs k = pre ++ x :: r → ∃ b, B[pre.length]? = some b ∧ (BAt w (bval x.2) b ∧ b.length ≤ 2000000) ∧ B.take (pre.length + 1) = B.take pre.length ++ [b]) := by
    show ∀ pre x r, Tb.fromL xs k = pre ++ x :: r → ∃ b, B[pre.length]? = some b ∧ (BAt w (bval x.2) b ∧ b.length ≤ 2000000) ∧ B.take (pre.length + 1) = B.take pre.length ++ [b]
    intro pre x r he
    obtain ⟨b, h1, h2⟩ := vals_from HH.out.jr.vals k he
    rw [← HB.out] at h1
    refine ⟨b, h1, ⟨h2.1, ?_⟩, by rw [List.take_add_one, h1]; rfl⟩
    obtain ⟨q, hq, e, _⟩ := h2.2
    rw [← e]; exact hl q hq
  refine' range_g (β := List Xr × Value) (seen := fun s => s.1) (K := RK w.heap.size) (C := Lo w.heap.size) (E := fun _ _ => True) (key := tkey) (R := tR) (S := Tb.fromL xs k) (fun h _ => h) rfl (by decide) (gf := 93) (lb := #[.pointer (some ⟨w.heap.size + 1, 0, none⟩), .pointer (some ⟨w.heap.size + 1 + 1, 0, none⟩)]) rfl trivial (enters_of Tryz.func93 (by kernel_rfl) rfl)
    (B := w.heap.size) (by omega) hseq rfl (RI w w.heap.size B) (fun _ _ _ => False) (RI.from (by omega)) (fun _ _ _ _ _ h _ _ => h) (fun s W' h i hi => ⟨by have := h.box.lt; omega, fun e => by
      obtain ⟨us, hr, _⟩ := h.row
      have := (hr.lt i e).2; omega⟩) (fun _ _ _ _ _ _ => trivial) ([], .slice none 0 0) rfl hI0 (fun i hi => ⟨by omega, by simp [Value.ownBlock]⟩) _ ?assign ?body ?done ?stop
  case assign =>
    intro l x v W K hK
    gi_wp2
    exact hK
  case stop =>
    rintro D c s r W _ _ h _
    exact h.elim
  case body =>
    rintro l2 ⟨pre, v⟩ x u W hI hu ⟨r, hr⟩
    subst hu
    obtain ⟨b, hb1, ⟨hb2, hbn⟩, hb3⟩ := HX.out pre x r hr
    have hxn := hb2.len.1
    have hcl := fun w0 (hw : Below W.heap.size W w0) => clone_atK w0 x.2.A x.2.n x.2.c b ((hb2.kept hI.bel).kept hw) (by omega)
    have d1 := hI.box.cell
    have hlw : w.heap.size < W.heap.size := hI.box.lt
    have HC := Lib.hid hcl
    have HI := Lib.hid hI
    have HN := Lib.hid (And.intro hb1 (And.intro hb3 HBL.out))
    have hmx : Tryz.prog.follows .mixedOrders = true := by kernel_rfl
    clear hb1 hb2 hb3 hcl hI hxn
    unfold bval
    gi_wp2
    refine wpIn_region_any (by assumption) ?_
    change wpAnyIn _ _ _ _ _ _ _ _ _ (World.drew _)
    refine wpAnyIn_ready (rs := [0, 1]) (by kernel_rfl) (by simp) ?_
    refine AllReadyIn.cons rfl (fun K hK => ?_) ?_
    · go_simp
      refine hK _ _ ?_
      clear hK K
      refine wpAnyIn_ready (rs := [1]) (by kernel_rfl) (by simp) ?_
      refine AllReadyIn.cons rfl (fun K hK => ?_) ?_
      · go_simp
        refine hK _ _ ?_
        clear hK K
        refine wpAnyIn_ready (rs := [2]) (by kernel_rfl) (by simp) ?_
        refine AllReadyIn.cons rfl (fun K hK => ?_) ?_
        · go_simp
          refine ⟨trivial, (CallsIn.inRound l2 (callsIn_wide.2 (HC.out _ (Below.refl _ _).drew))).mono ?_⟩
          rintro e w3 ⟨A6, c6, rfl, ho, hb4⟩
          have HQ := Lib.hid (rec_step (x := x) (Nat.le_refl _) HI.out HN.out ho hb4)
          obtain ⟨A5, n5, c5, w5, hrun, hfin⟩ := HQ.out
          have HRUN := Lib.hid hrun
          have HFIN := Lib.hid hfin
          have d2 : w3.cell? ⟨w.heap.size, 0, none⟩ = some v := (hb4.cell (p := ⟨w.heap.size, 0, none⟩) hlw).trans d1
          have d3 : (w3.alloc (.cells #[.slice A6 x.2.n c6] 32)).cell? ⟨w.heap.size, 0, none⟩ = some v := Lib.cell?_alloc_some _ d2
          have d5 := hfin.1.cell
          have f5 := hfin.1.frozen
          clear ho hb4 hrun hfin
          refine hK _ _ ?_
          clear hK K
          refine wpAnyIn_ready (rs := [3]) (by kernel_rfl) (by simp) ?_
          refine AllReadyIn.cons rfl (fun K hK => ?_) ?_
          · go_simp
            refine hK _ _ ?_
            clear hK K
            refine wpAnyIn_ready (rs := [4]) (by kernel_rfl) (by simp) ?_
            refine AllReadyIn.cons rfl (fun K hK => ?_) ?_
            · refine stepIn_app rfl _ _ 31 rfl v (.slice (some ⟨w3.heap.size, 0, none⟩) 1 1) rfl rfl (.slice A5 n5 c5) w5 HRUN.out ?_
              refine hK _ _ ?_
              clear hK K
              refine wpAnyIn_ready (rs := [5]) (by kernel_rfl) (by simp) ?_
              refine AllReadyIn.cons rfl (fun K hK => ?_) ?_
              · go_simp
                refine hK _ _ ?_
                clear hK K
                refine wpAnyIn_done (by kernel_rfl) ?_ _
                exact HFIN.out.2
              exact AllReadyIn.nil
            exact AllReadyIn.nil
          exact AllReadyIn.nil
        exact AllReadyIn.nil
      exact AllReadyIn.nil
    refine AllReadyIn.cons rfl (fun K hK => ?_) ?_
    · go_simp
      refine hK _ _ ?_
      clear hK K
      refine wpAnyIn_ready (rs := [0, 2]) (by kernel_rfl) (by simp) ?_
      refine AllReadyIn.cons rfl (fun K hK => ?_) ?_
      · go_simp
        refine hK _ _ ?_
        clear hK K
        refine wpAnyIn_ready (rs := [2]) (by kernel_rfl) (by simp) ?_
        refine AllReadyIn.cons rfl (fun K hK => ?_) ?_
        · go_simp
          refine ⟨trivial, (CallsIn.inRound l2 (callsIn_wide.2 (HC.out _ (Below.refl _ _).drew))).mono ?_⟩
          rintro e w3 ⟨A6, c6, rfl, ho, hb4⟩
          have HQ := Lib.hid (rec_step (x := x) (Nat.le_refl _) HI.out HN.out ho hb4)
          obtain ⟨A5, n5, c5, w5, hrun, hfin⟩ := HQ.out
          have HRUN := Lib.hid hrun
          have HFIN := Lib.hid hfin
          have d2 : w3.cell? ⟨w.heap.size, 0, none⟩ = some v := (hb4.cell (p := ⟨w.heap.size, 0, none⟩) hlw).trans d1
          have d3 : (w3.alloc (.cells #[.slice A6 x.2.n c6] 32)).cell? ⟨w.heap.size, 0, none⟩ = some v := Lib.cell?_alloc_some _ d2
          have d5 := hfin.1.cell
          have f5 := hfin.1.frozen
          clear ho hb4 hrun hfin
          refine hK _ _ ?_
          clear hK K
          refine wpAnyIn_ready (rs := [3]) (by kernel_rfl) (by simp) ?_
          refine AllReadyIn.cons rfl (fun K hK => ?_) ?_
          · go_simp
            refine hK _ _ ?_
            clear hK K
            refine wpAnyIn_ready (rs := [4]) (by kernel_rfl) (by simp) ?_
            refine AllReadyIn.cons rfl (fun K hK => ?_) ?_
            · refine stepIn_app rfl _ _ 31 rfl v (.slice (some ⟨w3.heap.size, 0, none⟩) 1 1) rfl rfl (.slice A5 n5 c5) w5 HRUN.out ?_
              refine hK _ _ ?_
              clear hK K
              refine wpAnyIn_ready (rs := [5]) (by kernel_rfl) (by simp) ?_
              refine AllReadyIn.cons rfl (fun K hK => ?_) ?_
              · go_simp
                refine hK _ _ ?_
                clear hK K
                refine wpAnyIn_done (by kernel_rfl) ?_ _
                exact HFIN.out.2
              exact AllReadyIn.nil
            exact AllReadyIn.nil
          exact AllReadyIn.nil
        exact AllReadyIn.nil
      refine AllReadyIn.cons rfl (fun K hK => ?_) ?_
      · go_simp
        refine ⟨trivial, (CallsIn.inRound l2 (callsIn_wide.2 (HC.out _ (Below.refl _ _).drew))).mono ?_⟩
        rintro e w3 ⟨A6, c6, rfl, ho, hb4⟩
        have HQ := Lib.hid (rec_step (x := x) (Nat.le_refl _) HI.out HN.out ho hb4)
        obtain ⟨A5, n5, c5, w5, hrun, hfin⟩ := HQ.out
        have HRUN := Lib.hid hrun
        have HFIN := Lib.hid hfin
        have d2 : w3.cell? ⟨w.heap.size, 0, none⟩ = some v := (hb4.cell (p := ⟨w.heap.size, 0, none⟩) hlw).trans d1
        have d3 : (w3.alloc (.cells #[.slice A6 x.2.n c6] 32)).cell? ⟨w.heap.size, 0, none⟩ = some v := Lib.cell?_alloc_some _ d2
        have d5 := hfin.1.cell
        have f5 := hfin.1.frozen
        clear ho hb4 hrun hfin
        refine hK _ _ ?_
        clear hK K
        refine wpAnyIn_ready (rs := [0, 3]) (by kernel_rfl) (by simp) ?_
        refine AllReadyIn.cons rfl (fun K hK => ?_) ?_
        · go_simp
          refine hK _ _ ?_
          clear hK K
          refine wpAnyIn_ready (rs := [3]) (by kernel_rfl) (by simp) ?_
          refine AllReadyIn.cons rfl (fun K hK => ?_) ?_
          · go_simp
            refine hK _ _ ?_
            clear hK K
            refine wpAnyIn_ready (rs := [4]) (by kernel_rfl) (by simp) ?_
            refine AllReadyIn.cons rfl (fun K hK => ?_) ?_
            · refine stepIn_app rfl _ _ 31 rfl v (.slice (some ⟨w3.heap.size, 0, none⟩) 1 1) rfl rfl (.slice A5 n5 c5) w5 HRUN.out ?_
              refine hK _ _ ?_
              clear hK K
              refine wpAnyIn_ready (rs := [5]) (by kernel_rfl) (by simp) ?_
              refine AllReadyIn.cons rfl (fun K hK => ?_) ?_
              · go_simp
                refine hK _ _ ?_
                clear hK K
                refine wpAnyIn_done (by kernel_rfl) ?_ _
                exact HFIN.out.2
              exact AllReadyIn.nil
            exact AllReadyIn.nil
          exact AllReadyIn.nil
        refine AllReadyIn.cons rfl (fun K hK => ?_) ?_
        · go_simp
          refine hK _ _ ?_
          clear hK K
          refine wpAnyIn_ready (rs := [0]) (by kernel_rfl) (by simp) ?_
          refine AllReadyIn.cons rfl (fun K hK => ?_) ?_
          · go_simp
            refine hK _ _ ?_
            clear hK K
            refine wpAnyIn_ready (rs := [4]) (by kernel_rfl) (by simp) ?_
            refine AllReadyIn.cons rfl (fun K hK => ?_) ?_
            · refine stepIn_app rfl _ _ 31 rfl v (.slice (some ⟨w3.heap.size, 0, none⟩) 1 1) rfl rfl (.slice A5 n5 c5) w5 HRUN.out ?_
              refine hK _ _ ?_
              clear hK K
              refine wpAnyIn_ready (rs := [5]) (by kernel_rfl) (by simp) ?_
              refine AllReadyIn.cons rfl (fun K hK => ?_) ?_
              · go_simp
                refine hK _ _ ?_
                clear hK K
                refine wpAnyIn_done (by kernel_rfl) ?_ _
                exact HFIN.out.2
              exact AllReadyIn.nil
            exact AllReadyIn.nil
          exact AllReadyIn.nil
        exact AllReadyIn.nil
      exact AllReadyIn.nil
    exact AllReadyIn.nil
  case done =>
    rintro D ⟨pre, v⟩ W hD hs hI hK
    have hpl : pre.length = B.length := by
      have h1 : pre = Tb.fromL xs k := hs
      rw [h1, HB.out, List.length_map, List.length_drop, ← HH.out.jr.vals.1]
      exact List.length_drop
    have x0 := hI.box.cell
    have HI := Lib.hid hI
    have HK := Lib.hid hK
    have HD := Lib.hid hD
    clear hs hI hK hD
    gi_wp2
    refine ⟨by simp, .inl ⟨_, _, rfl, run_takeDeferred HK.out, ?_⟩⟩
    refine ⟨_, results_tmp rfl _ _ _, _, rfl, ?_⟩
    have hf := (RI.from (lb := w.heap.size) (B := B) (Nat.le_refl _)).putObj (.deferred none) HI.out (by have := HD.out; omega) HK.out rfl
    refine ⟨?_, hf.bel⟩
    obtain ⟨us, h1, h2⟩ := hf.row
    have e1 : B.take ((pre, v) : List Xr × Value).1.length = B := by
      show B.take pre.length = B
      rw [hpl, List.take_length]
    rw [e1] at h1 h2
    exact ⟨us, ownsRow_base h1, fun i u b hu hb => ⟨(h2 i u b hu hb).1, fun hp a n c ha => id⟩⟩
end
end Go.Proofs.YtjijgoflbjbnfaaGreat.Jo
