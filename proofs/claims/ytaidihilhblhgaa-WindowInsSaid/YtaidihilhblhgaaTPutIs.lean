/-
  The contract of slices.Insert with one row, whatever the place, and of Put. Conditions: at most a thousand rows; a table of one's own.
-/
import Derived.Test.YtaidihilhblhgaaTInbIs
import Derived.StillTailTactics
import Derived.Deep.RegionHeld3
namespace Go.Proofs.Ytaidihilhblhgaa.Tb.Is
open Go.RowKit

theorem own_same {w w' : World} {base : Nat} {e : TypeId} {size n : Nat} {v : Value} {xs : List Value} (h : w.ownsRow base e size v n xs) (hb : Below w.heap.size w w') : w'.ownsRow base e size v n xs :=
  h.kept (row := none) ⟨hb.os, hb.tape, hb.output, hb.size, fun i hi _ => hb.block i hi⟩ (by
    rcases hv : v.ownBlock with _ | g
    · exact .inl rfl
    · exact .inr (by simp))
theorem ins_own {base g n G : Nat} {w' : World} {C : Array Value} {l2 : List R} (hb : base ≤ g) (hg : w'.heap[g]? = some (.cells C 105 (0, 0))) (hn : l2.length = n) (hnG : n ≤ G) (hG : G ≤ maxLen) (hs : C.size = G * 2) (ht : C.toList.take (n * 2) = cells l2) :
    w'.ownsRow base 105 2 (.slice (some ⟨g, 0, none⟩) n G) l2.length (cells l2) :=
  ⟨by rw [cells_len], .inr ⟨g, G, C, by rw [hn], hb, hg, by rw [hn]; exact hnG, hG, hs, by rw [hn]; exact ht⟩⟩

set_option maxHeartbeats 4000000 in
set_option maxRecDepth 100000 in
theorem ins_end (base : Nat) (v : Value) (l : List R) (r : R) (vb : Nat) (w : World) (hown : w.ownsRow base 105 2 v l.length (cells l)) (hn : l.length ≤ 1000) (hb : w.heap[vb]? = some (.cells #[ek r.1, ev r.2] 105 (0, 0))) (hbase : base ≤ w.heap.size) :
    Calls Try.prog 59 #[v, .int .i64 l.length, .slice (some ⟨vb, 0, none⟩) 1 1] w (InsP base w v (l ++ [r]) (l.length + 1)) := by
  obtain ⟨i0, hi0, hz0, hz1, hz2⟩ := info_parts rowI
  have HO := Lib.hid hown
  have HB := Lib.hid hb
  have hfin : ∀ g cap w', w'.ownsRow base 105 2 (.slice (some ⟨g, 0, none⟩) (l.length + 1) cap) (l.length + 1) (cells l ++ [ek r.1, ev r.2]) → w.grownBy w' v.ownBlock → (v.ownBlock = some g ∨ g = w.heap.size) → InsP base w v (l ++ [r]) (l.length + 1) (.returned (.slice (some ⟨g, 0, none⟩) (l.length + 1) cap)) w' := fun g cap w' h1 h2 h3 =>
    ⟨g, cap, rfl, by rw [cells_append]; exact h1, h2, h3.imp id (fun e => by omega)⟩
  have HF := Lib.hid hfin
  rcases Go.Joins.ownsRow_forms hown with ⟨rfl, h0⟩ | ⟨g, cap, rfl⟩
  · have hl : l = [] := List.length_eq_zero_iff.1 h0
    subst hl
    clear hown hb hfin h0
    go_enter Try.func59, Try.ntmps59
    go_wp2_with (at_builtin; refine wpList_append_lies _ rfl _ _ 73 rfl base 105 i0 _ 2 24 Try.underlying73 hi0 hz0 hz1 hz2 rfl (by decide) _ _ _ rfl HO.out ⟨vb, 0, none⟩ 1 1 [ek r.1, ev r.2] rfl rfl (World.news_of_block HB.out) (cells_one [r]) (by decide) (by decide) (by decide) hbase w.heap.size rfl ?_; intro gg cp w1 hown1 hgrow hat hlt1)
    go_ret
    exact HF.out gg cp w1 hown1 hgrow hat
  · obtain ⟨n, hnl⟩ : ∃ n, n = l.length := ⟨_, rfl⟩
    have hnc : n ≤ cap ∧ cap ≤ maxLen := by
      rcases hown.2 with ⟨h, _⟩ | ⟨g', cap', cur, h', _, _, h1, h2, _⟩
      · simp at h
      · simp only [Value.slice.injEq] at h'
        obtain ⟨_, _, rfl⟩ := h'
        rw [hnl]; exact ⟨h1, h2⟩
    obtain ⟨hnc, hcm⟩ := hnc
    unfold maxLen at hcm
    rw [← hnl] at hn HO HF ⊢
    clear hown hb hfin hnl
    have e0 : ((n : Int) == (n : Int)) = true := by simp
    by_cases hcc : cap = n
    · subst hcc
      go_enter Try.func59, Try.ntmps59
      go_wp2_with (at_builtin; refine wpList_append_lies _ rfl _ _ 73 rfl base 105 i0 _ 2 24 Try.underlying73 hi0 hz0 hz1 hz2 rfl (by decide) _ _ _ rfl HO.out ⟨vb, 0, none⟩ 1 1 [ek r.1, ev r.2] rfl rfl (World.news_of_block HB.out) (cells_one [r]) (by decide) (by unfold maxLen; omega) (by omega) hbase w.heap.size rfl ?_; intro gg cp w1 hown1 hgrow hat hlt1)
      go_ret
      exact HF.out gg cp w1 hown1 hgrow hat
    · go_enter Try.func59, Try.ntmps59
      go_wp2_with (at_builtin; refine wpList_append_lies _ rfl _ _ 73 rfl base 105 i0 _ 2 24 Try.underlying73 hi0 hz0 hz1 hz2 rfl (by decide) _ _ _ rfl HO.out ⟨vb, 0, none⟩ 1 1 [ek r.1, ev r.2] rfl rfl (World.news_of_block HB.out) (cells_one [r]) (by decide) (by unfold maxLen; omega) (by omega) hbase w.heap.size rfl ?_; intro gg cp w1 hown1 hgrow hat hlt1)
      go_ret
      exact HF.out gg cp w1 hown1 hgrow hat

/-- slices.Insert with one row, whatever the place. -/
theorem insert_any (base : Nat) (v : Value) (l : List R) (r : R) (i vb : Nat) (w : World) (hown : w.ownsRow base 105 2 v l.length (cells l)) (hi : i ≤ l.length) (hn : l.length ≤ 1000) (hb : w.heap[vb]? = some (.cells #[ek r.1, ev r.2] 105 (0, 0))) (hvb : some vb ≠ v.ownBlock) (hbase : base ≤ w.heap.size) :
    Calls Try.prog 59 #[v, .int .i64 i, .slice (some ⟨vb, 0, none⟩) 1 1] w (InsP base w v (l.take i ++ r :: l.drop i) (l.length + 1)) := by
  rcases Nat.lt_or_ge i l.length with hlt | hge
  · rcases hown.2 with ⟨rfl, h0⟩ | ⟨g, cap, cur, rfl, hg, hh, hnc, hcm, hcs, ht⟩
    · omega
    have hlen : (l.take i ++ r :: l.drop i).length = l.length + 1 := by rw [List.length_append, List.length_cons, List.length_take, List.length_drop]; omega
    have hvg : vb ≠ g := fun e => hvb (by rw [e]; rfl)
    rcases Nat.lt_or_ge cap (l.length + 1) with hr | hr
    · refine (ins_grow g cap i vb l r w cur hlt hn hnc hr hh hcs ht hb).mono ?_
      rintro e w' ⟨ROW, G, rfl, h1, h2, h3, h4, rfl⟩
      have hl := ins_list l r i (by omega) ROW.toList G (by simpa using h3) h1 h4
      have n1 : (w.alloc (.cells ROW 105)).drew.heap[w.heap.size]? = some (.cells ROW 105 (0, 0)) := block_new w _
      have n2 := heap_setCells w.heap.size 105 [ek r.1, ev r.2] (i * 2) _ _ n1
      have n3 := heap_setCells w.heap.size 105 (cells (l.drop i)) ((i + 1) * 2) ((w.alloc (.cells ROW 105)).drew.setCells w.heap.size (i * 2) [ek r.1, ev r.2]).drew _ n2
      refine ⟨w.heap.size, G, rfl, by have := ins_own (l2 := l.take i ++ r :: l.drop i) hbase n3 hlen h1 h2 (by simpa using hl.2.1) (by simpa using hl.1); rwa [hlen] at this, ?_, .inr (Nat.le_refl _)⟩
      have k1 := grownBy_setCells w.heap.size [ek r.1, ev r.2] (i * 2) (w.alloc (.cells ROW 105)).drew
      have k2 := grownBy_setCells w.heap.size (cells (l.drop i)) ((i + 1) * 2) ((w.alloc (.cells ROW 105)).drew.setCells w.heap.size (i * 2) [ek r.1, ev r.2]).drew
      have hb1 : Below w.heap.size w (w.alloc (.cells ROW 105)).drew := ((Below.refl _ _).alloc (Nat.le_refl _) _).drew
      have hb2 : Below w.heap.size w ((w.alloc (.cells ROW 105)).drew.setCells w.heap.size (i * 2) [ek r.1, ev r.2]).drew := (hb1.grown k1 hb1.size (fun k e => by cases e; exact Nat.le_refl _)).drew
      exact grownBy_of_below _ (hb2.grown k2 hb2.size (fun k e => by cases e; exact Nat.le_refl _))
    · refine (ins_shift g cap i vb l r w cur hlt hn hr (by unfold maxLen at hcm; omega) hvg hh hcs ht hb).mono ?_
      rintro e w' ⟨rfl, rfl⟩
      have htk : cur.toList.take (i * 2) = cells (l.take i) := by
        have : cells l = cells (l.take i) ++ cells (l.drop i) := by rw [← cells_append, List.take_append_drop]
        have h2 := congrArg (List.take (i * 2)) ht
        rw [List.take_take, Nat.min_eq_left (by omega), this, List.take_left' (by rw [cells_len, List.length_take]; omega)] at h2
        exact h2
      have hl := ins_list l r i (by omega) cur.toList cap (by simpa using hcs) hr htk
      have n2 := heap_setCells g 105 (cells (l.drop i)) ((i + 1) * 2) w.drew _ hh
      have n3 := heap_setCells g 105 [ek r.1, ev r.2] (i * 2) (w.drew.setCells g ((i + 1) * 2) (cells (l.drop i))) _ n2
      refine ⟨g, cap, rfl, by have := ins_own (l2 := l.take i ++ r :: l.drop i) hg n3 hlen hr hcm (by simpa using hl.2.2.2) (by simpa using hl.2.2.1); rwa [hlen] at this, ?_, .inl rfl⟩
      exact grownBy_trans (grownBy_trans (grownBy_drew w _) (grownBy_setCells g _ _ _)) (grownBy_setCells g _ _ _)
  · obtain rfl : i = l.length := by omega
    rw [List.take_of_length_le (Nat.le_refl _), List.drop_of_length_le (Nat.le_refl _)]
    exact ins_end base v l r vb w hown hn hb hbase

/-- A table of one's own, with its slice. -/
def TabV (base : Nat) (w : World) (b : Nat) (v : Value) (rs : List R) : Prop := base ≤ b ∧ Boxed w b 75 v ∧ w.ownsRow base 105 2 v rs.length (cells rs)
/-- Its blocks. -/
def OwnS (b : Nat) (v : Value) : Nat → Prop := fun x => x = b ∨ v.ownBlock = some x
theorem TabV.read {base : Nat} {w : World} {b : Nat} {v : Value} {rs : List R} (h : TabV base w b v rs) : TabR w (some ⟨b, 0, none⟩) rs := .inr ⟨b, v, rfl, h.2.1.lt, h.2.1.cell, RowsR.of_own h.2.2⟩
theorem TabV.kept {base : Nat} {w w' : World} {b : Nat} {v : Value} {rs : List R} {S : Nat → Prop} (h : TabV base w b v rs) (hk : Kept S w w') (hb : ¬ S b) (hv : ∀ g, v.ownBlock = some g → ¬ S g) : TabV base w' b v rs := by
  obtain ⟨h1, h2, h3, h4⟩ := h
  refine ⟨h1, hk.heap h2 hb, h3, ?_⟩
  rcases h4 with h4 | ⟨g, cap, cur, rfl, hg, hh, h5⟩
  · exact .inl h4
  · exact .inr ⟨g, cap, cur, rfl, hg, hk.heap hh (hv g rfl), h5⟩
theorem TabV.below {base : Nat} {w w' : World} {b : Nat} {v : Value} {rs : List R} (h : TabV base w b v rs) (hb : Below w.heap.size w w') : TabV base w' b v rs :=
  h.kept (Kept.of_below (S := fun _ => False) hb) (fun h => h) (fun _ _ h => h)
/-- What a change of a table leaves. -/
def Changed (base : Nat) (w : World) (b : Nat) (v : Value) (rs : List R) (w' : World) : Prop :=
  ∃ v', TabV base w' b v' rs ∧ Kept (OwnS b v) w w' ∧ (v'.ownBlock = v.ownBlock ∨ ∃ g, v'.ownBlock = some g ∧ w.heap.size ≤ g)
theorem putL_not (l : List R) (k : K) (v : V) (h : hasB l k = false) : putL l k v = l.take (pl l k) ++ (k, v) :: l.drop (pl l k) := by
  unfold putL
  rw [if_neg (by rw [h]; decide), Nat.add_zero]
theorem putL_has (l : List R) (k : K) (v : V) (h : hasB l k = true) : putL l k v = l.take (pl l k) ++ (k, v) :: l.drop (pl l k + 1) := by
  unfold putL
  rw [if_pos h]

theorem cells_put (l : List R) (p : Nat) (r : R) (hp : p < l.length) : ((cells l).set (p * 2) (ek r.1)).set (p * 2 + 1) (ev r.2) = cells (l.take p ++ r :: l.drop (p + 1)) := by
  have e : l = l.take p ++ l[p] :: l.drop (p + 1) := by rw [← List.drop_eq_getElem_cons hp, List.take_append_drop]
  have htl : (cells (l.take p)).length = p * 2 := by rw [cells_len, List.length_take]; omega
  conv => lhs; rw [e]
  rw [cells_append, cells_append, cells_cons, cells_cons, List.set_append_right _ _ (by omega), htl, Nat.sub_self, List.set_cons_zero, List.set_append_right _ _ (by omega), htl, show p * 2 + 1 - p * 2 = 1 by omega]
  rfl
set_option maxHeartbeats 4000000 in
set_option maxRecDepth 100000 in
theorem put_any (base : Nat) (w : World) (b : Nat) (sv : Value) (l : List R) (k : K) (v : V) (hT : TabV base w b sv l) (ha : asc l) (hn : l.length ≤ 1000) (hbase : base ≤ w.heap.size) :
    Calls Try.prog 49 #[.pointer (some ⟨b, 0, none⟩), Value.int .i64 k, Value.string v] w fun e w' => e = .returned (.bool (!hasB l k)) ∧ Changed base w b sv (putL l k v) w' := by
  have HT := Lib.hid hT
  have hlt := hT.2.1.lt
  have hp := pl_le l k
  have b0 : Below w.heap.size w (w.alloc (.cells #[Value.int .i64 k, Value.string v] 105)) := (Below.refl _ _).alloc (Nat.le_refl _) _
  have hf := find_any (w.alloc (.cells #[Value.int .i64 k, Value.string v] 105)) (some ⟨b, 0, none⟩) l k (hT.read.below b0) ha hn
  have B0 := Lib.hid b0
  clear b0
  cases hh : hasB l k
  · rw [hh] at hf
    have HF := Lib.hid hf
    have HP := Lib.hid (putL_not l k v hh)
    obtain ⟨p, hpp⟩ : ∃ p, p = pl l k := ⟨_, rfl⟩
    rw [← hpp] at HF HP hp
    clear hf hh ha hT hpp
    go_enter Try.func49, Try.ntmps49
    go_wp2_with (go_at_call 58; refine HF.out.mono ?_; rintro e w1 ⟨rfl, hb1⟩; have HB1 := Lib.hid hb1; clear hb1)
    have z1 := HB1.out.size
    have z0 := B0.out.size
    have T1 := Lib.hid ((HT.out.below B0.out).below HB1.out)
    have c1 := T1.out.2.1.cell
    have l1 := T1.out.2.1.lt
    have b1 := block_kept (block_new w (.cells #[Value.int .i64 k, Value.string v] 105)) HB1.out
    have r1 : w1.cell? ⟨w.heap.size, 0, none⟩ = some (Value.int .i64 k) := by simp [World.cell?, b1]
    have r2 : w1.cell? ⟨w.heap.size, 1, none⟩ = some (Value.string v) := by simp [World.cell?, b1]
    have l2 : w.heap.size < w1.heap.size := (Array.getElem?_eq_some_iff.1 b1).1
    have HI : Hid (Calls Try.prog 59 #[sv, .int .i64 p, .slice (some ⟨w1.heap.size, 0, none⟩) 1 1] (w1.alloc (.cells #[Value.int .i64 k, Value.string v] 105)).drew (InsP base (w1.alloc (.cells #[Value.int .i64 k, Value.string v] 105)).drew sv (l.take p ++ (k, v) :: l.drop p) (l.length + 1))) :=
      insert_any base sv l (k, v) p w1.heap.size _ ((T1.out.2.2.alloc _).drew) hp hn (block_new w1 _) (fun e => by have := (T1.out.2.2.lt _ e.symm).2; omega) (by show base ≤ (w1.alloc _).heap.size; simp; omega)
    have HOB : Hid (∀ w2, (w1.alloc (.cells #[Value.int .i64 k, Value.string v] 105)).drew.grownBy w2 sv.ownBlock → Boxed w2 b 75 sv) := fun w2 hg => by
      have hb2 : Boxed (w1.alloc (.cells #[Value.int .i64 k, Value.string v] 105)).drew b 75 sv := T1.out.2.1.alloc _
      exact hb2.kept hg (T1.out.2.1.not_row (by decide) T1.out.2.2)
    have HFIN : Hid (∀ w2 g cap, InsP base (w1.alloc (.cells #[Value.int .i64 k, Value.string v] 105)).drew sv (l.take p ++ (k, v) :: l.drop p) (l.length + 1) (.returned (.slice (some ⟨g, 0, none⟩) (l.length + 1) cap)) w2 →
        Changed base w b sv (putL l k v) (w2.setCell ⟨b, 0, none⟩ (.slice (some ⟨g, 0, none⟩) (l.length + 1) cap))) := fun w2 g cap hI => by
      obtain ⟨g', cap', he, ho, hg, ha⟩ := hI
      simp only [Ending.returned.injEq, Value.slice.injEq, Option.some.injEq, Addr.mk.injEq, and_true, true_and] at he
      obtain ⟨rfl, rfl⟩ := he
      have hbx := HOB.out w2 hg
      have hlen : (l.take p ++ (k, v) :: l.drop p).length = l.length + 1 := by rw [List.length_append, List.length_cons, List.length_take, List.length_drop]; omega
      rw [HP.out]
      have k01 : Kept (OwnS b sv) w (w1.alloc (.cells #[Value.int .i64 k, Value.string v] 105)).drew := ((Kept.of_below (B0.out.trans (HB1.out.mono (by omega)))).trans (Kept.of_alloc _ _ _)).drew
      have k12 : Kept (OwnS b sv) w w2 := k01.trans' (Kept.of_grown hg) (fun i _ e => .inr e)
      refine ⟨_, ⟨HT.out.1, hbx.set _, by rw [hlen]; exact ho.kept (grownBy_setCell' w2 b _) (.inr (hbx.not_row (by decide) ho).symm)⟩, k12.trans' (Kept.of_set w2 ⟨b, 0, none⟩ _) (fun i _ e => .inl e), ?_⟩
      rcases ha with ha | ha
      · exact .inl ha.symm
      · exact .inr ⟨g, rfl, by simp at ha; omega⟩
    clear B0 b1 z1 z0 HF
    go_region_law ((go_simp; go_at_call 59; refine HI.out.mono ?_; rintro e w2 ⟨g, cap, rfl, hi⟩; have HI2 := Lib.hid hi; clear hi; have c2 := (HOB.out w2 HI2.out.2.1).cell; have f2 := (HOB.out w2 HI2.out.2.1).frozen))
    all_goals
      have FIN := Lib.hid (HFIN.out w2 g cap ⟨g, cap, rfl, HI2.out⟩)
      clear HFIN HI2 HOB HI
      go_wp2
      go_ret
      exact ⟨rfl, FIN.out⟩
  · rw [hh] at hf
    have hpl := (has_lt l k hh).1
    have HF := Lib.hid hf
    have HP := Lib.hid (putL_has l k v hh)
    obtain ⟨p, hpp⟩ : ∃ p, p = pl l k := ⟨_, rfl⟩
    rw [← hpp] at HF HP hpl
    obtain ⟨g, cap, rfl⟩ := Go.Joins.ownsRow_form hT.2.2 (by omega)
    have hglt := (hT.2.2.lt g rfl).2
    clear hf hh ha hT hpp hp
    go_enter Try.func49, Try.ntmps49
    go_wp2_with (go_at_call 58; refine HF.out.mono ?_; rintro e w1 ⟨rfl, hb1⟩; have HB1 := Lib.hid hb1; clear hb1)
    have z1 := HB1.out.size
    have z0 := B0.out.size
    have T1 := Lib.hid ((HT.out.below B0.out).below HB1.out)
    have b1 := block_kept (block_new w (.cells #[Value.int .i64 k, Value.string v] 105)) HB1.out
    have r1 : w1.cell? ⟨w.heap.size, 0, none⟩ = some (Value.int .i64 k) := by simp [World.cell?, b1]
    have r2 : w1.cell? ⟨w.heap.size, 1, none⟩ = some (Value.string v) := by simp [World.cell?, b1]
    have c1 := T1.out.2.1.cell
    have hcg := cells_get l p _ (List.getElem?_eq_getElem hpl)
    have q1 : w1.cell? ⟨g, p * 2, none⟩ = some (Value.int .i64 (l[p]'hpl).1) := (T1.out.2.2.cellAt (p * 2) (by omega)).trans hcg.1
    have q2 : w1.cell? ⟨g, p * 2 + 1, none⟩ = some (Value.string (l[p]'hpl).2) := (T1.out.2.2.cellAt (p * 2 + 1) (by omega)).trans hcg.2
    have q3 : w1.frozen? ⟨g, p * 2, none⟩ = false := T1.out.2.2.frozenAt _
    have q4 : w1.frozen? ⟨g, p * 2 + 1, none⟩ = false := T1.out.2.2.frozenAt _
    have q5 : (p : Int) < (l.length : Int) := by omega
    have q6 : (0 : Int) ≤ (p : Int) := by omega
    have HFIN : Hid (Changed base w b (.slice (some ⟨g, 0, none⟩) l.length cap) (putL l k v) ((w1.drew.setCell ⟨g, p * 2, none⟩ (Value.int .i64 k)).setCell ⟨g, p * 2 + 1, none⟩ (Value.string v))) := by
      have o1 := T1.out.2.2.drew.stored (p * 2) (ek k)
      have o2 := o1.1.stored (p * 2 + 1) (ev v)
      rw [cells_put l p (k, v) hpl] at o2
      have hbx : Boxed w1.drew b 75 (.slice (some ⟨g, 0, none⟩) l.length cap) := T1.out.2.1
      have hbg : some b ≠ some g := T1.out.2.1.not_row (by decide) T1.out.2.2
      have hlen : (l.take p ++ (k, v) :: l.drop (p + 1)).length = l.length := by rw [List.length_append, List.length_cons, List.length_take, List.length_drop]; omega
      rw [HP.out]
      have k0 : Kept (OwnS b (.slice (some ⟨g, 0, none⟩) l.length cap)) w w1.drew := (Kept.of_below (B0.out.trans (HB1.out.mono (by omega)))).drew
      refine ⟨_, ⟨HT.out.1, (hbx.kept o1.2 hbg).kept o2.2 hbg, by rw [hlen]; exact o2.1⟩, (k0.trans' (Kept.of_grown o1.2) (fun i _ e => .inr e)).trans' (Kept.of_grown o2.2) (fun i _ e => .inr e), .inl rfl⟩
    clear HF B0 hcg b1 z1 z0
    go_still_tail 7, (by kernel_rfl)
    change wpList _ _ _ _ _ w1.drew
    go_wp2
    go_ret
    exact ⟨rfl, HFIN.out⟩
end Go.Proofs.Ytaidihilhblhgaa.Tb.Is
