/-
  The contract of slices.Insert with one row, whatever the place, and of Put. Conditions: at most a thousand rows; a table of one's own.
-/
import Derived.Test.YtganokcmcdkdgaaTInbIs
import Derived.StillTailTactics
import Derived.Deep.RegionHeld3
namespace Go.Proofs.Ytganokcmcdkdgaa.Tb.Is
open Go.RowKit

theorem own_same {w w' : World} {base : Nat} {e : TypeId} {size n : Nat} {v : Value} {xs : List Value} (h : w.ownsRow base e size v n xs) (hb : Below w.heap.size w w') : w'.ownsRow base e size v n xs :=
  h.kept (row := none) ⟨hb.os, hb.tape, hb.output, hb.size, fun i hi _ => hb.block i hi⟩ (by
    rcases hv : v.ownBlock with _ | g
    · exact .inl rfl
    · exact .inr (by simp))
theorem ins_own {base g n G : Nat} {w' : World} {C : Array Value} {l2 : List R} (hb : base ≤ g) (hg : w'.heap[g]? = some (.cells C 110 (0, 0))) (hn : l2.length = n) (hnG : n ≤ G) (hG : G ≤ maxLen) (hs : C.size = G * 2) (ht : C.toList.take (n * 2) = cells l2) :
    w'.ownsRow base 110 2 (.slice (some ⟨g, 0, none⟩) n G) l2.length (cells l2) :=
  ⟨by rw [cells_len], .inr ⟨g, G, C, by rw [hn], hb, hg, by rw [hn]; exact hnG, hG, hs, by rw [hn]; exact ht⟩⟩

set_option maxHeartbeats 4000000 in
set_option maxRecDepth 100000 in
theorem ins_end (base : Nat) (v : Value) (l : List R) (r : R) (vb : Nat) (w : World) (hown : w.ownsRow base 110 2 v l.length (cells l)) (hn : l.length ≤ 1000) (hb : w.heap[vb]? = some (.cells #[ek r.1, ev r.2] 110 (0, 0))) (hbase : base ≤ w.heap.size) :
    Calls Try.prog 53 #[v, .int .i64 l.length, .slice (some ⟨vb, 0, none⟩) 1 1] w (InsP base w v (l ++ [r]) (l.length + 1)) := by
  obtain ⟨i0, hi0, hz0, hz1, hz2⟩ := info_parts rowI
  have HO := Lib.hid hown
  have HB := Lib.hid hb
  have hfin : ∀ g cap w', w'.ownsRow base 110 2 (.slice (some ⟨g, 0, none⟩) (l.length + 1) cap) (l.length + 1) (cells l ++ [ek r.1, ev r.2]) → w.grownBy w' v.ownBlock → (v.ownBlock = some g ∨ g = w.heap.size) → InsP base w v (l ++ [r]) (l.length + 1) (.returned (.slice (some ⟨g, 0, none⟩) (l.length + 1) cap)) w' := fun g cap w' h1 h2 h3 =>
    ⟨g, cap, rfl, by rw [cells_append]; exact h1, h2, h3.imp id (fun e => by omega)⟩
  have HF := Lib.hid hfin
  rcases Go.Joins.ownsRow_forms hown with ⟨rfl, h0⟩ | ⟨g, cap, rfl⟩
  · have hl : l = [] := List.length_eq_zero_iff.1 h0
    subst hl
    clear hown hb hfin h0
    go_enter Try.func53, Try.ntmps53
    go_wp2_with (at_builtin; refine wpList_append_lies _ rfl _ _ 69 rfl base 110 i0 _ 2 24 Try.underlying69 hi0 hz0 hz1 hz2 rfl (by decide) _ _ _ rfl HO.out ⟨vb, 0, none⟩ 1 1 [ek r.1, ev r.2] rfl rfl (World.news_of_block HB.out) (cells_one [r]) (by decide) (by decide) (by decide) hbase w.heap.size rfl ?_; intro gg cp w1 hown1 hgrow hat hlt1)
    go_ret
    exact HF.out gg cp w1 hown1 hgrow hat
  · obtain ⟨n, hnl⟩ : ∃ n, n = l.length := ⟨_, rfl⟩
    have hnc : n ≤ cap ∧ cap ≤ maxLen := by
      rcases hown.2 with ⟨h, _⟩ | ⟨g', cap', cur, h', _, _, h1, h2, _⟩
      · simp at h
      · simp only [Value.slice.injEq] at h'
        obtain ⟨_, _, rfl⟩ := h'
        rw [hnl]; exact ⟨h1, h2⟩
    obtain ⟨hnc, hcm⟩ := hnc
    unfold maxLen at hcm
    rw [← hnl] at hn HO HF ⊢
    clear hown hb hfin hnl
    have e0 : ((n : Int) == (n : Int)) = true := by simp
    by_cases hcc : cap = n
    · subst hcc
      go_enter Try.func53, Try.ntmps53
      go_wp2_with (at_builtin; refine wpList_append_lies _ rfl _ _ 69 rfl base 110 i0 _ 2 24 Try.underlying69 hi0 hz0 hz1 hz2 rfl (by decide) _ _ _ rfl HO.out ⟨vb, 0, none⟩ 1 1 [ek r.1, ev r.2] rfl rfl (World.news_of_block HB.out) (cells_one [r]) (by decide) (by unfold maxLen; omega) (by omega) hbase w.heap.size rfl ?_; intro gg cp w1 hown1 hgrow hat hlt1)
      go_ret
      exact HF.out gg cp w1 hown1 hgrow hat
    · go_enter Try.func53, Try.ntmps53
      go_wp2_with (at_builtin; refine wpList_append_lies _ rfl _ _ 69 rfl base 110 i0 _ 2 24 Try.underlying69 hi0 hz0 hz1 hz2 rfl (by decide) _ _ _ rfl HO.out ⟨vb, 0, none⟩ 1 1 [ek r.1, ev r.2] rfl rfl (World.news_of_block HB.out) (cells_one [r]) (by decide) (by unfold maxLen; omega) (by omega) hbase w.heap.size rfl ?_; intro gg cp w1 hown1 hgrow hat hlt1)
      go_ret
      exact HF.out gg cp w1 hown1 hgrow hat

/-- slices.Insert with one row, whatever the place. -/
theorem insert_any (base : Nat) (v : Value) (l : List R) (r : R) (i vb : Nat) (w : World) (hown : w.ownsRow base 110 2 v l.length (cells l)) (hi : i ≤ l.length) (hn : l.length ≤ 1000) (hb : w.heap[vb]? = some (.cells #[ek r.1, ev r.2] 110 (0, 0))) (hvb : some vb ≠ v.ownBlock) (hbase : base ≤ w.heap.size) :
    Calls Try.prog 53 #[v, .int .i64 i, .slice (some ⟨vb, 0, none⟩) 1 1] w (InsP base w v (l.take i ++ r :: l.drop i) (l.length + 1)) := by
  rcases Nat.lt_or_ge i l.length with hlt | hge
  · rcases hown.2 with ⟨rfl, h0⟩ | ⟨g, cap, cur, rfl, hg, hh, hnc, hcm, hcs, ht⟩
    · omega
    have hlen : (l.take i ++ r :: l.drop i).length = l.length + 1 := by rw [List.length_append, List.length_cons, List.length_take, List.length_drop]; omega
    have hvg : vb ≠ g := fun e => hvb (by rw [e]; rfl)
    rcases Nat.lt_or_ge cap (l.length + 1) with hr | hr
    · refine (ins_grow g cap i vb l r w cur hlt hn hnc hr hh hcs ht hb).mono ?_
      rintro e w' ⟨ROW, G, rfl, h1, h2, h3, h4, rfl⟩
      have hl := ins_list l r i (by omega) ROW.toList G (by simpa using h3) h1 h4
      have n1 : (w.alloc (.cells ROW 110)).drew.heap[w.heap.size]? = some (.cells ROW 110 (0, 0)) := block_new w _
      have n2 := heap_setCells w.heap.size 110 [ek r.1, ev r.2] (i * 2) _ _ n1
      have n3 := heap_setCells w.heap.size 110 (cells (l.drop i)) ((i + 1) * 2) ((w.alloc (.cells ROW 110)).drew.setCells w.heap.size (i * 2) [ek r.1, ev r.2]).drew _ n2
      refine ⟨w.heap.size, G, rfl, by have := ins_own (l2 := l.take i ++ r :: l.drop i) hbase n3 hlen h1 h2 (by simpa using hl.2.1) (by simpa using hl.1); rwa [hlen] at this, ?_, .inr (Nat.le_refl _)⟩
      have k1 := grownBy_setCells w.heap.size [ek r.1, ev r.2] (i * 2) (w.alloc (.cells ROW 110)).drew
      have k2 := grownBy_setCells w.heap.size (cells (l.drop i)) ((i + 1) * 2) ((w.alloc (.cells ROW 110)).drew.setCells w.heap.size (i * 2) [ek r.1, ev r.2]).drew
      have hb1 : Below w.heap.size w (w.alloc (.cells ROW 110)).drew := ((Below.refl _ _).alloc (Nat.le_refl _) _).drew
      have hb2 : Below w.heap.size w ((w.alloc (.cells ROW 110)).drew.setCells w.heap.size (i * 2) [ek r.1, ev r.2]).drew := (hb1.grown k1 hb1.size (fun k e => by cases e; exact Nat.le_refl _)).drew
      exact grownBy_of_below _ (hb2.grown k2 hb2.size (fun k e => by cases e; exact Nat.le_refl _))
    · refine (ins_shift g cap i vb l r w cur hlt hn hr (by unfold maxLen at hcm; omega) hvg hh hcs ht hb).mono ?_
      rintro e w' ⟨rfl, rfl⟩
      have htk : cur.toList.take (i * 2) = cells (l.take i) := by
        have : cells l = cells (l.take i) ++ cells (l.drop i) := by rw [← cells_append, List.take_append_drop]
        have h2 := congrArg (List.take (i * 2)) ht
        rw [List.take_take, Nat.min_eq_left (by omega), this, List.take_left' (by rw [cells_len, List.length_take]; omega)] at h2
        exact h2
      have hl := ins_list l r i (by omega) cur.toList cap (by simpa using hcs) hr htk
      have n2 := heap_setCells g 110 (cells (l.drop i)) ((i + 1) * 2) w.drew _ hh
      have n3 := heap_setCells g 110 [ek r.1, ev r.2] (i * 2) (w.drew.setCells g ((i + 1) * 2) (cells (l.drop i))) _ n2
      refine ⟨g, cap, rfl, by have := ins_own (l2 := l.take i ++ r :: l.drop i) hg n3 hlen hr hcm (by simpa using hl.2.2.2) (by simpa using hl.2.2.1); rwa [hlen] at this, ?_, .inl rfl⟩
      exact grownBy_trans (grownBy_trans (grownBy_drew w _) (grownBy_setCells g _ _ _)) (grownBy_setCells g _ _ _)
  · obtain rfl : i = l.length := by omega
    rw [List.take_of_length_le (Nat.le_refl _), List.drop_of_length_le (Nat.le_refl _)]
    exact ins_end base v l r vb w hown hn hb hbase

/-- A table of one's own, with its slice. -/
def TabV (base : Nat) (w : World) (b : Nat) (v : Value) (rs : List R) : Prop := base ≤ b ∧ Boxed w b 71 v ∧ w.ownsRow base 110 2 v rs.length (cells rs)
/-- Its blocks. -/
def OwnS (b : Nat) (v : Value) : Nat → Prop := fun x => x = b ∨ v.ownBlock = some x
theorem TabV.kept {base : Nat} {w w' : World} {b : Nat} {v : Value} {rs : List R} {S : Nat → Prop} (h : TabV base w b v rs) (hk : Kept S w w') (hb : ¬ S b) (hv : ∀ g, v.ownBlock = some g → ¬ S g) : TabV base w' b v rs := by
  obtain ⟨h1, h2, h3, h4⟩ := h
  refine ⟨h1, hk.heap h2 hb, h3, ?_⟩
  rcases h4 with h4 | ⟨g, cap, cur, rfl, hg, hh, h5⟩
  · exact .inl h4
  · exact .inr ⟨g, cap, cur, rfl, hg, hk.heap hh (hv g rfl), h5⟩
theorem TabV.below {base : Nat} {w w' : World} {b : Nat} {v : Value} {rs : List R} (h : TabV base w b v rs) (hb : Below w.heap.size w w') : TabV base w' b v rs :=
  h.kept (Kept.of_below (S := fun _ => False) hb) (fun h => h) (fun _ _ h => h)
/-- What a change of a table leaves. -/
def Changed (base : Nat) (w : World) (b : Nat) (v : Value) (rs : List R) (w' : World) : Prop :=
  ∃ v', TabV base w' b v' rs ∧ Kept (OwnS b v) w w' ∧ (v'.ownBlock = v.ownBlock ∨ ∃ g, v'.ownBlock = some g ∧ w.heap.size ≤ g)
theorem putL_not (l : List R) (k : K) (v : V) (h : hasB l k = false) : putL l k v = l.take (pl l k) ++ (k, v) :: l.drop (pl l k) := by
  unfold putL
  rw [if_neg (by rw [h]; decide), Nat.add_zero]
theorem putL_has (l : List R) (k : K) (v : V) (h : hasB l k = true) : putL l k v = l.take (pl l k) ++ (k, v) :: l.drop (pl l k + 1) := by
  unfold putL
  rw [if_pos h]

theorem cells_put (l : List R) (p : Nat) (r : R) (hp : p < l.length) : ((cells l).set (p * 2) (ek r.1)).set (p * 2 + 1) (ev r.2) = cells (l.take p ++ r :: l.drop (p + 1)) := by
  have e : l = l.take p ++ l[p] :: l.drop (p + 1) := by rw [← List.drop_eq_getElem_cons hp, List.take_append_drop]
  have htl : (cells (l.take p)).length = p * 2 := by rw [cells_len, List.length_take]; omega
  conv => lhs; rw [e]
  rw [cells_append, cells_append, cells_cons, cells_cons, List.set_append_right _ _ (by omega), htl, Nat.sub_self, List.set_cons_zero, List.set_append_right _ _ (by omega), htl, show p * 2 + 1 - p * 2 = 1 by omega]
  rfl
end Go.Proofs.Ytganokcmcdkdgaa.Tb.Is
