/-
  The contract of slices.Insert with one row, whatever the place. Conditions: at most a thousand rows; a table of one's own.
-/
import Derived.Test.YtkoihpfgleboiaaRInbSu
import Derived.StillTailTactics
import Derived.Deep.RegionHeld3
namespace Go.Proofs.Ytkoihpfgleboiaa.Tb.Su
open Go.RowKit

theorem own_same {w w' : World} {base : Nat} {e : TypeId} {size n : Nat} {v : Value} {xs : List Value} (h : w.ownsRow base e size v n xs) (hb : Below w.heap.size w w') : w'.ownsRow base e size v n xs :=
  h.kept (row := none) ⟨hb.os, hb.tape, hb.output, hb.size, fun i hi _ => hb.block i hi⟩ (by
    rcases hv : v.ownBlock with _ | g
    · exact .inl rfl
    · exact .inr (by simp))
theorem ins_own {base g n G : Nat} {w' : World} {C : Array Value} {l2 : List R} (hb : base ≤ g) (hg : w'.heap[g]? = some (.cells C 107 (0, 0))) (hn : l2.length = n) (hnG : n ≤ G) (hG : G ≤ maxLen) (hs : C.size = G) (ht : C.toList.take (n) = cells l2) :
    w'.ownsRow base 107 1 (.slice (some ⟨g, 0, none⟩) n G) l2.length (cells l2) :=
  ⟨by have := cells_len l2; omega, .inr ⟨g, G, C, by rw [hn], hb, hg, by rw [hn]; exact hnG, hG, by omega, by rw [hn]; simpa using ht⟩⟩

set_option maxHeartbeats 4000000 in
set_option maxRecDepth 100000 in
theorem ins_end (base : Nat) (v : Value) (l : List R) (r : R) (vb : Nat) (w : World) (hown : w.ownsRow base 107 1 v l.length (cells l)) (hn : l.length ≤ 1000) (hb : w.heap[vb]? = some (.cells #[ek r.1] 107 (0, 0))) (hbase : base ≤ w.heap.size) :
    Calls Try.prog 67 #[v, .int .i64 l.length, .slice (some ⟨vb, 0, none⟩) 1 1] w (InsP base w v (l ++ [r]) (l.length + 1)) := by
  obtain ⟨i0, hi0, hz0, hz1, hz2⟩ := info_parts rowI
  have HO := Lib.hid hown
  have HB := Lib.hid hb
  have hfin : ∀ g cap w', w'.ownsRow base 107 1 (.slice (some ⟨g, 0, none⟩) (l.length + 1) cap) (l.length + 1) (cells l ++ [ek r.1]) → w.grownBy w' v.ownBlock → (v.ownBlock = some g ∨ g = w.heap.size) → InsP base w v (l ++ [r]) (l.length + 1) (.returned (.slice (some ⟨g, 0, none⟩) (l.length + 1) cap)) w' := fun g cap w' h1 h2 h3 =>
    ⟨g, cap, rfl, by rw [cells_append]; exact h1, h2, h3.imp id (fun e => by omega)⟩
  have HF := Lib.hid hfin
  rcases Go.Joins.ownsRow_forms hown with ⟨rfl, h0⟩ | ⟨g, cap, rfl⟩
  · have hl : l = [] := List.length_eq_zero_iff.1 h0
    subst hl
    clear hown hb hfin h0
    go_enter Try.func67, Try.ntmps67
    go_wp2_with (at_builtin; refine wpList_append_lies _ rfl _ _ 68 rfl base 107 i0 _ 1 24 Try.underlying68 hi0 hz0 hz1 hz2 rfl (by decide) _ _ _ rfl HO.out ⟨vb, 0, none⟩ 1 1 [ek r.1] rfl rfl (World.news_of_block HB.out) (cells_one [r]) (by decide) (by decide) (by decide) hbase w.heap.size rfl ?_; intro gg cp w1 hown1 hgrow hat hlt1)
    go_ret
    exact HF.out gg cp w1 hown1 hgrow hat
  · obtain ⟨n, hnl⟩ : ∃ n, n = l.length := ⟨_, rfl⟩
    have hnc : n ≤ cap ∧ cap ≤ maxLen := by
      rcases hown.2 with ⟨h, _⟩ | ⟨g', cap', cur, h', _, _, h1, h2, _⟩
      · simp at h
      · simp only [Value.slice.injEq] at h'
        obtain ⟨_, _, rfl⟩ := h'
        rw [hnl]; exact ⟨h1, h2⟩
    obtain ⟨hnc, hcm⟩ := hnc
    unfold maxLen at hcm
    rw [← hnl] at hn HO HF ⊢
    clear hown hb hfin hnl
    have e0 : ((n : Int) == (n : Int)) = true := by simp
    by_cases hcc : cap = n
    · subst hcc
      go_enter Try.func67, Try.ntmps67
      go_wp2_with (at_builtin; refine wpList_append_lies _ rfl _ _ 68 rfl base 107 i0 _ 1 24 Try.underlying68 hi0 hz0 hz1 hz2 rfl (by decide) _ _ _ rfl HO.out ⟨vb, 0, none⟩ 1 1 [ek r.1] rfl rfl (World.news_of_block HB.out) (cells_one [r]) (by decide) (by unfold maxLen; omega) (by omega) hbase w.heap.size rfl ?_; intro gg cp w1 hown1 hgrow hat hlt1)
      go_ret
      exact HF.out gg cp w1 hown1 hgrow hat
    · go_enter Try.func67, Try.ntmps67
      go_wp2_with (at_builtin; refine wpList_append_lies _ rfl _ _ 68 rfl base 107 i0 _ 1 24 Try.underlying68 hi0 hz0 hz1 hz2 rfl (by decide) _ _ _ rfl HO.out ⟨vb, 0, none⟩ 1 1 [ek r.1] rfl rfl (World.news_of_block HB.out) (cells_one [r]) (by decide) (by unfold maxLen; omega) (by omega) hbase w.heap.size rfl ?_; intro gg cp w1 hown1 hgrow hat hlt1)
      go_ret
      exact HF.out gg cp w1 hown1 hgrow hat

/-- slices.Insert with one row, whatever the place. -/
theorem insert_any (base : Nat) (v : Value) (l : List R) (r : R) (i vb : Nat) (w : World) (hown : w.ownsRow base 107 1 v l.length (cells l)) (hi : i ≤ l.length) (hn : l.length ≤ 1000) (hb : w.heap[vb]? = some (.cells #[ek r.1] 107 (0, 0))) (hvb : some vb ≠ v.ownBlock) (hbase : base ≤ w.heap.size) :
    Calls Try.prog 67 #[v, .int .i64 i, .slice (some ⟨vb, 0, none⟩) 1 1] w (InsP base w v (l.take i ++ r :: l.drop i) (l.length + 1)) := by
  rcases Nat.lt_or_ge i l.length with hlt | hge
  · rcases hown.2 with ⟨rfl, h0⟩ | ⟨g, cap, cur, rfl, hg, hh, hnc, hcm, hcs, ht⟩
    · omega
    simp only [Nat.mul_one] at hcs ht
    have hlen : (l.take i ++ r :: l.drop i).length = l.length + 1 := by rw [List.length_append, List.length_cons, List.length_take, List.length_drop]; omega
    have hvg : vb ≠ g := fun e => hvb (by rw [e]; rfl)
    rcases Nat.lt_or_ge cap (l.length + 1) with hr | hr
    · refine (ins_grow g cap i vb l r w cur hlt hn hnc hr hh hcs ht hb).mono ?_
      rintro e w' ⟨ROW, G, rfl, h1, h2, h3, h4, rfl⟩
      have hl := ins_list l r i (by omega) ROW.toList G (by simpa using h3) h1 h4
      have n1 : (w.alloc (.cells ROW 107)).drew.heap[w.heap.size]? = some (.cells ROW 107 (0, 0)) := block_new w _
      have n2 := heap_setCells w.heap.size 107 [ek r.1] (i) _ _ n1
      have n3 := heap_setCells w.heap.size 107 (cells (l.drop i)) ((i + 1)) ((w.alloc (.cells ROW 107)).drew.setCells w.heap.size (i) [ek r.1]).drew _ n2
      refine ⟨w.heap.size, G, rfl, by have := ins_own (l2 := l.take i ++ r :: l.drop i) hbase n3 hlen h1 h2 (by simpa using hl.2.1) (by simpa using hl.1); rwa [hlen] at this, ?_, .inr (Nat.le_refl _)⟩
      have k1 := grownBy_setCells w.heap.size [ek r.1] (i) (w.alloc (.cells ROW 107)).drew
      have k2 := grownBy_setCells w.heap.size (cells (l.drop i)) ((i + 1)) ((w.alloc (.cells ROW 107)).drew.setCells w.heap.size (i) [ek r.1]).drew
      have hb1 : Below w.heap.size w (w.alloc (.cells ROW 107)).drew := ((Below.refl _ _).alloc (Nat.le_refl _) _).drew
      have hb2 : Below w.heap.size w ((w.alloc (.cells ROW 107)).drew.setCells w.heap.size (i) [ek r.1]).drew := (hb1.grown k1 hb1.size (fun k e => by cases e; exact Nat.le_refl _)).drew
      exact grownBy_of_below _ (hb2.grown k2 hb2.size (fun k e => by cases e; exact Nat.le_refl _))
    · refine (ins_shift g cap i vb l r w cur hlt hn hr (by unfold maxLen at hcm; omega) hvg hh hcs ht hb).mono ?_
      rintro e w' ⟨rfl, rfl⟩
      have htk : cur.toList.take (i) = cells (l.take i) := by
        have : cells l = cells (l.take i) ++ cells (l.drop i) := by rw [← cells_append, List.take_append_drop]
        have h2 := congrArg (List.take (i)) ht
        rw [List.take_take, Nat.min_eq_left (by omega), this, List.take_left' (by rw [cells_len, List.length_take]; omega)] at h2
        exact h2
      have hl := ins_list l r i (by omega) cur.toList cap (by simpa using hcs) hr htk
      have n2 := heap_setCells g 107 (cells (l.drop i)) ((i + 1)) w.drew _ hh
      have n3 := heap_setCells g 107 [ek r.1] (i) (w.drew.setCells g ((i + 1)) (cells (l.drop i))) _ n2
      refine ⟨g, cap, rfl, by have := ins_own (l2 := l.take i ++ r :: l.drop i) hg n3 hlen hr hcm (by simpa using hl.2.2.2) (by simpa using hl.2.2.1); rwa [hlen] at this, ?_, .inl rfl⟩
      exact grownBy_trans (grownBy_trans (grownBy_drew w _) (grownBy_setCells g _ _ _)) (grownBy_setCells g _ _ _)
  · obtain rfl : i = l.length := by omega
    rw [List.take_of_length_le (Nat.le_refl _), List.drop_of_length_le (Nat.le_refl _)]
    exact ins_end base v l r vb w hown hn hb hbase

end Go.Proofs.Ytkoihpfgleboiaa.Tb.Su
