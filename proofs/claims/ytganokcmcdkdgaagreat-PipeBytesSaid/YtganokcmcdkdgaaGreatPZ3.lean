/-
  The contract of slices.Insert with one row, whatever the place, and of Put. Conditions: at most a thousand rows; a table of one's own.
-/
import Derived.Test.YtganokcmcdkdgaaGreatTInbIs
import Derived.StillTailTactics
import Derived.Deep.RegionHeld3
import Derived.Deep.RegionLaw
namespace Go.Proofs.YtganokcmcdkdgaaGreat.Tb.Is
open Go.RowKit

theorem own_same {w w' : World} {base : Nat} {e : TypeId} {size n : Nat} {v : Value} {xs : List Value} (h : w.ownsRow base e size v n xs) (hb : Below w.heap.size w w') : w'.ownsRow base e size v n xs :=
  h.kept (row := none) ⟨hb.os, hb.tape, hb.output, hb.size, fun i hi _ => hb.block i hi⟩ (by
    rcases hv : v.ownBlock with _ | g
    · exact .inl rfl
    · exact .inr (by simp))
theorem ins_own {base g n G : Nat} {w' : World} {C : Array Value} {l2 : List R} (hb : base ≤ g) (hg : w'.heap[g]? = some (.cells C 151 (0, 0))) (hn : l2.length = n) (hnG : n ≤ G) (hG : G ≤ maxLen) (hs : C.size = G * 2) (ht : C.toList.take (n * 2) = cells l2) :
    w'.ownsRow base 151 2 (.slice (some ⟨g, 0, none⟩) n G) l2.length (cells l2) :=
  ⟨by rw [cells_len], .inr ⟨g, G, C, by rw [hn], hb, hg, by rw [hn]; exact hnG, hG, hs, by rw [hn]; exact ht⟩⟩

set_option maxHeartbeats 4000000 in
set_option maxRecDepth 100000 in
theorem ins_end (base : Nat) (v : Value) (l : List R) (r : R) (vb : Nat) (w : World) (hown : w.ownsRow base 151 2 v l.length (cells l)) (hn : l.length ≤ 1000) (hb : w.heap[vb]? = some (.cells #[ek r.1, ev r.2] 151 (0, 0))) (hbase : base ≤ w.heap.size) :
    Calls Tryz.prog 101 #[v, .int .i64 l.length, .slice (some ⟨vb, 0, none⟩) 1 1] w (InsP base w v (l ++ [r]) (l.length + 1)) := by
  obtain ⟨i0, hi0, hz0, hz1, hz2⟩ := info_parts rowI
  have HO := Lib.hid hown
  have HB := Lib.hid hb
  have hfin : ∀ g cap w', w'.ownsRow base 151 2 (.slice (some ⟨g, 0, none⟩) (l.length + 1) cap) (l.length + 1) (cells l ++ [ek r.1, ev r.2]) → w.grownBy w' v.ownBlock → (v.ownBlock = some g ∨ g = w.heap.size) → InsP base w v (l ++ [r]) (l.length + 1) (.returned (.slice (some ⟨g, 0, none⟩) (l.length + 1) cap)) w' := fun g cap w' h1 h2 h3 =>
    ⟨g, cap, rfl, by rw [cells_append]; exact h1, h2, h3.imp id (fun e => by omega)⟩
  have HF := Lib.hid hfin
  rcases Go.Joins.ownsRow_forms hown with ⟨rfl, h0⟩ | ⟨g, cap, rfl⟩
  · have hl : l = [] := List.length_eq_zero_iff.1 h0
    subst hl
    clear hown hb hfin h0
    go_enter Tryz.func101, Tryz.ntmps101
    go_wp2_with (at_builtin; refine wpList_append_lies _ rfl _ _ 104 rfl base 151 i0 _ 2 24 Tryz.underlying104 hi0 hz0 hz1 hz2 rfl (by decide) _ _ _ rfl HO.out ⟨vb, 0, none⟩ 1 1 [ek r.1, ev r.2] rfl rfl (World.news_of_block HB.out) (cells_one [r]) (by decide) (by decide) (by decide) hbase w.heap.size rfl ?_; intro gg cp w1 hown1 hgrow hat hlt1)
    go_ret
    exact HF.out gg cp w1 hown1 hgrow hat
  · obtain ⟨n, hnl⟩ : ∃ n, n = l.length := ⟨_, rfl⟩
    have hnc : n ≤ cap ∧ cap ≤ maxLen := by
      rcases hown.2 with ⟨h, _⟩ | ⟨g', cap', cur, h', _, _, h1, h2, _⟩
      · simp at h
      · simp only [Value.slice.injEq] at h'
        obtain ⟨_, _, rfl⟩ := h'
        rw [hnl]; exact ⟨h1, h2⟩
    obtain ⟨hnc, hcm⟩ := hnc
    unfold maxLen at hcm
    rw [← hnl] at hn HO HF ⊢
    clear hown hb hfin hnl
    have e0 : ((n : Int) == (n : Int)) = true := by simp
    by_cases hcc : cap = n
    · subst hcc
      go_enter Tryz.func101, Tryz.ntmps101
      go_wp2_with (at_builtin; refine wpList_append_lies _ rfl _ _ 104 rfl base 151 i0 _ 2 24 Tryz.underlying104 hi0 hz0 hz1 hz2 rfl (by decide) _ _ _ rfl HO.out ⟨vb, 0, none⟩ 1 1 [ek r.1, ev r.2] rfl rfl (World.news_of_block HB.out) (cells_one [r]) (by decide) (by unfold maxLen; omega) (by omega) hbase w.heap.size rfl ?_; intro gg cp w1 hown1 hgrow hat hlt1)
      go_ret
      exact HF.out gg cp w1 hown1 hgrow hat
    · go_enter Tryz.func101, Tryz.ntmps101
      go_wp2_with (at_builtin; refine wpList_append_lies _ rfl _ _ 104 rfl base 151 i0 _ 2 24 Tryz.underlying104 hi0 hz0 hz1 hz2 rfl (by decide) _ _ _ rfl HO.out ⟨vb, 0, none⟩ 1 1 [ek r.1, ev r.2] rfl rfl (World.news_of_block HB.out) (cells_one [r]) (by decide) (by unfold maxLen; omega) (by omega) hbase w.heap.size rfl ?_; intro gg cp w1 hown1 hgrow hat hlt1)
      go_ret
      exact HF.out gg cp w1 hown1 hgrow hat

/-- slices.Insert with one row, whatever the place. -/
theorem insert_any (base : Nat) (v : Value) (l : List R) (r : R) (i vb : Nat) (w : World) (hown : w.ownsRow base 151 2 v l.length (cells l)) (hi : i ≤ l.length) (hn : l.length ≤ 1000) (hb : w.heap[vb]? = some (.cells #[ek r.1, ev r.2] 151 (0, 0))) (hvb : some vb ≠ v.ownBlock) (hbase : base ≤ w.heap.size) :
    Calls Tryz.prog 101 #[v, .int .i64 i, .slice (some ⟨vb, 0, none⟩) 1 1] w (InsP base w v (l.take i ++ r :: l.drop i) (l.length + 1)) := by
  rcases Nat.lt_or_ge i l.length with hlt | hge
  · rcases hown.2 with ⟨rfl, h0⟩ | ⟨g, cap, cur, rfl, hg, hh, hnc, hcm, hcs, ht⟩
    · omega
    have hlen : (l.take i ++ r :: l.drop i).length = l.length + 1 := by rw [List.length_append, List.length_cons, List.length_take, List.length_drop]; omega
    have hvg : vb ≠ g := fun e => hvb (by rw [e]; rfl)
    rcases Nat.lt_or_ge cap (l.length + 1) with hr | hr
    · refine (ins_grow g cap i vb l r w cur hlt hn hnc hr hh hcs ht hb).mono ?_
      rintro e w' ⟨ROW, G, rfl, h1, h2, h3, h4, rfl⟩
      have hl := ins_list l r i (by omega) ROW.toList G (by simpa using h3) h1 h4
      have n1 : (w.alloc (.cells ROW 151)).drew.heap[w.heap.size]? = some (.cells ROW 151 (0, 0)) := block_new w _
      have n2 := heap_setCells w.heap.size 151 [ek r.1, ev r.2] (i * 2) _ _ n1
      have n3 := heap_setCells w.heap.size 151 (cells (l.drop i)) ((i + 1) * 2) ((w.alloc (.cells ROW 151)).drew.setCells w.heap.size (i * 2) [ek r.1, ev r.2]).drew _ n2
      refine ⟨w.heap.size, G, rfl, by have := ins_own (l2 := l.take i ++ r :: l.drop i) hbase n3 hlen h1 h2 (by simpa using hl.2.1) (by simpa using hl.1); rwa [hlen] at this, ?_, .inr (Nat.le_refl _)⟩
      have k1 := grownBy_setCells w.heap.size [ek r.1, ev r.2] (i * 2) (w.alloc (.cells ROW 151)).drew
      have k2 := grownBy_setCells w.heap.size (cells (l.drop i)) ((i + 1) * 2) ((w.alloc (.cells ROW 151)).drew.setCells w.heap.size (i * 2) [ek r.1, ev r.2]).drew
      have hb1 : Below w.heap.size w (w.alloc (.cells ROW 151)).drew := ((Below.refl _ _).alloc (Nat.le_refl _) _).drew
      have hb2 : Below w.heap.size w ((w.alloc (.cells ROW 151)).drew.setCells w.heap.size (i * 2) [ek r.1, ev r.2]).drew := (hb1.grown k1 hb1.size (fun k e => by cases e; exact Nat.le_refl _)).drew
      exact grownBy_of_below _ (hb2.grown k2 hb2.size (fun k e => by cases e; exact Nat.le_refl _))
    · refine (ins_shift g cap i vb l r w cur hlt hn hr (by unfold maxLen at hcm; omega) hvg hh hcs ht hb).mono ?_
      rintro e w' ⟨rfl, rfl⟩
      have htk : cur.toList.take (i * 2) = cells (l.take i) := by
        have : cells l = cells (l.take i) ++ cells (l.drop i) := by rw [← cells_append, List.take_append_drop]
        have h2 := congrArg (List.take (i * 2)) ht
        rw [List.take_take, Nat.min_eq_left (by omega), this, List.take_left' (by rw [cells_len, List.length_take]; omega)] at h2
        exact h2
      have hl := ins_list l r i (by omega) cur.toList cap (by simpa using hcs) hr htk
      have n2 := heap_setCells g 151 (cells (l.drop i)) ((i + 1) * 2) w.drew _ hh
      have n3 := heap_setCells g 151 [ek r.1, ev r.2] (i * 2) (w.drew.setCells g ((i + 1) * 2) (cells (l.drop i))) _ n2
      refine ⟨g, cap, rfl, by have := ins_own (l2 := l.take i ++ r :: l.drop i) hg n3 hlen hr hcm (by simpa using hl.2.2.2) (by simpa using hl.2.2.1); rwa [hlen] at this, ?_, .inl rfl⟩
      exact grownBy_trans (grownBy_trans (grownBy_drew w _) (grownBy_setCells g _ _ _)) (grownBy_setCells g _ _ _)
  · obtain rfl : i = l.length := by omega
    rw [List.take_of_length_le (Nat.le_refl _), List.drop_of_length_le (Nat.le_refl _)]
    exact ins_end base v l r vb w hown hn hb hbase

/-- A table of one's own, with its slice. -/
def TabV (base : Nat) (w : World) (b : Nat) (v : Value) (rs : List R) : Prop := base ≤ b ∧ Boxed w b 106 v ∧ w.ownsRow base 151 2 v rs.length (cells rs)
/-- Its blocks. -/
def OwnS (b : Nat) (v : Value) : Nat → Prop := fun x => x = b ∨ v.ownBlock = some x
theorem TabV.kept {base : Nat} {w w' : World} {b : Nat} {v : Value} {rs : List R} {S : Nat → Prop} (h : TabV base w b v rs) (hk : Kept S w w') (hb : ¬ S b) (hv : ∀ g, v.ownBlock = some g → ¬ S g) : TabV base w' b v rs := by
  obtain ⟨h1, h2, h3, h4⟩ := h
  refine ⟨h1, hk.heap h2 hb, h3, ?_⟩
  rcases h4 with h4 | ⟨g, cap, cur, rfl, hg, hh, h5⟩
  · exact .inl h4
  · exact .inr ⟨g, cap, cur, rfl, hg, hk.heap hh (hv g rfl), h5⟩
theorem TabV.below {base : Nat} {w w' : World} {b : Nat} {v : Value} {rs : List R} (h : TabV base w b v rs) (hb : Below w.heap.size w w') : TabV base w' b v rs :=
  h.kept (Kept.of_below (S := fun _ => False) hb) (fun h => h) (fun _ _ h => h)
/-- What a change of a table leaves. -/
def Changed (base : Nat) (w : World) (b : Nat) (v : Value) (rs : List R) (w' : World) : Prop :=
  ∃ v', TabV base w' b v' rs ∧ Kept (OwnS b v) w w' ∧ (v'.ownBlock = v.ownBlock ∨ ∃ g, v'.ownBlock = some g ∧ w.heap.size ≤ g)
theorem putL_not (l : List R) (k : K) (v : V) (h : hasB l k = false) : putL l k v = l.take (pl l k) ++ (k, v) :: l.drop (pl l k) := by
  unfold putL
  rw [if_neg (by rw [h]; decide), Nat.add_zero]
theorem putL_has (l : List R) (k : K) (v : V) (h : hasB l k = true) : putL l k v = l.take (pl l k) ++ (k, v) :: l.drop (pl l k + 1) := by
  unfold putL
  rw [if_pos h]

theorem cells_put (l : List R) (p : Nat) (r : R) (hp : p < l.length) : ((cells l).set (p * 2) (ek r.1)).set (p * 2 + 1) (ev r.2) = cells (l.take p ++ r :: l.drop (p + 1)) := by
  have e : l = l.take p ++ l[p] :: l.drop (p + 1) := by rw [← List.drop_eq_getElem_cons hp, List.take_append_drop]
  have htl : (cells (l.take p)).length = p * 2 := by rw [cells_len, List.length_take]; omega
  conv => lhs; rw [e]
  rw [cells_append, cells_append, cells_cons, cells_cons, List.set_append_right _ _ (by omega), htl, Nat.sub_self, List.set_cons_zero, List.set_append_right _ _ (by omega), htl, show p * 2 + 1 - p * 2 = 1 by omega]
  rfl
end Go.Proofs.YtganokcmcdkdgaaGreat.Tb.Is

namespace Go.Proofs.YtganokcmcdkdgaaGreat.Tb.Is
open Go.RowKit

theorem run_clear_row (w : World) (ty : TypeId) (g o c : Nat) (hc : ∀ j, j < 2 → (w.cell? ⟨g, o + j, none⟩).isSome = true) (hf : ∀ j, j < 2 → w.frozen? ⟨g, o + j, none⟩ = false) :
    (Builtin.clear_ #[104] ty #[.slice (some ⟨g, o, none⟩) 1 c]).run Tryz.prog w = .ok (.tuple #[]) (w.setCells g o [.int .i64 0, .string ByteArray.empty]) := by
  have hst := run_storeCells_cells (P := Tryz.prog) g o [.int .i64 0, .string ByteArray.empty] 0 w (by simpa using hc) (by simpa using hf) (fun u hu => by simp at hu; rcases hu with rfl | rfl <;> rfl)
  simp only [Nat.add_zero] at hst
  have hz2 : (Builtin.zeroCells (Value.agg #[.int .i64 0, .string ⟨#[]⟩]).cells 1).toList = [.int .i64 0, .string ByteArray.empty] := by kernel_rfl
  simp [Builtin.clear_, run_underlying Tryz.underlying104, Tryz.zeroValue151, hz2, hst]

set_option maxHeartbeats 4000000 in
set_option maxRecDepth 100000 in
theorem delete_one (g c i j n : Nat) (w : World) (cur : Array Value) (news : List Value) (hj : j = i + 1) (hi : i < n) (hn : n ≤ 1000) (hnc : n ≤ c) (_hcm : c ≤ 9223372036854775807)
    (hh : w.heap[g]? = some (.cells cur 151 (0, 0))) (hcs : cur.size = c * 2) (hl : news.length = (n - j) * 2) (hget : ∀ t u, news[t]? = some u → cur[j * 2 + t]? = some u) (h1 : ∀ u ∈ news, u.oneCell' = true) :
    Calls Tryz.prog 100 #[.slice (some ⟨g, 0, none⟩) n c, .int .i64 i, .int .i64 j] w fun e w' => e = .returned (.slice (some ⟨g, 0, none⟩) (i + (n - j)) c) ∧ w' = (w.drew.setCells g (i * 2) news).setCells g ((i + (n - j)) * 2) [.int .i64 0, .string ByteArray.empty] := by
  obtain ⟨i0, hi0, hz0, hz1, hz2⟩ := info_parts rowI
  obtain ⟨A, hA, hsrc⟩ : ∃ A : Addr, (if c = j then some (⟨g, 0, none⟩ : Addr) else some ⟨g, j * 2, none⟩) = some A ∧ Hid (∀ t u, news[t]? = some u → w.drew.cell? (A.add t) = some u) := by
    by_cases h : c = j
    · refine ⟨⟨g, 0, none⟩, by simp [h], fun t u hu => ?_⟩
      have h0 : news.length = 0 := by rw [hl]; omega
      rw [List.length_eq_zero_iff.1 h0] at hu
      simp at hu
    · refine ⟨⟨g, j * 2, none⟩, by simp [h], fun t u hu => ?_⟩
      rw [Addr.add_lit]
      show w.cell? _ = some u
      rw [cell_of_row _ _ _ _ _ _ hh]
      exact hget t u hu
  have s1 := Lib.hid hl
  have s2 := Lib.hid h1
  have s3 : Hid (∀ t, t < news.length → (w.drew.cell? ⟨g, 0 + i * 2 + t, none⟩).isSome = true ∧ w.drew.frozen? ⟨g, 0 + i * 2 + t, none⟩ = false) := by
    intro t ht
    rw [hl] at ht
    refine ⟨?_, frozen_of_row w.drew _ _ _ _ hh⟩
    show (w.cell? _).isSome = true
    rw [cell_of_row _ _ _ _ _ _ hh, Array.getElem?_eq_getElem (by omega)]; rfl
  obtain ⟨W1, hW1⟩ : ∃ W1, W1 = w.drew.setCells g (0 + i * 2) news := ⟨_, rfl⟩
  have hnm : n - (i + (n - j)) = 1 := by omega
  have hb1 : W1.heap[g]? = some (.cells (setL cur.toList (0 + i * 2) news).toArray 151 (0, 0)) := by rw [hW1]; exact heap_setCells _ _ _ _ _ _ hh
  have hbs : (setL cur.toList (0 + i * 2) news).toArray.size = c * 2 := by
    rw [setL_eq _ _ _ (by rw [hl]; simp; omega)]
    simp [hl]; omega
  have hcl : ∀ ty cc, (Builtin.clear_ #[104] ty #[.slice (some ⟨g, (i + (n - j)) * 2, none⟩) (n - (i + (n - j))) cc]).run Tryz.prog W1 = .ok (.tuple #[]) (W1.setCells g ((i + (n - j)) * 2) [.int .i64 0, .string ByteArray.empty]) := fun ty cc => by
    rw [hnm]
    exact run_clear_row W1 ty g ((i + (n - j)) * 2) cc (fun t ht => by rw [cell_of_row _ _ _ _ _ _ hb1, Array.getElem?_eq_getElem (by omega)]; rfl) (fun t ht => frozen_of_row _ _ _ _ _ hb1)
  have hW : Hid (W1 = w.drew.setCells g (0 + i * 2) news) := hW1
  have hmc : ¬ (c = i + (n - j)) := by omega
  have hmn : i + (n - j) ≤ n := by omega
  have hic : i ≤ c := by omega
  have hjc : j ≤ c := by omega
  have hij : i ≤ j := by omega
  have hjn : j ≤ n := by omega
  have hne : ¬ ((i : Int) = (j : Int)) := by omega
  clear hW1 hb1 hbs hh hcs hl hget h1
  clear hj hnm
  go_enter Tryz.func100, Tryz.ntmps100
  go_wp2_with fail
  go_region_law (refine step_append_room rfl (.tmp 22) (.tmp 25) 104 rfl 151 i0 2 Tryz.underlying104 hi0 hz1 g 0 i c (by simp [Act.eval, Act.put]) A (n - j) (c - j) news (by simp [Act.eval, Act.put]) s1.out hsrc.out s2.out (by omega) s3.out ?_; rw [← hW.out])
  all_goals (
    go_wp2
    go_ret
    exact ⟨rfl, by rw [hW.out, Nat.zero_add]⟩)

theorem del_list (l : List R) (p : Nat) (hp : p < l.length) (L : List Value) (c : Nat) (hL : L.length = c * 2) (hc : l.length ≤ c) (ht : L.take (l.length * 2) = cells l) :
    (setL (setL L (p * 2) (cells (l.drop (p + 1)))) ((p + (l.length - (p + 1))) * 2) [.int .i64 0, .string ByteArray.empty]).take ((p + (l.length - (p + 1))) * 2) = cells (l.take p ++ l.drop (p + 1)) ∧ (setL (setL L (p * 2) (cells (l.drop (p + 1)))) ((p + (l.length - (p + 1))) * 2) [.int .i64 0, .string ByteArray.empty]).length = c * 2 := by
  have hd : (cells (l.drop (p + 1))).length = (l.length - (p + 1)) * 2 := by rw [cells_len, List.length_drop]
  have htk : L.take (p * 2) = cells (l.take p) := by
    have h0 : cells l = cells (l.take p) ++ cells (l.drop p) := by rw [← cells_append, List.take_append_drop]
    have h2 := congrArg (List.take (p * 2)) ht
    rw [List.take_take, Nat.min_eq_left (by omega), h0, List.take_left' (by rw [cells_len, List.length_take]; omega)] at h2
    exact h2
  have e1 : setL L (p * 2) (cells (l.drop (p + 1))) = L.take (p * 2) ++ (cells (l.drop (p + 1)) ++ L.drop (p * 2 + (cells (l.drop (p + 1))).length)) := setL_eq _ _ _ (by rw [hd]; omega)
  have l1 : (setL L (p * 2) (cells (l.drop (p + 1)))).length = c * 2 := by rw [e1]; simp only [List.length_append, List.length_take, List.length_drop, hd]; omega
  have e2 := setL_eq [.int .i64 0, .string ByteArray.empty] (setL L (p * 2) (cells (l.drop (p + 1)))) ((p + (l.length - (p + 1))) * 2) (by rw [l1]; simp; omega)
  constructor
  · rw [e2, List.take_left' (by rw [List.length_take, l1]; omega), e1, htk, ← List.append_assoc, List.take_left' (by rw [List.length_append, hd, cells_len, List.length_take]; omega), ← cells_append]
  · rw [e2]; simp only [List.length_append, List.length_take, List.length_drop, l1, List.length_cons, List.length_nil]; omega
theorem dropL_has (l : List R) (k : K) (h : hasB l k = true) : dropL l k = l.take (pl l k) ++ l.drop (pl l k + 1) := by
  unfold dropL
  rw [if_pos h]
theorem dropL_not (l : List R) (k : K) (h : hasB l k = false) : dropL l k = l := by
  unfold dropL
  rw [h]
  simp

end Go.Proofs.YtganokcmcdkdgaaGreat.Tb.Is
