/-
  The contract of the reference's Put. Conditions: at most a thousand rows; a table of one's own.
-/
import Derived.Test.YtflhpijcfiamgaaTRef
namespace Go.Proofs.Ytflhpijcfiamgaa.Tb.Rf
open Go.RowKit
open Ii (cells cells_len cells_get cells_one cells_append cells_cons cells_inv getL)

/-- What a change of the reference's table leaves. -/
def Changed (base : Nat) (w : World) (b : Nat) (rs : List R) (w' : World) : Prop :=
  ∃ v', TabV base w' b v' rs ∧ Kept (fun x => x = b) w w' ∧ ∀ g, v'.ownBlock = some g → w.heap.size ≤ g
theorem app_nil (W : World) (ty : TypeId) (g n c : Nat) (hn : n ≤ c) : (Builtin.append_ #[28, 28] ty #[.slice (some ⟨g, 0, none⟩) n c, .slice none 0 0]).run Try.prog W = .ok (.slice (some ⟨g, 0, none⟩) n c) W := by
  obtain ⟨i, hi, _, hs, _⟩ := info_parts rowI
  simp [Builtin.append_, run_underlying Try.underlying28, sizeOf, typeInfo, hi, Builtin.lenOf, Builtin.firstCells, hn, storeCells]
theorem slice_some (g n cap a : Nat) (h : a ≤ n) (hc : n ≤ cap) : ∃ o, (a < n → o = a * 2) ∧ ∀ W : World, (Instr.slice 28 (.slice (some ⟨g, 0, none⟩) n cap) (some (.int .i64 (a : Int))) none none).run Try.prog W = .ok (.slice (some ⟨g, o, none⟩) (n - a) (cap - a)) W := by
  have h2 : (a : Int) ≤ (n : Int) := by omega
  have h3 : (n : Int) ≤ (cap : Int) := by omega
  by_cases hcc : cap = a
  · subst hcc
    refine ⟨0, fun h => by omega, fun W => ?_⟩
    simp [Instr.slice, Instr.sliceBounds, Instr.sliceBound, asIntOf, run_underlying Try.underlying28, h, hc]
  · refine ⟨a * 2, fun _ => rfl, fun W => ?_⟩
    simp [Instr.slice, Instr.sliceBounds, Instr.sliceBound, asIntOf, run_underlying Try.underlying28, h, hcc]
    unfold Addr.add
    split <;> simp_all
theorem own_same {w w' : World} {base : Nat} {e : TypeId} {size n : Nat} {v : Value} {xs : List Value} (h : w.ownsRow base e size v n xs) (hb : Below w.heap.size w w') : w'.ownsRow base e size v n xs :=
  h.kept (row := none) ⟨hb.os, hb.tape, hb.output, hb.size, fun i hi _ => hb.block i hi⟩ (by
    rcases hv : v.ownBlock with _ | g
    · exact .inl rfl
    · exact .inr (by simp))

theorem put_kept {w w1 w2 w3 : World} {n : Nat} {v : Value} {xs : List Value} {o1 o2 : Obj} {e : TypeId} {row : Nat} (h1 : Below w.heap.size w w1) (h2 : (w1.alloc o1).grownBy w2 (some row)) (hr : w1.heap.size ≤ row) (ho : w2.ownsRow w1.heap.size e 2 v n xs) (h3 : (w2.alloc o2).grownBy w3 v.ownBlock) : Below w.heap.size w w3 := by
  have z1 := h1.size
  have z2 := h2.size
  simp at z2
  exact (((h1.alloc z1 _).grown h2 (by simp; omega) (fun k e => by cases e; omega)).alloc (by omega) _).grown h3 (by simp; omega) (fun k e => by have := (ho.lt k e).1; omega)
theorem put_fin {base : Nat} {w w1 w4 : World} {b g4 cp4 p d : Nat} {sv : Value} {l l2 : List R} {k v : Int} (hT : TabV base w b sv l) (_hbg : True) (hK : Below w.heap.size w w4) (z1 : w.heap.size ≤ w1.heap.size)
    (ho : w4.ownsRow w1.heap.size 53 2 (.slice (some ⟨g4, 0, none⟩) (p + 1 + (l.length - d)) cp4) (p + 1 + (l.length - d)) (cells (l.take p) ++ [.int .i64 k, .int .i64 v] ++ cells (l.drop d))) (hp : p ≤ l.length) (hd : d ≤ l.length) (hP : l2 = l.take p ++ (k, v) :: l.drop d) (hbase : base ≤ w.heap.size) :
    Changed base w b l2 (w4.setCell ⟨b, 0, none⟩ (.slice (some ⟨g4, 0, none⟩) (p + 1 + (l.length - d)) cp4)) := by
  have hlen : l2.length = p + 1 + (l.length - d) := by rw [hP, List.length_append, List.length_cons, List.length_take, List.length_drop]; omega
  have hcl : cells l2 = cells (l.take p) ++ [.int .i64 k, .int .i64 v] ++ cells (l.drop d) := by rw [hP, cells_append, cells_cons]; simp [Ii.ek, Ii.ev]
  have hbx : Boxed w4 b 30 sv := (hT.below hK).2.1
  have ho2 : w4.ownsRow w1.heap.size 53 2 (.slice (some ⟨g4, 0, none⟩) (p + 1 + (l.length - d)) cp4) l2.length (cells l2) := by rw [hlen, hcl]; exact ho
  refine ⟨_, ⟨hT.1, hbx.set _, Go.Joins.ownsRow_le (ho2.kept (grownBy_setCell' w4 b _) (.inr (hbx.not_row (by decide) ho2).symm)) (by omega)⟩, (Kept.of_below hK).trans' (Kept.of_set w4 ⟨b, 0, none⟩ _) (fun i _ e => e), fun g hg => ?_⟩
  have := (ho.lt g hg).1
  omega
set_option maxRecDepth 100000 in
set_option maxHeartbeats 4000000 in
theorem put_some (base : Nat) (w : World) (b : Nat) (g cap : Nat) (l : List R) (k v : Int) (hT : TabV base w b (.slice (some ⟨g, 0, none⟩) l.length cap) l) (ha : asc l) (hn : l.length ≤ 1000) (hbase : base ≤ w.heap.size) :
    Calls Try.prog 9 #[.pointer (some ⟨b, 0, none⟩), .int .i64 k, .int .i64 v] w fun e w' => e = .returned (.bool (!hasB l k)) ∧ Changed base w b (putL l k v) w' := by
  obtain ⟨i0, hi0, hz0, hz1, hz2⟩ := info_parts rowI
  have hcap : l.length ≤ cap := by
    rcases hT.2.2.2 with ⟨h, _⟩ | ⟨g', cap', cur, h', _, _, h1, h2, _⟩
    · simp at h
    · simp only [Value.slice.injEq] at h'
      obtain ⟨_, _, rfl⟩ := h'
      exact h1
  have HF := Lib.hid (place_any base w b _ l k hT ha hn)
  have HT := Lib.hid hT
  have hlt := hT.2.1.lt
  have hglt := (hT.2.2.lt g rfl).2
  have hp := pl_le l k
  have hpd : pl l k + (if hasB l k = true then 1 else 0) ≤ l.length := by
    cases hh : hasB l k
    · simpa using hp
    · have := (has_lt l k hh).1; simp; omega
  obtain ⟨p, hpp⟩ : ∃ p, p = pl l k := ⟨_, rfl⟩
  obtain ⟨d, hd⟩ : ∃ d, d = p + (if hasB l k = true then 1 else 0) := ⟨_, rfl⟩
  have HP : Hid (putL l k v = l.take p ++ (k, v) :: l.drop d) := by show _ = _; rw [hd, hpp]; rfl
  rw [← hpp] at HF hp hpd
  rw [← hd] at hpd
  obtain ⟨o, ho, hsl⟩ := slice_some g l.length cap d hpd hcap
  have HTK : Hid ((cells (l.take p)).length = p * 2) := by show _ = _; rw [cells_len, List.length_take]; omega
  have HDK : Hid ((cells (l.drop d)).length = (l.length - d) * 2) := by show _ = _; rw [cells_len, List.length_drop]
  have HC1 : Hid (∀ W : World, Below w.heap.size w W → ∀ j u, (cells (l.take p))[j]? = some u → W.cell? ⟨g, j, none⟩ = some u) := fun W hW j u hj => by
    have hjl := (List.getElem?_eq_some_iff.1 hj).1
    rw [HTK.out] at hjl
    refine ((hT.below hW).2.2.cellAt j (by omega)).trans ?_
    have : cells l = cells (l.take p) ++ cells (l.drop p) := by rw [← cells_append, List.take_append_drop]
    rw [this, List.getElem?_append_left (by rw [HTK.out]; exact hjl)]
    exact hj
  have HC2 : Hid (∀ W : World, W.heap[g]? = w.heap[g]? → ∀ j u, (cells (l.drop d))[j]? = some u → W.cell? ⟨g, o + j, none⟩ = some u) := fun W hW j u hj => by
    have hjl := (List.getElem?_eq_some_iff.1 hj).1
    rw [HDK.out] at hjl
    rw [ho (by omega)]
    refine (World.cell?_of_block (w := w) (a := ⟨g, d * 2 + j, none⟩) hW).trans ((hT.2.2.cellAt (d * 2 + j) (by omega)).trans ?_)
    have : cells l = cells (l.take d) ++ cells (l.drop d) := by rw [← cells_append, List.take_append_drop]
    rw [this, List.getElem?_append_right (by rw [cells_len, List.length_take]; omega), cells_len, List.length_take, show d * 2 + j - min d l.length * 2 = j by omega]
    exact hj
  obtain ⟨hs, hhs⟩ : ∃ hs, hs = hasB l k := ⟨_, rfl⟩
  rw [← hhs] at HF hd
  have HHS := Lib.hid hhs
  clear hT ha hpp hhs ho
  have h3 : (p : Int) ≤ (cap : Int) := by omega
  cases hs
  · obtain rfl : d = p := by simpa using hd
    clear hd
    go_enter Try.func9, Try.ntmps9
    go_wp2_with (first
      | (go_at_call 39; refine HF.out.mono ?_; rintro e w1 ⟨rfl, hb1⟩; have HB1 := Lib.hid hb1; have c1 := (((HT.out.below hb1).2.1)).cell; have z1 := hb1.size; have lb1 : b < w1.heap.size := Nat.lt_of_lt_of_le hlt z1; clear hb1)
      | (at_builtin; refine wpList_append_own _ rfl _ _ 28 rfl w1.heap.size 53 i0 _ 2 16 Try.underlying28 hi0 hz0 hz1 hz2 rfl (by decide) _ _ _ rfl O3.out ⟨g, o, none⟩ (l.length - d) (cap - d) (cells (l.drop d)) rfl HDK.out (fun j u hj => by rw [Addr.add_lit]; exact HC2.out _ (K3.out.block g hglt) j u hj) (cells_one _) (by unfold maxLen; omega) (by omega) (by have := K3.out.size; have h2 := z2; have h3 := z3; (try simp at h2); (try simp at h3); omega) ?_; intro v4 w4 hown4 hg4 hnil4; obtain ⟨g4, cp4, rfl⟩ := (Go.Joins.ownsRow_forms hown4).resolve_left (fun h => absurd (hnil4.1 h.1).1 (by intro hh; cases hh)); have O4 := Lib.hid hown4; have K4 := Lib.hid (K3.out.grown hg4 K3.out.size (fun x e => by have := (O3.out.lt x e).1; omega)); clear hown4 hg4 hnil4; have c4 := ((HT.out.below K4.out).2.1).cell; have f4 := ((HT.out.below K4.out).2.1).frozen)
      | (at_builtin; refine wpList_append_own _ rfl _ _ 28 rfl w1.heap.size 53 i0 _ 2 16 Try.underlying28 hi0 hz0 hz1 hz2 rfl (by decide) _ _ _ rfl (O2.out.alloc _) ⟨w2.heap.size, 0, none⟩ 1 1 [.int .i64 k, .int .i64 v] rfl rfl (World.news_of_block (cs := #[.int .i64 k, .int .i64 v]) (t := 53) (fr := (0, 0)) (heap_alloc_new w2 _)) (cells_one [(k, v)]) (by unfold maxLen; omega) (by omega) (by have h2 := z2; (try simp at h2); (try simp); omega) ?_; intro v3 w3 hown3 hg3 hnil3; obtain ⟨g3, cp3, rfl⟩ := (Go.Joins.ownsRow_forms hown3).resolve_left (fun h => absurd (hnil3.1 h.1).1 (by intro hh; cases hh)); have O3 := Lib.hid hown3; have G3 := Lib.hid hg3; clear hown3 hg3 hnil3; have z3 := G3.out.size; have K3 := Lib.hid (put_kept HB1.out G2.out (Nat.le_refl _) O2.out G3.out); have c3 := ((HT.out.below K3.out).2.1).cell; have f3 := ((HT.out.below K3.out).2.1).frozen)
      | (at_builtin; refine wpList_append_own _ rfl _ _ 28 rfl w1.heap.size 53 i0 _ 2 16 Try.underlying28 hi0 hz0 hz1 hz2 rfl (by decide) _ _ _ rfl (World.ownsRow_made w1 #[] 0 (Nat.le_refl _) (Nat.zero_le _) rfl) ⟨g, 0, none⟩ d cap (cells (l.take d)) rfl HTK.out (fun j u hj => by rw [Addr.add_lit, Nat.zero_add]; exact HC1.out _ (HB1.out.alloc z1 _) j u hj) (cells_one _) (by unfold maxLen; omega) (by omega) (by (try simp); (try omega)) ?_; intro v2 w2 hown2 hg2 hnil2; rw [Nat.zero_add, List.nil_append] at hown2; obtain ⟨g2, cp2, rfl⟩ := (Go.Joins.ownsRow_forms hown2).resolve_left (fun h => absurd (hnil2.1 h.1).1 (by intro hh; cases hh)); have O2 := Lib.hid hown2; have G2 := Lib.hid hg2; clear hown2 hg2 hnil2; have z2 := G2.out.size))
    have FIN := Lib.hid (put_fin HT.out trivial K4.out z1 O4.out hp hpd HP.out hbase)
    clear HT HC1 HC2 HF hsl
    go_ret
    exact ⟨by rw [← HHS.out]; rfl, FIN.out⟩
  · obtain rfl : d = p + 1 := by simpa using hd
    have hsl2 : ∀ W : World, (Instr.slice 28 (.slice (some ⟨g, 0, none⟩) l.length cap) (some (.int .i64 ((p : Int) + 1))) none none).run Try.prog W = .ok (.slice (some ⟨g, o, none⟩) (l.length - (p + 1)) (cap - (p + 1))) W := hsl
    clear hd hsl
    go_enter Try.func9, Try.ntmps9
    go_wp2_with (first
      | (go_at_call 39; refine HF.out.mono ?_; rintro e w1 ⟨rfl, hb1⟩; have HB1 := Lib.hid hb1; have c1 := (((HT.out.below hb1).2.1)).cell; have z1 := hb1.size; have lb1 : b < w1.heap.size := Nat.lt_of_lt_of_le hlt z1; clear hb1)
      | (at_builtin; refine wpList_append_own _ rfl _ _ 28 rfl w1.heap.size 53 i0 _ 2 16 Try.underlying28 hi0 hz0 hz1 hz2 rfl (by decide) _ _ _ rfl O3.out ⟨g, o, none⟩ (l.length - (p + 1)) (cap - (p + 1)) (cells (l.drop (p + 1))) rfl HDK.out (fun j u hj => by rw [Addr.add_lit]; exact HC2.out _ (K3.out.block g hglt) j u hj) (cells_one _) (by unfold maxLen; omega) (by omega) (by have := K3.out.size; have h2 := z2; have h3 := z3; (try simp at h2); (try simp at h3); omega) ?_; intro v4 w4 hown4 hg4 hnil4; obtain ⟨g4, cp4, rfl⟩ := (Go.Joins.ownsRow_forms hown4).resolve_left (fun h => absurd (hnil4.1 h.1).1 (by intro hh; cases hh)); have O4 := Lib.hid hown4; have K4 := Lib.hid (K3.out.grown hg4 K3.out.size (fun x e => by have := (O3.out.lt x e).1; omega)); clear hown4 hg4 hnil4; have c4 := ((HT.out.below K4.out).2.1).cell; have f4 := ((HT.out.below K4.out).2.1).frozen)
      | (at_builtin; refine wpList_append_own _ rfl _ _ 28 rfl w1.heap.size 53 i0 _ 2 16 Try.underlying28 hi0 hz0 hz1 hz2 rfl (by decide) _ _ _ rfl (O2.out.alloc _) ⟨w2.heap.size, 0, none⟩ 1 1 [.int .i64 k, .int .i64 v] rfl rfl (World.news_of_block (cs := #[.int .i64 k, .int .i64 v]) (t := 53) (fr := (0, 0)) (heap_alloc_new w2 _)) (cells_one [(k, v)]) (by unfold maxLen; omega) (by omega) (by have h2 := z2; (try simp at h2); (try simp); omega) ?_; intro v3 w3 hown3 hg3 hnil3; obtain ⟨g3, cp3, rfl⟩ := (Go.Joins.ownsRow_forms hown3).resolve_left (fun h => absurd (hnil3.1 h.1).1 (by intro hh; cases hh)); have O3 := Lib.hid hown3; have G3 := Lib.hid hg3; clear hown3 hg3 hnil3; have z3 := G3.out.size; have K3 := Lib.hid (put_kept HB1.out G2.out (Nat.le_refl _) O2.out G3.out); have c3 := ((HT.out.below K3.out).2.1).cell; have f3 := ((HT.out.below K3.out).2.1).frozen)
      | (at_builtin; refine wpList_append_own _ rfl _ _ 28 rfl w1.heap.size 53 i0 _ 2 16 Try.underlying28 hi0 hz0 hz1 hz2 rfl (by decide) _ _ _ rfl (World.ownsRow_made w1 #[] 0 (Nat.le_refl _) (Nat.zero_le _) rfl) ⟨g, 0, none⟩ p cap (cells (l.take p)) rfl HTK.out (fun j u hj => by rw [Addr.add_lit, Nat.zero_add]; exact HC1.out _ (HB1.out.alloc z1 _) j u hj) (cells_one _) (by unfold maxLen; omega) (by omega) (by (try simp); (try omega)) ?_; intro v2 w2 hown2 hg2 hnil2; rw [Nat.zero_add, List.nil_append] at hown2; obtain ⟨g2, cp2, rfl⟩ := (Go.Joins.ownsRow_forms hown2).resolve_left (fun h => absurd (hnil2.1 h.1).1 (by intro hh; cases hh)); have O2 := Lib.hid hown2; have G2 := Lib.hid hg2; clear hown2 hg2 hnil2; have z2 := G2.out.size))
    have FIN := Lib.hid (put_fin HT.out trivial K4.out z1 O4.out hp hpd HP.out hbase)
    rw [show p + 1 + (l.length - (p + 1)) = l.length by omega] at FIN
    clear HT HC1 HC2 HF hsl2
    go_ret
    exact ⟨by rw [← HHS.out]; rfl, FIN.out⟩
end Go.Proofs.Ytflhpijcfiamgaa.Tb.Rf
