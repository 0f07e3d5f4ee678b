/-
  The contract of the reference's Drop. Conditions: at most a thousand rows; a table of one's own.
-/
import Derived.Test.YtflhpijcfiamgaaTRpuu
namespace Go.Proofs.Ytflhpijcfiamgaa.Tb.Rf
open Go.RowKit
open Ii (cells cells_len cells_get cells_one cells_append cells_cons cells_inv getL)

theorem step_append_own2 {P : Program} {w : World} {ops : Array Oper} {o : Oper} {a : Act} {K : Act → World → Prop} {Q : Exit → Act → World → Prop} {E : Prop} (hgd : o.guard = none) (s x : Operand) (t : TypeId)
    (ho : o.op = .call { callee := .builtin .append, args := #[s, x], argTypes := #[t, t] })
    (base : Nat) (e : TypeId) (i : TypeInfo) (z : Value) (size bytes : Nat) (ht : P.underlying t = some (.slice e)) (hi : P.info? e = some i) (hz : i.zero = some z)
    (hsize : i.size = size) (hby : i.bytes = bytes) (hzs : z.cells.size = size) (hsz : 0 < size)
    (g0 c0 : Nat) (n : Nat) (xs : List Value) (hs : a.eval s = .slice (some ⟨g0, 0, none⟩) n c0) (hown : w.ownsRow base e size (.slice (some ⟨g0, 0, none⟩) n c0) n xs)
    (ad : Addr) (m c : Nat) (news : List Value) (hx : a.eval x = .slice (some ad) m c) (hl : news.length = m * size) (hnews : ∀ j u, news[j]? = some u → w.cell? (ad.add j) = some u) (h1 : ∀ u ∈ news, u.oneCell' = true)
    (h63 : n + m ≤ maxLen) (hbytes : (n + m) * bytes ≤ 140737488355328) (hbase : base ≤ w.heap.size)
    (h : ∀ g cap w', w'.ownsRow base e size (.slice (some ⟨g, 0, none⟩) (n + m) cap) (n + m) (xs ++ news) → w.grownBy w' (some g0) → K (a.put o.dst (.slice (some ⟨g, 0, none⟩) (n + m) cap)) w') :
    if Region.wanted o (yielded ops a.tmps) = true then Oper.wp P o a w K Q else E := by
  have hw : Region.wanted o (yielded ops a.tmps) = true := by simp [Region.wanted, hgd]
  rw [if_pos hw]
  refine wp_append_own w s x t ho base e i z size bytes ht hi hz hsize hby hzs hsz _ n xs hs hown ad m c news hx hl hnews h1 h63 hbytes hbase fun v' w' h2 h3 h4 => ?_
  obtain ⟨g, cap, rfl⟩ := (Go.Joins.ownsRow_forms h2).resolve_left (fun h => absurd (h4.1 h.1).1 (by intro hh; cases hh))
  exact h g cap w' h2 h3

theorem drop_fin {base : Nat} {w w1 w4 : World} {b g4 cp4 p d : Nat} {sv : Value} {l l2 : List R} (hT : TabV base w b sv l) (hK : Below w.heap.size w w4) (z1 : w.heap.size ≤ w1.heap.size)
    (ho : w4.ownsRow w1.heap.size 53 2 (.slice (some ⟨g4, 0, none⟩) (p + (l.length - d)) cp4) (p + (l.length - d)) (cells (l.take p) ++ cells (l.drop d))) (hp : p ≤ l.length) (_hd : d ≤ l.length) (hP : l2 = l.take p ++ l.drop d) (hbase : base ≤ w.heap.size) :
    Changed base w b l2 (w4.setCell ⟨b, 0, none⟩ (.slice (some ⟨g4, 0, none⟩) (p + (l.length - d)) cp4)) := by
  have hlen : l2.length = p + (l.length - d) := by rw [hP, List.length_append, List.length_take, List.length_drop]; omega
  have hcl : cells l2 = cells (l.take p) ++ cells (l.drop d) := by rw [hP, cells_append]
  have hbx : Boxed w4 b 30 sv := (hT.below hK).2.1
  have ho2 : w4.ownsRow w1.heap.size 53 2 (.slice (some ⟨g4, 0, none⟩) (p + (l.length - d)) cp4) l2.length (cells l2) := by rw [hlen, hcl]; exact ho
  refine ⟨_, ⟨hT.1, hbx.set _, Go.Joins.ownsRow_le (ho2.kept (grownBy_setCell' w4 b _) (.inr (hbx.not_row (by decide) ho2).symm)) (by omega)⟩, (Kept.of_below hK).trans' (Kept.of_set w4 ⟨b, 0, none⟩ _) (fun i _ e => e), fun g hg => ?_⟩
  have := (ho.lt g hg).1
  omega
set_option maxRecDepth 100000 in
set_option maxHeartbeats 4000000 in
theorem drop_has (base : Nat) (w : World) (b : Nat) (g cap : Nat) (l : List R) (k : Int) (hT : TabV base w b (.slice (some ⟨g, 0, none⟩) l.length cap) l) (ha : asc l) (hn : l.length ≤ 1000) (hbase : base ≤ w.heap.size) (hh : hasB l k = true) :
    Calls Try.prog 13 #[.pointer (some ⟨b, 0, none⟩), .int .i64 k] w fun e w' => e = .returned (.bool true) ∧ Changed base w b (dropL l k) w' := by
  obtain ⟨i0, hi0, hz0, hz1, hz2⟩ := info_parts rowI
  have hcap : l.length ≤ cap := own_cap hT.2.2
  have HF := Lib.hid (place_any base w b _ l k hT ha hn)
  rw [hh] at HF
  have HT := Lib.hid hT
  have hlt := hT.2.1.lt
  have hglt := (hT.2.2.lt g rfl).2
  have hp := (has_lt l k hh).1
  obtain ⟨p, hpp⟩ : ∃ p, p = pl l k := ⟨_, rfl⟩
  have HP : Hid (dropL l k = l.take p ++ l.drop (p + 1)) := by show _ = _; rw [hpp]; unfold dropL; rw [hh]; rfl
  rw [← hpp] at HF hp
  obtain ⟨o, ho, hsl⟩ := slice_some g l.length cap (p + 1) (by omega) hcap
  have HTK : Hid ((cells (l.take p)).length = p * 2) := by show _ = _; rw [cells_len, List.length_take]; omega
  have HDK : Hid ((cells (l.drop (p + 1))).length = (l.length - (p + 1)) * 2) := by show _ = _; rw [cells_len, List.length_drop]
  have HC1 : Hid (∀ W : World, Below w.heap.size w W → ∀ j u, (cells (l.take p))[j]? = some u → W.cell? ⟨g, j, none⟩ = some u) := fun W hW j u hj => by
    have hjl := (List.getElem?_eq_some_iff.1 hj).1
    rw [HTK.out] at hjl
    refine ((hT.below hW).2.2.cellAt j (by omega)).trans ?_
    have : cells l = cells (l.take p) ++ cells (l.drop p) := by rw [← cells_append, List.take_append_drop]
    rw [this, List.getElem?_append_left (by rw [HTK.out]; exact hjl)]
    exact hj
  have HC2 : Hid (∀ W : World, W.heap[g]? = w.heap[g]? → ∀ j u, (cells (l.drop (p + 1)))[j]? = some u → W.cell? ⟨g, o + j, none⟩ = some u) := fun W hW j u hj => by
    have hjl := (List.getElem?_eq_some_iff.1 hj).1
    rw [HDK.out] at hjl
    rw [ho (by omega)]
    refine (World.cell?_of_block (w := w) (a := ⟨g, (p + 1) * 2 + j, none⟩) hW).trans ((hT.2.2.cellAt ((p + 1) * 2 + j) (by omega)).trans ?_)
    have : cells l = cells (l.take (p + 1)) ++ cells (l.drop (p + 1)) := by rw [← cells_append, List.take_append_drop]
    rw [this, List.getElem?_append_right (by rw [cells_len, List.length_take]; omega), cells_len, List.length_take, show (p + 1) * 2 + j - min (p + 1) l.length * 2 = j by omega]
    exact hj
  clear hT ha hpp hh ho
  have h3 : (p : Int) ≤ (cap : Int) := by omega
  have hp1 : IntKind.i64.wrap ((p : Int) + 1) = (p : Int) + 1 := by rw [IntKind.wrap_i64]; omega
  have hsl2 : ∀ W : World, (Instr.slice 28 (.slice (some ⟨g, 0, none⟩) l.length cap) (some (.int .i64 ((p : Int) + 1))) none none).run Try.prog W = .ok (.slice (some ⟨g, o, none⟩) (l.length - (p + 1)) (cap - (p + 1))) W := hsl
  clear hsl
  go_enter Try.func13, Try.ntmps13
  go_wp2_with (go_at_call 39; refine HF.out.mono ?_; rintro e w1 ⟨rfl, hb1⟩; have HB1 := Lib.hid hb1; have c1 := (((HT.out.below hb1).2.1)).cell; have z1 := hb1.size; have lb1 : b < w1.heap.size := Nat.lt_of_lt_of_le hlt z1; clear hb1)
  go_region_law (first
      | (refine step_append_own2 rfl _ _ 28 (by rfl) w1.heap.size 53 i0 _ 2 16 Try.underlying28 hi0 hz0 hz1 hz2 rfl (by decide) g2 cp2 p _ (by rfl) O2.out ⟨g, o, none⟩ (l.length - (p + 1)) (cap - (p + 1)) (cells (l.drop (p + 1))) (by rfl) HDK.out (fun j u hj => by rw [Addr.add_lit]; exact HC2.out _ (K2.out.block g hglt) j u hj) (cells_one _) (by unfold maxLen; omega) (by omega) (by have := K2.out.size; have h2 := z2; (try simp at h2); (try simp); omega) ?_; intro g3 cp3 w3 hown3 hg3; have O3 := Lib.hid hown3; have K3 := Lib.hid (K2.out.grown hg3 K2.out.size (fun x e => by cases e; have := (O2.out.lt g2 rfl).1; omega)); clear hown3 hg3; have c3 := ((HT.out.below K3.out).2.1).cell; have f3 := ((HT.out.below K3.out).2.1).frozen)
      | (refine step_append_own2 rfl _ _ 28 (by rfl) w1.heap.size 53 i0 _ 2 16 Try.underlying28 hi0 hz0 hz1 hz2 rfl (by decide) w1.heap.size 0 0 [] (by rfl) (World.ownsRow_made w1 #[] 0 (Nat.le_refl _) (Nat.zero_le _) rfl).drew ⟨g, 0, none⟩ p cap (cells (l.take p)) (by rfl) HTK.out (fun j u hj => by rw [Addr.add_lit, Nat.zero_add]; exact HC1.out _ (HB1.out.alloc z1 _).drew j u hj) (cells_one _) (by unfold maxLen; omega) (by omega) (by (try simp); (try omega)) ?_; intro g2 cp2 w2 hown2 hg2; rw [Nat.zero_add, List.nil_append] at hown2; rw [Nat.zero_add]; have O2 := Lib.hid hown2; have G2 := Lib.hid hg2; clear hown2 hg2; have z2 := G2.out.size; have K2 : Hid (Below w.heap.size w w2) := Lib.hid ((HB1.out.alloc z1 _).drew.grown G2.out (by simp; omega) (fun x e => by cases e; omega)); have c2 := ((HT.out.below K2.out).2.1).cell; have f2 := ((HT.out.below K2.out).2.1).frozen))
  all_goals (
    have FIN := Lib.hid (drop_fin HT.out K3.out z1 O3.out (show p ≤ l.length by omega) (show p + 1 ≤ l.length by omega) HP.out hbase)
    clear HT HC1 HC2 HF hsl2
    go_wp2
    go_ret
    exact ⟨rfl, FIN.out⟩)
/-- What a change of the reference's table leaves, where it may keep its row. -/
def ChangedO (base : Nat) (w : World) (b : Nat) (sv : Value) (rs : List R) (w' : World) : Prop :=
  ∃ v', TabV base w' b v' rs ∧ Kept (fun x => x = b) w w' ∧ ∀ g, v'.ownBlock = some g → w.heap.size ≤ g ∨ sv.ownBlock = some g
theorem Changed.or {base : Nat} {w : World} {b : Nat} {rs : List R} {w' : World} (h : Changed base w b rs w') (sv : Value) : ChangedO base w b sv rs w' := by
  obtain ⟨v', h1, h2, h3⟩ := h
  exact ⟨v', h1, h2, fun g hg => .inl (h3 g hg)⟩
theorem drop_any (base : Nat) (w : World) (b : Nat) (sv : Value) (l : List R) (k : Int) (hT : TabV base w b sv l) (ha : asc l) (hn : l.length ≤ 1000) (hbase : base ≤ w.heap.size) :
    Calls Try.prog 13 #[.pointer (some ⟨b, 0, none⟩), .int .i64 k] w fun e w' => e = .returned (.bool (hasB l k)) ∧ ChangedO base w b sv (dropL l k) w' := by
  cases hh : hasB l k
  · have HF := Lib.hid (place_any base w b sv l k hT ha hn)
    rw [hh] at HF
    have HT := Lib.hid hT
    have HD : Hid (dropL l k = l) := by show _ = _; unfold dropL; rw [hh]; simp
    clear hT ha
    go_enter Try.func13, Try.ntmps13
    go_wp2_with (go_at_call 39; refine HF.out.mono ?_; rintro e w1 ⟨rfl, hb1⟩)
    go_ret
    rw [HD.out]
    exact ⟨rfl, sv, HT.out.below hb1, Kept.of_below hb1, fun g hg => .inr hg⟩
  · obtain ⟨g, cap, rfl⟩ := Go.Joins.ownsRow_form hT.2.2 (by have := (has_lt l k hh).1; omega)
    refine (drop_has base w b g cap l k hT ha hn hbase hh).mono ?_
    rintro e w' ⟨rfl, h⟩
    exact ⟨rfl, h.or _⟩
end Go.Proofs.Ytflhpijcfiamgaa.Tb.Rf
