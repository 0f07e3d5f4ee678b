/-
  Put and Drop of a table that lies beside a number in one block. Conditions: at most a thousand rows.
-/
import Derived.Test.YtganokcmcdkdgaaGreatPZ3
import Derived.Test.YtganokcmcdkdgaaGreatPZ4
namespace Go.Proofs.YtganokcmcdkdgaaGreat.Tb.Is
open Go.RowKit Wi

def Bx (w : World) (b : Nat) (nx : R4 × Int) (v : Value) : Prop := TwI w b nx.1 v (.int .i64 nx.2)
section
variable {w w' : World} {b : Nat} {nx : R4 × Int} {v : Value}
theorem Bx.lt (h : Bx w b nx v) : b < w.heap.size := TwI.lt h
theorem Bx.cell (h : Bx w b nx v) : w.cell? ⟨b, 4, none⟩ = some v := TwI.c0 h
theorem Bx.frozen (h : Bx w b nx v) : w.frozen? ⟨b, 4, none⟩ = false := TwI.f0 h
theorem Bx.kept {row : Option Nat} (h : Bx w b nx v) (hg : w.grownBy w' row) (hne : some b ≠ row) : Bx w' b nx v := TwI.grown h hg (fun e => hne e.symm)
theorem Bx.alloc (h : Bx w b nx v) (o : Obj) : Bx (w.alloc o) b nx v := h.kept (World.grownBy_alloc w o none) (by simp)
theorem Bx.set (v' : Value) (h : Bx w b nx v) : Bx (w.setCell ⟨b, 4, none⟩ v') b nx v' := TwI.set0 h v'
theorem Bx.not_row {u : Value} {e : TypeId} (h : Bx w b nx u) (hte : 114 ≠ e) {base size k : Nat} {xs : List Value} (hr : w.ownsRow base e size v k xs) : some b ≠ v.ownBlock := fun e => TwI.not_row h hte hr e.symm
end
/-- A table of one's own, with its slice. -/
def TabI (base : Nat) (w : World) (b : Nat) (nx : R4 × Int) (v : Value) (rs : List R) : Prop := True ∧ Bx w b nx v ∧ w.ownsRow base 151 2 v rs.length (cells rs)
theorem TabI.read {base : Nat} {w : World} {b : Nat} {nx : R4 × Int} {v : Value} {rs : List R} (h : TabI base w b nx v rs) : TabR w (some ⟨b, 4, none⟩) rs := .inr ⟨b, v, rfl, h.2.1.lt, h.2.1.cell, RowsR.of_own h.2.2⟩
theorem TabI.kept {base : Nat} {w w' : World} {b : Nat} {nx : R4 × Int} {v : Value} {rs : List R} {S : Nat → Prop} (h : TabI base w b nx v rs) (hk : Kept S w w') (hb : ¬ S b) (hv : ∀ g, v.ownBlock = some g → ¬ S g) : TabI base w' b nx v rs := by
  obtain ⟨h1, h2, h3, h4⟩ := h
  refine ⟨h1, hk.heap h2 hb, h3, ?_⟩
  rcases h4 with h4 | ⟨g, cap, cur, rfl, hg, hh, h5⟩
  · exact .inl h4
  · exact .inr ⟨g, cap, cur, rfl, hg, hk.heap hh (hv g rfl), h5⟩
theorem TabI.below {base : Nat} {w w' : World} {b : Nat} {nx : R4 × Int} {v : Value} {rs : List R} (h : TabI base w b nx v rs) (hb : Below w.heap.size w w') : TabI base w' b nx v rs :=
  h.kept (Kept.of_below (S := fun _ => False) hb) (fun h => h) (fun _ _ h => h)
/-- What a change of a table leaves. -/
def ChangedI (base : Nat) (w : World) (b : Nat) (nx : R4 × Int) (v : Value) (rs : List R) (w' : World) : Prop :=
  ∃ v', TabI base w' b nx v' rs ∧ Kept (OwnS b v) w w' ∧ (v'.ownBlock = v.ownBlock ∨ ∃ g, v'.ownBlock = some g ∧ w.heap.size ≤ g)
set_option maxHeartbeats 4000000 in
set_option maxRecDepth 100000 in
theorem put_in (base : Nat) (w : World) (b : Nat) (nx : R4 × Int) (sv : Value) (l : List R) (k : K) (v : V) (hT : TabI base w b nx sv l) (ha : asc l) (hn : l.length ≤ 1000) (hbase : base ≤ w.heap.size) :
    Calls Tryz.prog 98 #[.pointer (some ⟨b, 4, none⟩), Value.int .i64 k, Value.string v] w fun e w' => e = .returned (.bool (!hasB l k)) ∧ ChangedI base w b nx sv (putL l k v) w' := by
  have HT := Lib.hid hT
  have hlt := hT.2.1.lt
  have hp := pl_le l k
  have b0 : Below w.heap.size w (w.alloc (.cells #[Value.int .i64 k, Value.string v] 151)) := (Below.refl _ _).alloc (Nat.le_refl _) _
  have hf := find_any (w.alloc (.cells #[Value.int .i64 k, Value.string v] 151)) (some ⟨b, 4, none⟩) l k (hT.read.below b0) ha hn
  have B0 := Lib.hid b0
  clear b0
  cases hh : hasB l k
  · rw [hh] at hf
    have HF := Lib.hid hf
    have HP := Lib.hid (putL_not l k v hh)
    obtain ⟨p, hpp⟩ : ∃ p, p = pl l k := ⟨_, rfl⟩
    rw [← hpp] at HF HP hp
    clear hf hh ha hT hpp
    go_enter Tryz.func98, Tryz.ntmps98
    go_wp2_with (go_at_call 99; refine HF.out.mono ?_; rintro e w1 ⟨rfl, hb1⟩; have HB1 := Lib.hid hb1; clear hb1)
    have z1 := HB1.out.size
    have z0 := B0.out.size
    have T1 := Lib.hid ((HT.out.below B0.out).below HB1.out)
    have c1 := T1.out.2.1.cell
    have l1 := T1.out.2.1.lt
    have b1 := block_kept (block_new w (.cells #[Value.int .i64 k, Value.string v] 151)) HB1.out
    have r1 : w1.cell? ⟨w.heap.size, 0, none⟩ = some (Value.int .i64 k) := by simp [World.cell?, b1]
    have r2 : w1.cell? ⟨w.heap.size, 1, none⟩ = some (Value.string v) := by simp [World.cell?, b1]
    have l2 : w.heap.size < w1.heap.size := (Array.getElem?_eq_some_iff.1 b1).1
    have HI : Hid (Calls Tryz.prog 101 #[sv, .int .i64 p, .slice (some ⟨w1.heap.size, 0, none⟩) 1 1] (w1.alloc (.cells #[Value.int .i64 k, Value.string v] 151)).drew (InsP base (w1.alloc (.cells #[Value.int .i64 k, Value.string v] 151)).drew sv (l.take p ++ (k, v) :: l.drop p) (l.length + 1))) :=
      insert_any base sv l (k, v) p w1.heap.size _ ((T1.out.2.2.alloc _).drew) hp hn (block_new w1 _) (fun e => by have := (T1.out.2.2.lt _ e.symm).2; omega) (by show base ≤ (w1.alloc _).heap.size; simp; omega)
    have HOB : Hid (∀ w2, (w1.alloc (.cells #[Value.int .i64 k, Value.string v] 151)).drew.grownBy w2 sv.ownBlock → Bx w2 b nx sv) := fun w2 hg => by
      have hb2 : Bx (w1.alloc (.cells #[Value.int .i64 k, Value.string v] 151)).drew b nx sv := T1.out.2.1.alloc _
      exact hb2.kept hg (T1.out.2.1.not_row (by decide) T1.out.2.2)
    have HFIN : Hid (∀ w2 g cap, InsP base (w1.alloc (.cells #[Value.int .i64 k, Value.string v] 151)).drew sv (l.take p ++ (k, v) :: l.drop p) (l.length + 1) (.returned (.slice (some ⟨g, 0, none⟩) (l.length + 1) cap)) w2 →
        ChangedI base w b nx sv (putL l k v) (w2.setCell ⟨b, 4, none⟩ (.slice (some ⟨g, 0, none⟩) (l.length + 1) cap))) := fun w2 g cap hI => by
      obtain ⟨g', cap', he, ho, hg, ha⟩ := hI
      simp only [Ending.returned.injEq, Value.slice.injEq, Option.some.injEq, Addr.mk.injEq, and_true, true_and] at he
      obtain ⟨rfl, rfl⟩ := he
      have hbx := HOB.out w2 hg
      have hlen : (l.take p ++ (k, v) :: l.drop p).length = l.length + 1 := by rw [List.length_append, List.length_cons, List.length_take, List.length_drop]; omega
      rw [HP.out]
      have k01 : Kept (OwnS b sv) w (w1.alloc (.cells #[Value.int .i64 k, Value.string v] 151)).drew := ((Kept.of_below (B0.out.trans (HB1.out.mono (by omega)))).trans (Kept.of_alloc _ _ _)).drew
      have k12 : Kept (OwnS b sv) w w2 := k01.trans' (Kept.of_grown hg) (fun i _ e => .inr e)
      refine ⟨_, ⟨HT.out.1, hbx.set _, by rw [hlen]; exact ho.kept (grownBy_set4 w2 b _) (.inr (hbx.not_row (by decide) ho).symm)⟩, k12.trans' (Kept.of_set w2 ⟨b, 4, none⟩ _) (fun i _ e => .inl e), ?_⟩
      rcases ha with ha | ha
      · exact .inl ha.symm
      · exact .inr ⟨g, rfl, by simp at ha; omega⟩
    clear B0 b1 z1 z0 HF
    go_region_law ((go_simp; go_at_call 101; refine HI.out.mono ?_; rintro e w2 ⟨g, cap, rfl, hi⟩; have HI2 := Lib.hid hi; clear hi; have c2 := (HOB.out w2 HI2.out.2.1).cell; have f2 := (HOB.out w2 HI2.out.2.1).frozen))
    all_goals
      have FIN := Lib.hid (HFIN.out w2 g cap ⟨g, cap, rfl, HI2.out⟩)
      clear HFIN HI2 HOB HI
      go_wp2
      go_ret
      exact ⟨rfl, FIN.out⟩
  · rw [hh] at hf
    have hpl := (has_lt l k hh).1
    have HF := Lib.hid hf
    have HP := Lib.hid (putL_has l k v hh)
    obtain ⟨p, hpp⟩ : ∃ p, p = pl l k := ⟨_, rfl⟩
    rw [← hpp] at HF HP hpl
    obtain ⟨g, cap, rfl⟩ := Go.Joins.ownsRow_form hT.2.2 (by omega)
    have hglt := (hT.2.2.lt g rfl).2
    clear hf hh ha hT hpp hp
    go_enter Tryz.func98, Tryz.ntmps98
    go_wp2_with (go_at_call 99; refine HF.out.mono ?_; rintro e w1 ⟨rfl, hb1⟩; have HB1 := Lib.hid hb1; clear hb1)
    have z1 := HB1.out.size
    have z0 := B0.out.size
    have T1 := Lib.hid ((HT.out.below B0.out).below HB1.out)
    have b1 := block_kept (block_new w (.cells #[Value.int .i64 k, Value.string v] 151)) HB1.out
    have r1 : w1.cell? ⟨w.heap.size, 0, none⟩ = some (Value.int .i64 k) := by simp [World.cell?, b1]
    have r2 : w1.cell? ⟨w.heap.size, 1, none⟩ = some (Value.string v) := by simp [World.cell?, b1]
    have c1 := T1.out.2.1.cell
    have hcg := cells_get l p _ (List.getElem?_eq_getElem hpl)
    have q1 : w1.cell? ⟨g, p * 2, none⟩ = some (Value.int .i64 (l[p]'hpl).1) := (T1.out.2.2.cellAt (p * 2) (by omega)).trans hcg.1
    have q2 : w1.cell? ⟨g, p * 2 + 1, none⟩ = some (Value.string (l[p]'hpl).2) := (T1.out.2.2.cellAt (p * 2 + 1) (by omega)).trans hcg.2
    have q3 : w1.frozen? ⟨g, p * 2, none⟩ = false := T1.out.2.2.frozenAt _
    have q4 : w1.frozen? ⟨g, p * 2 + 1, none⟩ = false := T1.out.2.2.frozenAt _
    have q5 : (p : Int) < (l.length : Int) := by omega
    have q6 : (0 : Int) ≤ (p : Int) := by omega
    have HFIN : Hid (ChangedI base w b nx (.slice (some ⟨g, 0, none⟩) l.length cap) (putL l k v) ((w1.drew.setCell ⟨g, p * 2, none⟩ (Value.int .i64 k)).setCell ⟨g, p * 2 + 1, none⟩ (Value.string v))) := by
      have o1 := T1.out.2.2.drew.stored (p * 2) (ek k)
      have o2 := o1.1.stored (p * 2 + 1) (ev v)
      rw [cells_put l p (k, v) hpl] at o2
      have hbx : Bx w1.drew b nx (.slice (some ⟨g, 0, none⟩) l.length cap) := T1.out.2.1
      have hbg : some b ≠ some g := T1.out.2.1.not_row (by decide) T1.out.2.2
      have hlen : (l.take p ++ (k, v) :: l.drop (p + 1)).length = l.length := by rw [List.length_append, List.length_cons, List.length_take, List.length_drop]; omega
      rw [HP.out]
      have k0 : Kept (OwnS b (.slice (some ⟨g, 0, none⟩) l.length cap)) w w1.drew := (Kept.of_below (B0.out.trans (HB1.out.mono (by omega)))).drew
      refine ⟨_, ⟨HT.out.1, (hbx.kept o1.2 hbg).kept o2.2 hbg, by rw [hlen]; exact o2.1⟩, (k0.trans' (Kept.of_grown o1.2) (fun i _ e => .inr e)).trans' (Kept.of_grown o2.2) (fun i _ e => .inr e), .inl rfl⟩
    clear HF B0 hcg b1 z1 z0
    go_still_tail 7, (by kernel_rfl)
    change wpList _ _ _ _ _ w1.drew
    go_wp2
    go_ret
    exact ⟨rfl, HFIN.out⟩
set_option maxHeartbeats 4000000 in
set_option maxRecDepth 100000 in
theorem drop_in (base : Nat) (w : World) (b : Nat) (nx : R4 × Int) (sv : Value) (l : List R) (k : K) (hT : TabI base w b nx sv l) (ha : asc l) (hn : l.length ≤ 1000) :
    Calls Tryz.prog 94 #[.pointer (some ⟨b, 4, none⟩), Value.int .i64 k] w fun e w' => e = .returned (.bool (hasB l k)) ∧ ChangedI base w b nx sv (dropL l k) w' := by
  have HT := Lib.hid hT
  have hf := find_any w (some ⟨b, 4, none⟩) l k hT.read ha hn
  cases hh : hasB l k
  · rw [hh] at hf
    have HF := Lib.hid hf
    have HP := Lib.hid (dropL_not l k hh)
    clear hf hh ha hT
    go_enter Tryz.func94, Tryz.ntmps94
    go_wp2_with (go_at_call 99; refine HF.out.mono ?_; rintro e w1 ⟨rfl, hb1⟩)
    go_ret
    rw [HP.out]
    exact ⟨rfl, sv, HT.out.below hb1, Kept.of_below hb1, .inl rfl⟩
  · rw [hh] at hf
    have hpl := (has_lt l k hh).1
    have HF := Lib.hid hf
    have HP := Lib.hid (dropL_has l k hh)
    obtain ⟨p, hpp⟩ : ∃ p, p = pl l k := ⟨_, rfl⟩
    rw [← hpp] at HF HP hpl
    have h0 : l.length ≠ 0 := by omega
    rcases hT.2.2.2 with h | ⟨g, cap, cur, rfl, hg, hgh, hnc, hcm, hcs, hct⟩
    · exact absurd h.2 h0
    have hlt := hT.2.1.lt
    have hbg : b ≠ g := fun e => hT.2.1.not_row (by decide) hT.2.2 (by rw [e]; rfl)
    have hp1 : IntKind.i64.wrap ((p : Int) + 1) = (p : Int) + 1 := by rw [IntKind.wrap_i64]; omega
    have hdl := del_list l p hpl cur.toList cap (by simpa using hcs) hnc hct
    have HD : Hid (∀ W : World, Below w.heap.size w W → Calls Tryz.prog 100 #[.slice (some ⟨g, 0, none⟩) l.length cap, .int .i64 p, .int .i64 ((p : Int) + 1)] W fun e w' => ∃ m, e = .returned (.slice (some ⟨g, 0, none⟩) m cap) ∧ w'.cell? ⟨b, 4, none⟩ = some (.slice (some ⟨g, 0, none⟩) l.length cap) ∧ w'.frozen? ⟨b, 4, none⟩ = false ∧ ChangedI base w b nx (.slice (some ⟨g, 0, none⟩) l.length cap) (dropL l k) (w'.setCell ⟨b, 4, none⟩ (.slice (some ⟨g, 0, none⟩) m cap))) := fun W hW => by
      have hgW : W.heap[g]? = some (.cells cur 151 (0, 0)) := block_kept hgh hW
      have hd := delete_one g cap p (p + 1) l.length W cur (cells (l.drop (p + 1))) rfl hpl hn hnc (by unfold maxLen at hcm; omega) hgW hcs (by rw [cells_len, List.length_drop]) (fun t u hu => by
        have e0 : cells l = cells (l.take (p + 1)) ++ cells (l.drop (p + 1)) := by rw [← cells_append, List.take_append_drop]
        have e1 : (cells l)[(p + 1) * 2 + t]? = some u := by
          rw [e0, List.getElem?_append_right (by rw [cells_len, List.length_take]; omega), cells_len, List.length_take, show (p + 1) * 2 + t - min (p + 1) l.length * 2 = t by omega]
          exact hu
        have e2 : (p + 1) * 2 + t < l.length * 2 := by have := (List.getElem?_eq_some_iff.1 e1).1; rwa [cells_len] at this
        rw [← hct, List.getElem?_take_of_lt e2, Array.getElem?_toList] at e1
        exact e1) (cells_one _)
      refine hd.mono ?_
      rintro e w' ⟨rfl, rfl⟩
      have n2 := heap_setCells g 151 (cells (l.drop (p + 1))) (p * 2) W.drew _ hgW
      have n3 := heap_setCells g 151 [.int .i64 0, .string ByteArray.empty] ((p + (l.length - (p + 1))) * 2) (W.drew.setCells g (p * 2) (cells (l.drop (p + 1)))) _ n2
      have k1 := grownBy_trans (grownBy_drew W (some g)) (grownBy_setCells g (cells (l.drop (p + 1))) (p * 2) W.drew)
      have k2 := grownBy_trans k1 (grownBy_setCells g [.int .i64 0, .string ByteArray.empty] ((p + (l.length - (p + 1))) * 2) (W.drew.setCells g (p * 2) (cells (l.drop (p + 1)))))
      obtain ⟨W2, hW2⟩ : ∃ W2, W2 = (W.drew.setCells g (p * 2) (cells (l.drop (p + 1)))).setCells g ((p + (l.length - (p + 1))) * 2) [.int .i64 0, .string ByteArray.empty] := ⟨_, rfl⟩
      rw [← hW2] at n3 k2 ⊢
      have hlen : (l.take p ++ l.drop (p + 1)).length = p + (l.length - (p + 1)) := by rw [List.length_append, List.length_take, List.length_drop]; omega
      have own := ins_own (l2 := l.take p ++ l.drop (p + 1)) hg n3 hlen (by omega) hcm (by simpa using hdl.2) (by simpa using hdl.1)
      have bx : Bx W2 b nx (.slice (some ⟨g, 0, none⟩) l.length cap) := (hT.below hW).2.1.kept k2 (fun e => hbg (Option.some.inj e))
      rw [HP.out]
      have k0 : Kept (OwnS b (.slice (some ⟨g, 0, none⟩) l.length cap)) w W := Kept.of_below hW
      exact ⟨_, rfl, bx.cell, bx.frozen, _, ⟨HT.out.1, bx.set _, own.kept (grownBy_set4 W2 b _) (.inr (bx.not_row (by decide) own).symm)⟩, (k0.trans' (Kept.of_grown k2) (fun i _ e => .inr e)).trans' (Kept.of_set W2 ⟨b, 4, none⟩ _) (fun i _ e => .inl e), .inl rfl⟩
    clear hf hh ha hT hpp
    have HPB := Lib.hid HF
    go_enter Tryz.func94, Tryz.ntmps94
    go_wp2_with (first
      | (go_at_call 99; refine HF.out.mono ?_; rintro e w1 ⟨rfl, hb1⟩; have HB1 := Lib.hid hb1; clear hb1; have c1 := (HT.out.below HB1.out).2.1.cell)
      | (go_at_call 100; refine (HD.out _ HB1.out).mono ?_; rintro e w2 ⟨m, rfl, c2, f2, hch⟩; have HCH := Lib.hid hch; clear hch))
    go_ret
    exact ⟨rfl, HCH.out⟩
end Go.Proofs.YtganokcmcdkdgaaGreat.Tb.Is
