/-
  The contract of Put at a table that lies in a roster. Conditions: at most a thousand rows; a roster of one's own.
-/
import Derived.Test.YtkoihpfgleboiaaRInsSu
namespace Go.Proofs.Ytkoihpfgleboiaa.Tb.Su
open Go.RowKit

/-- A roster's block: how many CCPs, the other table's slice, this one's. -/
def blkV (n : Int) (u sv : Value) : Array Value := #[.int .i64 n, sv, u]
/-- A roster of one's own, with this table's slice. -/
def TabB (base : Nat) (w : World) (b : Nat) (n : Int) (u sv : Value) (rs : List R) : Prop := base ≤ b ∧ w.heap[b]? = some (.cells (blkV n u sv) 77 (0, 0)) ∧ w.ownsRow base 107 1 sv rs.length (cells rs)
/-- Its blocks. -/
def OwnS (b : Nat) (v : Value) : Nat → Prop := fun x => x = b ∨ v.ownBlock = some x
theorem TabB.lt {base : Nat} {w : World} {b : Nat} {n : Int} {u sv : Value} {rs : List R} (h : TabB base w b n u sv rs) : b < w.heap.size := (Array.getElem?_eq_some_iff.1 h.2.1).1
theorem TabB.cell {base : Nat} {w : World} {b : Nat} {n : Int} {u sv : Value} {rs : List R} (h : TabB base w b n u sv rs) : w.cell? ⟨b, 1, none⟩ = some sv := by rw [cell_of_row _ _ _ _ _ _ h.2.1]; rfl
theorem TabB.frozen {base : Nat} {w : World} {b : Nat} {n : Int} {u sv : Value} {rs : List R} (h : TabB base w b n u sv rs) : w.frozen? ⟨b, 1, none⟩ = false := frozen_of_row _ _ _ _ _ h.2.1
theorem row_blk {w : World} {base : Nat} {v : Value} {rs : List R} {g : Nat} (h : w.ownsRow base 107 1 v rs.length (cells rs)) (hg : v.ownBlock = some g) : base ≤ g ∧ ∃ cur, w.heap[g]? = some (.cells cur 107 (0, 0)) := by
  rcases h.2 with ⟨rfl, _⟩ | ⟨g', cap, cur, rfl, h1, h2, _⟩
  · cases hg
  · cases hg; exact ⟨h1, cur, h2⟩
theorem TabB.ne {base : Nat} {w : World} {b : Nat} {n : Int} {u sv : Value} {rs : List R} (h : TabB base w b n u sv rs) : some b ≠ sv.ownBlock := fun e => by
  obtain ⟨_, cur, hc⟩ := row_blk h.2.2 e.symm
  rw [h.2.1] at hc
  simp at hc
theorem TabB.read {base : Nat} {w : World} {b : Nat} {n : Int} {u sv : Value} {rs : List R} (h : TabB base w b n u sv rs) : TabR w (some ⟨b, 1, none⟩) rs := .inr ⟨b, 1, sv, rfl, h.lt, h.cell, RowsR.of_own h.2.2⟩
theorem TabB.kept {base : Nat} {w w' : World} {b : Nat} {n : Int} {u sv : Value} {rs : List R} {S : Nat → Prop} (h : TabB base w b n u sv rs) (hk : Kept S w w') (hb : ¬ S b) (hv : ∀ g, sv.ownBlock = some g → ¬ S g) : TabB base w' b n u sv rs := by
  obtain ⟨h1, h2, h3, h4⟩ := h
  refine ⟨h1, hk.heap h2 hb, h3, ?_⟩
  rcases h4 with h4 | ⟨g, cap, cur, rfl, hg, hh, h5⟩
  · exact .inl h4
  · exact .inr ⟨g, cap, cur, rfl, hg, hk.heap hh (hv g rfl), h5⟩
theorem TabB.below {base : Nat} {w w' : World} {b : Nat} {n : Int} {u sv : Value} {rs : List R} (h : TabB base w b n u sv rs) (hb : Below w.heap.size w w') : TabB base w' b n u sv rs :=
  h.kept (Kept.of_below (S := fun _ => False) hb) (fun h => h) (fun _ _ h => h)
/-- What a change of this table leaves. -/
def Changed (base : Nat) (w : World) (b : Nat) (n : Int) (u sv : Value) (rs : List R) (w' : World) : Prop :=
  ∃ v', TabB base w' b n u v' rs ∧ Kept (OwnS b sv) w w'
theorem grown_set (w : World) (b o : Nat) (v : Value) : w.grownBy (w.setCell ⟨b, o, none⟩ v) (some b) := ⟨rfl, rfl, rfl, by simp [World.setCell], fun k _ hn => Below.heap_setCell _ _ _ _ (fun e => hn (by rw [e]))⟩
theorem blk_set (n : Int) (u sv v' : Value) : (blkV n u sv).setIfInBounds 1 v' = blkV n u v' := rfl
theorem putL_not (l : List R) (k : K) (v : V) (h : hasB l k = false) : putL l k v = l.take (pl l k) ++ (k, v) :: l.drop (pl l k) := by
  unfold putL
  rw [if_neg (by rw [h]; decide), Nat.add_zero]
theorem putL_has (l : List R) (k : K) (v : V) (h : hasB l k = true) : putL l k v = l.take (pl l k) ++ (k, v) :: l.drop (pl l k + 1) := by
  unfold putL
  rw [if_pos h]

theorem cells_put (l : List R) (p : Nat) (r : R) (hp : p < l.length) : (cells l).set p (ek r.1) = cells (l.take p ++ r :: l.drop (p + 1)) := by
  have e : l = l.take p ++ l[p] :: l.drop (p + 1) := by rw [← List.drop_eq_getElem_cons hp, List.take_append_drop]
  have htl : (cells (l.take p)).length = p := by rw [cells_len, List.length_take]; omega
  conv => lhs; rw [e]
  rw [cells_append, cells_append, cells_cons, cells_cons, List.set_append_right _ _ (by omega), htl, Nat.sub_self, List.set_cons_zero]
theorem row_new (w : World) (k : K) (_v : V) : ((w.alloc (.cells #[] 87)).alloc (.cells #[Value.string k] 107)).heap[(w.heap.size + 1)]? = some (.cells #[Value.string k] 107 (0, 0)) := by
  have := block_new (w.alloc (.cells #[] 87)) (.cells #[Value.string k] 107)
  simpa using this
theorem below_row (w : World) (k : K) (_v : V) : Below w.heap.size w ((w.alloc (.cells #[] 87)).alloc (.cells #[Value.string k] 107)) := ((Below.refl _ _).alloc (Nat.le_refl _) _).alloc (by simp) _
set_option maxHeartbeats 4000000 in
set_option maxRecDepth 100000 in
theorem put_any (base : Nat) (w : World) (b : Nat) (n : Int) (u sv : Value) (l : List R) (k : K) (v : V) (hT : TabB base w b n u sv l) (ha : asc l) (hn : l.length ≤ 1000) (hbase : base ≤ w.heap.size) :
    Calls Try.prog 55 #[.pointer (some ⟨b, 1, none⟩), Value.string k, (fun _ => Value.agg #[]) v] w fun e w' => e = .returned (.bool (!hasB l k)) ∧ Changed base w b n u sv (putL l k v) w' := by
  have HT := Lib.hid hT
  have hlt := hT.lt
  have hp := pl_le l k
  have b0 : Below w.heap.size w ((w.alloc (.cells #[] 87)).alloc (.cells #[Value.string k] 107)) := below_row w k v
  have hf := find_any ((w.alloc (.cells #[] 87)).alloc (.cells #[Value.string k] 107)) (some ⟨b, 1, none⟩) l k (hT.read.below b0) ha hn
  have B0 := Lib.hid b0
  have hz : Array.foldl (fun (cs : Array Value) (x : Value × Nat) => cs.setIfInBounds (1 + x.snd) x.fst) #[Value.string k] (#[] : Array Value).zipIdx 0 0 = #[Value.string k] := rfl
  clear b0
  cases hh : hasB l k
  · rw [hh] at hf
    have HF := Lib.hid hf
    have HP := Lib.hid (putL_not l k v hh)
    obtain ⟨p, hpp⟩ : ∃ p, p = pl l k := ⟨_, rfl⟩
    rw [← hpp] at HF HP hp
    clear hf hh ha hT hpp
    go_enter Try.func55, Try.ntmps55
    go_wp2_with (go_at_call 51; refine HF.out.mono ?_; rintro e w1 ⟨rfl, hb1⟩; have HB1 := Lib.hid hb1; clear hb1)
    have z1 := HB1.out.size
    have z0 := B0.out.size
    have T1 := Lib.hid ((HT.out.below B0.out).below HB1.out)
    have c1 := T1.out.cell
    have l1 := T1.out.lt
    have b1 := block_kept (row_new w k v) HB1.out
    have r1 : w1.cell? ⟨(w.heap.size + 1), 0, none⟩ = some (Value.string k) := by simp [World.cell?, b1]
    have l2 : (w.heap.size + 1) < w1.heap.size := (Array.getElem?_eq_some_iff.1 b1).1
    have HI : Hid (Calls Try.prog 67 #[sv, .int .i64 p, .slice (some ⟨w1.heap.size, 0, none⟩) 1 1] (w1.alloc (.cells #[Value.string k] 107)).drew (InsP base (w1.alloc (.cells #[Value.string k] 107)).drew sv (l.take p ++ (k, v) :: l.drop p) (l.length + 1))) :=
      insert_any base sv l (k, v) p w1.heap.size _ ((T1.out.2.2.alloc _).drew) hp hn (block_new w1 _) (fun e => by have := (T1.out.2.2.lt _ e.symm).2; omega) (by show base ≤ (w1.alloc _).heap.size; simp; omega)
    have HOB : Hid (∀ w2, (w1.alloc (.cells #[Value.string k] 107)).drew.grownBy w2 sv.ownBlock → w2.heap[b]? = some (.cells (blkV n u sv) 77 (0, 0))) := fun w2 hg => by
      have hb2 : (w1.alloc (.cells #[Value.string k] 107)).drew.heap[b]? = some (.cells (blkV n u sv) 77 (0, 0)) := block_old T1.out.2.1 _
      exact (hg.block b (Array.getElem?_eq_some_iff.1 hb2).1 T1.out.ne).trans hb2
    have HFIN : Hid (∀ w2 g cap, InsP base (w1.alloc (.cells #[Value.string k] 107)).drew sv (l.take p ++ (k, v) :: l.drop p) (l.length + 1) (.returned (.slice (some ⟨g, 0, none⟩) (l.length + 1) cap)) w2 →
        Changed base w b n u sv (putL l k v) (w2.setCell ⟨b, 1, none⟩ (.slice (some ⟨g, 0, none⟩) (l.length + 1) cap))) := fun w2 g cap hI => by
      obtain ⟨g', cap', he, ho, hg, ha⟩ := hI
      simp only [Ending.returned.injEq, Value.slice.injEq, Option.some.injEq, Addr.mk.injEq, and_true, true_and] at he
      obtain ⟨rfl, rfl⟩ := he
      have hbx := HOB.out w2 hg
      have hlen : (l.take p ++ (k, v) :: l.drop p).length = l.length + 1 := by rw [List.length_append, List.length_cons, List.length_take, List.length_drop]; omega
      rw [HP.out]
      have k01 : Kept (OwnS b sv) w (w1.alloc (.cells #[Value.string k] 107)).drew := ((Kept.of_below (B0.out.trans (HB1.out.mono (by omega)))).trans (Kept.of_alloc _ _ _)).drew
      have k12 : Kept (OwnS b sv) w w2 := k01.trans' (Kept.of_grown hg) (fun i _ e => .inr e)
      have hne : some b ≠ some g := fun e => by
        rw [← hlen] at ho
        obtain ⟨_, cur, hc⟩ := row_blk ho (g := b) e.symm
        rw [hbx] at hc
        simp at hc
      refine ⟨_, ⟨HT.out.1, heap_setCell_same w2 b 1 _ _ _ hbx, by rw [hlen]; exact ho.kept (grown_set w2 b 1 _) (.inr hne.symm)⟩, k12.trans' (Kept.of_set w2 ⟨b, 1, none⟩ _) (fun i _ e => .inl e)⟩
    clear B0 b1 z1 z0 HF
    go_region_law ((go_simp; go_at_call 67; refine HI.out.mono ?_; rintro e w2 ⟨g, cap, rfl, hi⟩; have HI2 := Lib.hid hi; clear hi; have b2 := HOB.out w2 HI2.out.2.1; have c2 : w2.cell? ⟨b, 1, none⟩ = some sv := (by rw [cell_of_row _ _ _ _ _ _ b2]; rfl); have f2 : w2.frozen? ⟨b, 1, none⟩ = false := frozen_of_row _ _ _ _ _ b2; clear b2))
    all_goals
      have FIN := Lib.hid (HFIN.out w2 g cap ⟨g, cap, rfl, HI2.out⟩)
      clear HFIN HI2 HOB HI
      go_wp2
      go_ret
      exact ⟨rfl, FIN.out⟩
  · rw [hh] at hf
    have hpl := (has_lt l k hh).1
    have HF := Lib.hid hf
    have HP := Lib.hid (putL_has l k v hh)
    obtain ⟨p, hpp⟩ : ∃ p, p = pl l k := ⟨_, rfl⟩
    rw [← hpp] at HF HP hpl
    obtain ⟨g, cap, rfl⟩ := Go.Joins.ownsRow_form hT.2.2 (by omega)
    have hglt := (hT.2.2.lt g rfl).2
    clear hf hh ha hT hpp hp
    go_enter Try.func55, Try.ntmps55
    go_wp2_with (go_at_call 51; refine HF.out.mono ?_; rintro e w1 ⟨rfl, hb1⟩; have HB1 := Lib.hid hb1; clear hb1)
    have z1 := HB1.out.size
    have z0 := B0.out.size
    have T1 := Lib.hid ((HT.out.below B0.out).below HB1.out)
    have b1 := block_kept (row_new w k v) HB1.out
    have r1 : w1.cell? ⟨(w.heap.size + 1), 0, none⟩ = some (Value.string k) := by simp [World.cell?, b1]
    have c1 := T1.out.cell
    have hcg := cells_get l p _ (List.getElem?_eq_getElem hpl)
    have q1 : w1.cell? ⟨g, p, none⟩ = some (Value.string (l[p]'hpl).1) := (T1.out.2.2.cellAt p (by omega)).trans hcg
    have q3 : w1.frozen? ⟨g, p, none⟩ = false := T1.out.2.2.frozenAt _
    have q5 : (p : Int) < (l.length : Int) := by omega
    have q6 : (0 : Int) ≤ (p : Int) := by omega
    have HFIN : Hid (Changed base w b n u (.slice (some ⟨g, 0, none⟩) l.length cap) (putL l k v) (w1.drew.setCell ⟨g, p, none⟩ (Value.string k))) := by
      have o2 := T1.out.2.2.drew.stored p (ek k)
      rw [cells_put l p (k, v) hpl] at o2
      have hbx : w1.drew.heap[b]? = some (.cells (blkV n u (.slice (some ⟨g, 0, none⟩) l.length cap)) 77 (0, 0)) := T1.out.2.1
      have hbg : some b ≠ some g := T1.out.ne
      have hlen : (l.take p ++ (k, v) :: l.drop (p + 1)).length = l.length := by rw [List.length_append, List.length_cons, List.length_take, List.length_drop]; omega
      rw [HP.out]
      have k0 : Kept (OwnS b (.slice (some ⟨g, 0, none⟩) l.length cap)) w w1.drew := (Kept.of_below (B0.out.trans (HB1.out.mono (by omega)))).drew
      have hbg' : b ≠ g := fun e => hbg (by rw [e])
      refine ⟨_, ⟨HT.out.1, block_set hbx hbg' _, by rw [hlen]; exact o2.1⟩, k0.trans' (Kept.of_grown o2.2) (fun i _ e => .inr e)⟩
    clear HF B0 hcg b1 z1 z0
    go_still_tail 7, (by kernel_rfl)
    change wpList _ _ _ _ _ w1.drew
    go_wp2
    go_ret
    exact ⟨rfl, HFIN.out⟩
end Go.Proofs.Ytkoihpfgleboiaa.Tb.Su
