/-
  A run of stores into a row: the row behind it, and what it leaves alone. Conditions: places within the row.
-/
import Derived.Test.YtganokcmcdkdgaaGreatPZ1
import Derived.Laws.IdiomCopy
import Derived.Laws.CopyOwn
import Derived.Lib.Overlaps
import Derived.Lib.AppendZerosOnto
import Derived.Laws.NewBlocks
import Derived.Shelf.Spec.SlicesInsert
import Derived.Deep.Upon
import Derived.Lib.SmallJoins
namespace Go.Proofs.YtganokcmcdkdgaaGreat.Tb
open Go.RowKit

def setL {α : Type} (L : List α) : Nat → List α → List α
  | _, [] => L
  | o, v :: r => setL (L.set o v) (o + 1) r
theorem setL_eq {α : Type} : ∀ (cs : List α) (L : List α) (o : Nat), o + cs.length ≤ L.length → setL L o cs = L.take o ++ (cs ++ L.drop (o + cs.length))
  | [], L, o, _ => by simp [setL]
  | v :: r, L, o, h => by
    have h' : o < L.length := by simp at h; omega
    rw [setL, setL_eq r _ (o + 1) (by simp at h ⊢; omega), List.take_set, List.drop_set, if_pos (by omega)]
    rw [List.take_succ_eq_append_getElem h', List.set_append_right _ _ (by rw [List.length_take]; omega), List.length_take, Nat.min_eq_left (by omega), Nat.sub_self]
    simp [show o + 1 + r.length = o + (r.length + 1) by omega]
theorem heap_setCells (g : Nat) (t : TypeId) : ∀ (cs : List Value) (o : Nat) (w : World) (cur : Array Value), w.heap[g]? = some (.cells cur t (0, 0)) → (w.setCells g o cs).heap[g]? = some (.cells (setL cur.toList o cs).toArray t (0, 0))
  | [], o, w, cur, h => by simpa [World.setCells, setL] using h
  | v :: r, o, w, cur, h => by
    rw [World.setCells, setL]
    have := heap_setCells g t r (o + 1) (w.setCell ⟨g, o, none⟩ v) (cur.setIfInBounds o v) (heap_setCell_same w g o cur t v h)
    simpa using this
theorem grownBy_setCells (g : Nat) : ∀ (cs : List Value) (o : Nat) (w : World), w.grownBy (w.setCells g o cs) (some g)
  | [], _, w => ⟨rfl, rfl, rfl, Nat.le_refl _, fun _ _ _ => rfl⟩
  | v :: r, o, w => by
    rw [World.setCells]
    have h := grownBy_setCells g r (o + 1) (w.setCell ⟨g, o, none⟩ v)
    refine ⟨h.os, h.tape, h.output, Nat.le_trans (by simp [World.setCell]) h.size, fun k hk hne => ?_⟩
    rw [h.block k (by simpa [World.setCell] using hk) hne]
    exact Below.heap_setCell _ _ _ _ (fun e => hne (by rw [e]))
theorem grownBy_trans {a b c : World} {row : Option Nat} (h : a.grownBy b row) (k : b.grownBy c row) : a.grownBy c row :=
  ⟨k.os.trans h.os, k.tape.trans h.tape, k.output.trans h.output, Nat.le_trans h.size k.size, fun i hi hn => (k.block i (Nat.lt_of_lt_of_le hi h.size) hn).trans (h.block i hi hn)⟩
theorem grownBy_drew (w : World) (row : Option Nat) : w.grownBy w.drew row := ⟨rfl, rfl, rfl, Nat.le_refl _, fun _ _ _ => rfl⟩
theorem grownBy_of_below {w w' : World} (row : Option Nat) (h : Below w.heap.size w w') : w.grownBy w' row := ⟨h.os, h.tape, h.output, h.size, fun k hk _ => h.block k hk⟩
end Go.Proofs.YtganokcmcdkdgaaGreat.Tb

namespace Go.Proofs.YtganokcmcdkdgaaGreat.Tb.Is
open Go.RowKit

theorem rowI : (Tryz.prog.info? 151).map (fun i => (i.zero, i.size, i.bytes)) = some (some (.agg #[.int .i64 0, .string ByteArray.empty]), 2, 24) := by kernel_rfl
theorem rowSize : (Tryz.prog.info? 151).map (·.size) = some 2 := by kernel_rfl
theorem run_copy_rows (w : World) (ty : TypeId) (b o dLen dCap : Nat) (a : Addr) (sLen sCap : Nat) (cs : List Value) (hn : cs.length = Nat.min sLen dLen * 2)
    (hsrc : ∀ j v, cs[j]? = some v → w.cell? (a.add j) = some v) (hc : ∀ j, j < cs.length → (w.cell? ⟨b, o + j, none⟩).isSome = true) (hf : ∀ j, j < cs.length → w.frozen? ⟨b, o + j, none⟩ = false) (h1 : ∀ v ∈ cs, v.oneCell' = true) :
    (Builtin.copy_ #[104, 104] ty #[.slice (some ⟨b, o, none⟩) dLen dCap, .slice (some a) sLen sCap]).run Tryz.prog w = .ok (goInt (Nat.min sLen dLen)) (w.setCells b o cs) := by
  have hl := run_loadCells_list (P := Tryz.prog) w a cs hsrc
  have hst := run_storeCells_cells (P := Tryz.prog) b o cs 0 w (by simpa using hc) (by simpa using hf) h1
  obtain ⟨i, hq, _, hs, _⟩ := info_parts rowI
  rw [hn] at hl
  simp [Builtin.copy_, run_underlying Tryz.underlying104, Builtin.lenOf, Builtin.firstCells, sizeOf, typeInfo, hq, hs, hl, hst]

set_option maxHeartbeats 4000000 in
set_option maxRecDepth 100000 in
theorem ins_shift (g c i vb : Nat) (l : List R) (r : R) (w : World) (cur : Array Value) (hi : i < l.length) (hn : l.length ≤ 1000) (hroom : l.length + 1 ≤ c) (_hc63 : c ≤ 9223372036854775807) (hvb : vb ≠ g)
    (hg : w.heap[g]? = some (.cells cur 151 (0, 0))) (hcs : cur.size = c * 2) (hcl : cur.toList.take (l.length * 2) = cells l) (hb : w.heap[vb]? = some (.cells #[ek r.1, ev r.2] 151 (0, 0))) :
    Calls Tryz.prog 101 #[.slice (some ⟨g, 0, none⟩) l.length c, .int .i64 i, .slice (some ⟨vb, 0, none⟩) 1 1] w fun e w' =>
      e = .returned (.slice (some ⟨g, 0, none⟩) (l.length + 1) c) ∧ w' = (w.drew.setCells g ((i + 1) * 2) (cells (l.drop i))).setCells g (i * 2) [ek r.1, ev r.2] := by
  have hov : ∀ lb cb, (callFunc 106 #[.slice (some ⟨vb, 0, none⟩) 1 1, .slice (some ⟨g, (i + 1) * 2, none⟩) lb cb]).run Tryz.prog w = .ok (.value (.bool false)) w := fun lb cb => by
    rw [run_callFunc_extern Tryz.func106 (by kernel_rfl) (by kernel_rfl) (by kernel_rfl) (e := Extern.SlicesOverlaps.overlaps #[104, 104] #[4]) (by kernel_rfl),
      Lib.run_overlaps_apart w 104 4 151 Tryz.underlying104 2 Tryz.sizeOf151 ⟨vb, 0, none⟩ ⟨g, (i + 1) * 2, none⟩ 1 1 lb cb hvb 151 151 2 (c * 2) (by simp [World.shape?, hb]) (by simp [World.shape?, hg, hcs]) (by omega) (by simp [World.frozen?, hb]) (by simp [World.frozen?, hb])]
    rfl
  obtain ⟨n, hnl⟩ : ∃ n, n = l.length := ⟨_, rfl⟩
  have hdl : (cells (l.drop i)).length = (n - i) * 2 := by rw [cells_len, List.length_drop, hnl]
  have cw : ∀ j, j < c * 2 → (w.cell? ⟨g, j, none⟩).isSome = true := fun j hj => by
    rw [cell_of_row _ _ _ _ _ _ hg, Array.getElem?_eq_getElem (by omega)]; rfl
  have fw : ∀ j, w.frozen? ⟨g, j, none⟩ = false := fun j => frozen_of_row _ _ _ _ _ hg
  have hsrc : ∀ j u, (cells (l.drop i))[j]? = some u → w.cell? ⟨g, i * 2 + j, none⟩ = some u := fun j u hj => by
    have e : (cells l)[i * 2 + j]? = some u := by
      have : cells l = cells (l.take i) ++ cells (l.drop i) := by rw [← cells_append, List.take_append_drop]
      rw [this, List.getElem?_append_right (by rw [cells_len, List.length_take]; omega), cells_len, List.length_take]
      rw [show i * 2 + j - min i l.length * 2 = j by omega]
      exact hj
    rw [← hcl, List.getElem?_take] at e
    split at e
    · rw [cell_of_row _ _ _ _ _ _ hg]; simpa using e
    · cases e
  have hcp1 : ∀ ty dc sc, (Builtin.copy_ #[104, 104] ty #[.slice (some ⟨g, (i + 1) * 2, none⟩) (n - i) dc, .slice (some ⟨g, i * 2, none⟩) (n + 1 - i) sc]).run Tryz.prog w.drew = .ok (goInt (Nat.min (n + 1 - i) (n - i))) (w.drew.setCells g ((i + 1) * 2) (cells (l.drop i))) := fun ty dc sc =>
    run_copy_rows w.drew ty g ((i + 1) * 2) (n - i) dc ⟨g, i * 2, none⟩ (n + 1 - i) sc (cells (l.drop i)) (by rw [hdl]; simp only [Nat.min_def]; split <;> omega)
      (fun j v hj => by rw [Addr.add_lit]; exact hsrc j v hj)
      (fun j hj => cw _ (by omega)) (fun j hj => fw _) (cells_one _)
  obtain ⟨W1, hW1⟩ : ∃ W1, W1 = w.drew.setCells g ((i + 1) * 2) (cells (l.drop i)) := ⟨_, rfl⟩
  have g1 : W1.heap[g]? = some (.cells (setL cur.toList ((i + 1) * 2) (cells (l.drop i))).toArray 151 (0, 0)) := by rw [hW1]; exact heap_setCells g _ _ _ _ cur hg
  have s1 : (setL cur.toList ((i + 1) * 2) (cells (l.drop i))).toArray.size = c * 2 := by
    rw [setL_eq _ _ _ (by simp; omega)]
    simp; omega
  have hb1 : W1.heap[vb]? = some (.cells #[ek r.1, ev r.2] 151 (0, 0)) := by
    rw [hW1, (grownBy_setCells g _ _ w.drew).block vb (Array.getElem?_eq_some_iff.1 hb).1 (by simpa using hvb)]
    exact hb
  have hcp2 : ∀ (W : World), W.heap = W1.heap → ∀ ty dc, (Builtin.copy_ #[104, 104] ty #[.slice (some ⟨g, i * 2, none⟩) (n + 1 - i) dc, .slice (some ⟨vb, 0, none⟩) 1 1]).run Tryz.prog W = .ok (goInt (Nat.min 1 (n + 1 - i))) (W.setCells g (i * 2) [ek r.1, ev r.2]) := fun W hW ty dc => by
    rw [← hW] at g1 hb1
    exact run_copy_rows W ty g (i * 2) (n + 1 - i) dc ⟨vb, 0, none⟩ 1 1 [ek r.1, ev r.2] (by simp only [Nat.min_def]; split <;> simp; omega)
      (fun j v hj => by
        rw [Addr.add_lit, Nat.zero_add, cell_of_row _ _ _ _ _ _ hb1]
        simpa using hj)
      (fun j hj => by
        rw [cell_of_row _ _ _ _ _ _ g1, Array.getElem?_eq_getElem (by simp at hj; omega)]; rfl)
      (fun j hj => frozen_of_row _ _ _ _ _ g1) (cells_one [r])
  rw [← hW1] at hcp1 ⊢
  have HW1 := Lib.hid hW1
  rw [← hnl] at hi hn hroom ⊢
  have hmi : Nat.min 1 (n + 1 - i) = 1 := by simp only [Nat.min_def]; split <;> omega
  rw [hmi] at hcp2
  have hz2 : ¬ ((i : Int) = (n : Int)) := by omega
  have hw1 : IntKind.i64.wrap ((i : Int) + 1) = (i : Int) + 1 := by rw [IntKind.wrap_i64]; omega
  have hb1' : (0 : Int) ≤ (i : Int) + 1 := by omega
  have hin : i ≤ n := by omega
  have htn : ((i : Int) + 1).toNat = i + 1 := by omega
  have hb2 : ¬ (c = i + 1) := by omega
  have hb3 : (i : Int) ≤ (n : Int) + 1 := by omega
  have hb4 : ¬ (c = i) := by omega
  have HG := Lib.hid hg
  have HNL := Lib.hid hnl
  clear hnl hdl cw fw hsrc g1 s1 hb1 hb hg hcs hcl hmi hW1
  go_enter Tryz.func101, Tryz.ntmps101
  go_wp2_with (simp only [hov])
  go_region_law (refine step_copy_runI rfl _ _ 104 104 rfl _ _ (by simp [Act.eval, Act.put]) (by simp [Act.eval, Act.put]) (hcp1 _ _ _) ?_)
  go_wp2_with (at_builtin; refine wpList_copy_runI _ rfl _ _ 104 104 rfl _ _ rfl rfl (hcp2 _ rfl _ _) ?_)
  go_ret
  exact ⟨rfl, rfl⟩
end Go.Proofs.YtganokcmcdkdgaaGreat.Tb.Is
