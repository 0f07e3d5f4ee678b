/-
  Memory: what a call that may write some blocks keeps; the contracts of cmp.Compare and of the references' small words. Conditions: none.
-/
import Derived.Test.YtganokcmcdkdgaaGreatTMath
import Derived.Test.YtganokcmcdkdgaaGreatRows
import Derived.RangeFuncNested
import Derived.RangeFuncBound
import Derived.RangeFuncCalls
import Derived.RangeFuncLeaves
import Derived.RangeFuncBox
import Derived.Shelf.Abstract
import Derived.Shelf.RegionOpen
import Derived.OwnWalkIn
import Derived.TacticsInMore
import Derived.LoopNIn
import Derived.LoopIn
import Derived.WalkKit
import Derived.WalkSpells
import Derived.WalkLawsBesides
import Derived.Deep.Draws
import Derived.Below
import Derived.Deep.LoopGhost
import Derived.Deep.CutBlock
import Derived.Deep.QuietTactic
import Derived.Deep.RegionLaw
import Derived.Deep.AppendLies
import Derived.BigQuiet
import Derived.Lib.Hide
import Derived.Lib.SliceRun
import Derived.Outline
import Derived.IntWalk
import Derived.Laws.OwnMore
namespace Go.Proofs.YtganokcmcdkdgaaGreat.Tb
open Go.RowKit

theorem bcell {W w1 : World} (hb : Below W.heap.size W w1) : (∀ b o, b < W.heap.size → w1.cell? ⟨b, o, none⟩ = W.cell? ⟨b, o, none⟩) ∧ (∀ b o, b < W.heap.size → w1.frozen? ⟨b, o, none⟩ = W.frozen? ⟨b, o, none⟩) :=
  ⟨fun b o h => hb.cell (p := ⟨b, o, none⟩) h, fun b o h => hb.frozen (p := ⟨b, o, none⟩) h⟩
theorem below_drewN {B : Nat} {a w : World} (h : Below B a w) (n : Nat) : Below B a (w.drewN n) := ⟨h.os, h.tape, h.output, h.size, h.block⟩
theorem ret_int {k : IntKind} {a b : Int} (h : a = b) : Ending.returned (.int k a) = .returned (.int k b) := by rw [h]
theorem ret_bool {a b : Bool} (h : a = b) : Ending.returned (.bool a) = .returned (.bool b) := by rw [h]
theorem block_kept {W w' : World} {b : Nat} {o : Obj} (hb : W.heap[b]? = some o) (hcl : Below W.heap.size W w') : w'.heap[b]? = some o :=
  (hcl.block b (Array.getElem?_eq_some_iff.1 hb).1).trans hb
theorem block_new (w : World) (o : Obj) : (w.alloc o).heap[w.heap.size]? = some o := heap_alloc_new w o
theorem block_old {w : World} {b : Nat} {x : Obj} (h : w.heap[b]? = some x) (o : Obj) : (w.alloc o).heap[b]? = some x := by
  rw [Below.heap_alloc w o b (Array.getElem?_eq_some_iff.1 h).1]; exact h
theorem block_set {w : World} {b : Nat} {x : Obj} (h : w.heap[b]? = some x) {p : Addr} (hne : b ≠ p.block) (u : Value) : (w.setCell p u).heap[b]? = some x :=
  (Below.heap_setCell w p u b hne).trans h
theorem block_cell {w : World} {b : Nat} {x : Value} {t : TypeId} (h : w.heap[b]? = some (.cells #[x] t (0, 0))) : w.cell? ⟨b, 0, none⟩ = some x ∧ w.frozen? ⟨b, 0, none⟩ = false :=
  ⟨by simp [World.cell?, h], by simp [World.frozen?, h]⟩
theorem block_put {w : World} {b : Nat} {x : Value} {t : TypeId} (h : w.heap[b]? = some (.cells #[x] t (0, 0))) (u : Value) : (w.setCell ⟨b, 0, none⟩ u).heap[b]? = some (.cells #[u] t (0, 0)) := by
  simp only [World.setCell, Array.getElem?_modify, if_true]; rw [h]; rfl

/-- All blocks but those of S are as they were. -/
structure Kept (S : Nat → Prop) (w w' : World) : Prop where
  os : w'.os = w.os
  tape : w'.tape = w.tape
  output : w'.output = w.output
  size : w.heap.size ≤ w'.heap.size
  block : ∀ k, k < w.heap.size → ¬ S k → w'.heap[k]? = w.heap[k]?
theorem Kept.refl (S : Nat → Prop) (w : World) : Kept S w w := ⟨rfl, rfl, rfl, Nat.le_refl _, fun _ _ _ => rfl⟩
theorem Kept.trans {S : Nat → Prop} {a b c : World} (h : Kept S a b) (k : Kept S b c) : Kept S a c :=
  ⟨k.os.trans h.os, k.tape.trans h.tape, k.output.trans h.output, Nat.le_trans h.size k.size, fun i hi hs => (k.block i (Nat.lt_of_lt_of_le hi h.size) hs).trans (h.block i hi hs)⟩
/-- Of two steps the second may write what is new since the first began. -/
theorem Kept.trans' {S T : Nat → Prop} {a b c : World} (h : Kept S a b) (k : Kept T b c) (hT : ∀ i, i < a.heap.size → T i → S i) : Kept S a c :=
  ⟨k.os.trans h.os, k.tape.trans h.tape, k.output.trans h.output, Nat.le_trans h.size k.size, fun i hi hs => (k.block i (Nat.lt_of_lt_of_le hi h.size) (fun ht => hs (hT i hi ht))).trans (h.block i hi hs)⟩
theorem Kept.of_below {S : Nat → Prop} {w w' : World} (h : Below w.heap.size w w') : Kept S w w' := ⟨h.os, h.tape, h.output, h.size, fun k hk _ => h.block k hk⟩
theorem Kept.below {S : Nat → Prop} {B : Nat} {w w' : World} (h : Kept S w w') (hB : B ≤ w.heap.size) (hS : ∀ k, k < B → ¬ S k) : Below B w w' := ⟨h.os, h.tape, h.output, h.size, fun k hk => h.block k (by omega) (hS k hk)⟩
theorem Kept.mono {S T : Nat → Prop} {w w' : World} (h : Kept S w w') (hS : ∀ k, k < w.heap.size → S k → T k) : Kept T w w' := ⟨h.os, h.tape, h.output, h.size, fun k hk hn => h.block k hk (fun hs => hn (hS k hk hs))⟩
theorem Kept.of_grown {w w' : World} {row : Option Nat} (h : w.grownBy w' row) : Kept (fun k => row = some k) w w' := ⟨h.os, h.tape, h.output, h.size, fun k hk hn => h.block k hk (fun e => hn e.symm)⟩
theorem Kept.of_set (w : World) (p : Addr) (u : Value) : Kept (fun k => k = p.block) w (w.setCell p u) := ⟨rfl, rfl, rfl, by simp [World.setCell], fun k _ hn => Below.heap_setCell _ _ _ _ hn⟩
theorem Kept.of_alloc (S : Nat → Prop) (w : World) (o : Obj) : Kept S w (w.alloc o) := ⟨rfl, rfl, rfl, by simp, fun k hk _ => Below.heap_alloc _ _ _ hk⟩
theorem Kept.drewN {S : Nat → Prop} {a w : World} (h : Kept S a w) (n : Nat) : Kept S a (w.drewN n) := ⟨h.os, h.tape, h.output, h.size, h.block⟩
theorem Kept.drew {S : Nat → Prop} {a w : World} (h : Kept S a w) : Kept S a w.drew := ⟨h.os, h.tape, h.output, h.size, h.block⟩
theorem Kept.heap {S : Nat → Prop} {w w' : World} (h : Kept S w w') {b : Nat} {o : Obj} (hb : w.heap[b]? = some o) (hs : ¬ S b) : w'.heap[b]? = some o := (h.block b (Array.getElem?_eq_some_iff.1 hb).1 hs).trans hb

/-! ### cmp.Compare over int -/
set_option maxRecDepth 100000 in
theorem isNaN_int (a : Int) (w : World) : Calls Tryz.prog 108 #[.int .i64 a] w fun e w' => e = .returned (.bool false) ∧ w = w' := by
  go_enter Tryz.func108, Tryz.ntmps108
  go_wp2
  go_ret
  exact ⟨rfl, rfl⟩
set_option maxRecDepth 100000 in
theorem compare_int (a b : Int) (w : World) : Calls Tryz.prog 105 #[.int .i64 a, .int .i64 b] w fun e w' => e = .returned (.int .i64 (cmpK a b)) ∧ w = w' := by
  by_cases h1 : a < b
  · have e : Hid (cmpK a b = -1) := by show _ = _; unfold cmpK; rw [if_pos (by rw [ltI]; exact decide_eq_true h1)]
    go_enter Tryz.func105, Tryz.ntmps105
    go_wp2_with (go_at_call 108; refine (isNaN_int _ _).mono ?_; rintro e w' ⟨rfl, rfl⟩)
    go_ret
    exact ⟨ret_int e.out.symm, rfl⟩
  · by_cases h2 : b < a
    · have e : Hid (cmpK a b = 1) := by show _ = _; unfold cmpK; rw [if_neg (by rw [ltI]; simpa using h1), if_pos (by rw [ltI]; exact decide_eq_true h2)]
      go_enter Tryz.func105, Tryz.ntmps105
      go_wp2_with (go_at_call 108; refine (isNaN_int _ _).mono ?_; rintro e w' ⟨rfl, rfl⟩)
      go_ret
      exact ⟨ret_int e.out.symm, rfl⟩
    · have e : Hid (cmpK a b = 0) := by show _ = _; unfold cmpK; rw [if_neg (by rw [ltI]; simpa using h1), if_neg (by rw [ltI]; simpa using h2)]
      go_enter Tryz.func105, Tryz.ntmps105
      go_wp2_with (go_at_call 108; refine (isNaN_int _ _).mono ?_; rintro e w' ⟨rfl, rfl⟩)
      go_ret
      exact ⟨ret_int e.out.symm, rfl⟩
end Go.Proofs.YtganokcmcdkdgaaGreat.Tb

namespace Go.Proofs.YtganokcmcdkdgaaGreat.Tb.Is
open Go.RowKit

abbrev K := Int
abbrev V := ByteArray
abbrev R := K × V
def ek (k : K) : Value := Value.int .i64 k
def ev (v : V) : Value := Value.string v
def cells (l : List R) : List Value := l.flatMap fun r => [ek r.1, ev r.2]
theorem cells_cons (r : R) (l : List R) : cells (r :: l) = ek r.1 :: ev r.2 :: cells l := rfl
theorem cells_append (a b : List R) : cells (a ++ b) = cells a ++ cells b := by simp [cells]
theorem cells_len : ∀ l : List R, (cells l).length = l.length * 2
  | [] => rfl
  | r :: l => by rw [cells_cons, List.length_cons, List.length_cons, cells_len l, List.length_cons]; omega
theorem cells_get : ∀ (l : List R) (i : Nat) (r : R), l[i]? = some r → (cells l)[i * 2]? = some (ek r.1) ∧ (cells l)[i * 2 + 1]? = some (ev r.2)
  | [], _, _, h => by simp at h
  | a :: l, 0, r, h => by simp at h; subst h; exact ⟨rfl, rfl⟩
  | a :: l, i + 1, r, h => by
    have := cells_get l i r (by simpa using h)
    rw [cells_cons, show (i + 1) * 2 = i * 2 + 1 + 1 by omega]
    simpa using this
theorem cells_inv : ∀ (l : List R) (j : Nat) (u : Value), (cells l)[j]? = some u → ∃ i r, l[i]? = some r ∧ ((j = i * 2 ∧ u = ek r.1) ∨ (j = i * 2 + 1 ∧ u = ev r.2))
  | [], j, u, h => by simp [cells] at h
  | a :: l, 0, u, h => by rw [cells_cons] at h; simp at h; exact ⟨0, a, rfl, .inl ⟨rfl, h.symm⟩⟩
  | a :: l, 1, u, h => by rw [cells_cons] at h; simp at h; exact ⟨0, a, rfl, .inr ⟨rfl, h.symm⟩⟩
  | a :: l, j + 2, u, h => by
    rw [cells_cons] at h
    obtain ⟨i, r, hi, h⟩ := cells_inv l j u (by simpa using h)
    exact ⟨i + 1, r, by simpa using hi, h.elim (fun h => .inl ⟨by omega, h.2⟩) (fun h => .inr ⟨by omega, h.2⟩)⟩
theorem cells_one (l : List R) : ∀ u ∈ cells l, u.oneCell' = true := fun u hu => by
  obtain ⟨r, _, h⟩ := List.mem_flatMap.1 hu
  simp at h
  rcases h with rfl | rfl <;> rfl

/-- The slice value v reads as the rows l. -/
def RowsR (w : World) (v : Value) (l : List R) : Prop := ∃ A cap, v = .slice A l.length cap ∧ l.length ≤ cap ∧ (A = none → cap = 0) ∧
  ((l = [] ∧ A = none) ∨ ∃ g o, A = some ⟨g, o, none⟩ ∧ g < w.heap.size ∧ ∀ i r, l[i]? = some r → w.cell? ⟨g, o + i * 2, none⟩ = some (ek r.1) ∧ w.cell? ⟨g, o + i * 2 + 1, none⟩ = some (ev r.2))
theorem RowsR.below {w w' : World} {v : Value} {l : List R} (h : RowsR w v l) (hb : Below w.heap.size w w') : RowsR w' v l := by
  obtain ⟨A, cap, e, h1, h2, h3⟩ := h
  refine ⟨A, cap, e, h1, h2, ?_⟩
  rcases h3 with h3 | ⟨g, o, e, hg, hc⟩
  · exact .inl h3
  · exact .inr ⟨g, o, e, Nat.lt_of_lt_of_le hg hb.size, fun i r hi => by
      have := hc i r hi
      exact ⟨(hb.cell (p := ⟨g, o + i * 2, none⟩) hg).trans this.1, (hb.cell (p := ⟨g, o + i * 2 + 1, none⟩) hg).trans this.2⟩⟩
theorem RowsR.kept {w w' : World} {v : Value} {l : List R} {S : Nat → Prop} (h : RowsR w v l) (hb : Kept S w w') (hS : ∀ k, v.ownBlock = some k → ¬ S k) : RowsR w' v l := by
  obtain ⟨A, cap, rfl, h1, h2, h3⟩ := h
  refine ⟨A, cap, rfl, h1, h2, ?_⟩
  rcases h3 with h3 | ⟨g, o, rfl, hg, hc⟩
  · exact .inl h3
  · have hk := hb.block g hg (hS g rfl)
    exact .inr ⟨g, o, rfl, Nat.lt_of_lt_of_le hg hb.size, fun i r hi => by
      have := hc i r hi
      exact ⟨(World.cell?_of_block (w := w) (a := ⟨g, o + i * 2, none⟩) hk).trans this.1, (World.cell?_of_block (w := w) (a := ⟨g, o + i * 2 + 1, none⟩) hk).trans this.2⟩⟩
theorem RowsR.nil (w : World) : RowsR w (.slice none 0 0) [] := ⟨none, 0, rfl, Nat.le_refl _, fun _ => rfl, .inl ⟨rfl, rfl⟩⟩
theorem RowsR.of_own {w : World} {base : Nat} {v : Value} {l : List R} (h : w.ownsRow base 151 2 v l.length (cells l)) : RowsR w v l := by
  obtain ⟨_, h⟩ := h
  rcases h with ⟨rfl, hl⟩ | ⟨g, cap, cur, rfl, hg, hh, hc, _, hs, ht⟩
  · have : l = [] := List.length_eq_zero_iff.1 hl
    subst this
    exact RowsR.nil w
  · refine ⟨some ⟨g, 0, none⟩, cap, rfl, hc, fun e => (by cases e), .inr ⟨g, 0, rfl, (Array.getElem?_eq_some_iff.1 hh).1, fun i r hi => ?_⟩⟩
    have hlt : i < l.length := (List.getElem?_eq_some_iff.1 hi).1
    have hcg := cells_get l i r hi
    rw [← ht, List.getElem?_take, if_pos (by omega), List.getElem?_take, if_pos (by omega)] at hcg
    rw [Nat.zero_add, cell_of_row _ g (i * 2) _ _ _ hh, cell_of_row _ g (i * 2 + 1) _ _ _ hh]
    simpa using hcg

/-- The pointer p reads as the table of the rows l. -/
def TabR (w : World) (p : Option Addr) (l : List R) : Prop := (p = none ∧ l = []) ∨ ∃ b v, p = some ⟨b, 4, none⟩ ∧ b < w.heap.size ∧ w.cell? ⟨b, 4, none⟩ = some v ∧ RowsR w v l
theorem TabR.below {w w' : World} {p : Option Addr} {l : List R} (h : TabR w p l) (hb : Below w.heap.size w w') : TabR w' p l := by
  rcases h with h | ⟨b, v, e, hlt, hc, hr⟩
  · exact .inl h
  · exact .inr ⟨b, v, e, Nat.lt_of_lt_of_le hlt hb.size, (hb.cell (p := ⟨b, 4, none⟩) hlt).trans hc, hr.below hb⟩

set_option maxRecDepth 100000 in
theorem all_nil (w : World) : Calls Tryz.prog 103 #[.pointer none] w fun e w' => e = .returned (.slice none 0 0) ∧ w = w' := by
  go_enter Tryz.func103, Tryz.ntmps103
  go_wp2
  go_ret
  exact ⟨rfl, rfl⟩
set_option maxRecDepth 100000 in
theorem all_some (w : World) (b : Nat) (v : Value) (hc : w.cell? ⟨b, 4, none⟩ = some v) : Calls Tryz.prog 103 #[.pointer (some ⟨b, 4, none⟩)] w fun e w' => e = .returned v ∧ w = w' := by
  go_enter Tryz.func103, Tryz.ntmps103
  go_wp2
  go_ret
  exact ⟨rfl, rfl⟩
theorem all_any (w : World) (p : Option Addr) (l : List R) (h : TabR w p l) : ∃ v, RowsR w v l ∧ ∀ W, Below w.heap.size w W → Calls Tryz.prog 103 #[.pointer p] W fun e w' => e = .returned v ∧ W = w' := by
  rcases h with ⟨rfl, rfl⟩ | ⟨b, v, rfl, hlt, hc, hr⟩
  · exact ⟨_, RowsR.nil w, fun W _ => all_nil W⟩
  · exact ⟨v, hr, fun W hW => all_some W b v ((hW.cell (p := ⟨b, 4, none⟩) hlt).trans hc)⟩
/-! ### The place of a key -/
set_option maxRecDepth 100000 in
theorem findc_any (r : R) (k : K) (w : World) : Calls Tryz.prog 104 #[.agg #[ek r.1, ev r.2], ek k] w fun e w' => e = .returned (.int .i64 (cmpK r.1 k)) ∧ Below w.heap.size w w' := by
  have hc := fun w => compare_int r.1 k w
  obtain ⟨x, hx⟩ : ∃ x, x = cmpK r.1 k := ⟨_, rfl⟩
  rw [← hx] at hc ⊢
  have HC := Lib.hid hc
  clear hc hx
  unfold ek ev
  go_enter Tryz.func104, Tryz.ntmps104
  go_wp2_with (go_at_call 105; refine (HC.out _).mono ?_; rintro e w' ⟨rfl, rfl⟩)
  go_ret
  exact ⟨rfl, (Below.refl _ _).alloc (Nat.le_refl _) _⟩

set_option maxRecDepth 100000 in
set_option maxHeartbeats 4000000 in
theorem bsearch_any (w : World) (v : Value) (l : List R) (k : K) (h : RowsR w v l) (ha : asc l) (hn : l.length ≤ 1000) :
    Calls Tryz.prog 102 #[v, ek k, .func (.func 104) #[] #[]] w fun e w' => e = .returned (.tuple #[.int .i64 (pl l k), .bool (hasB l k)]) ∧ Below w.heap.size w w' := by
  obtain ⟨A, cap, rfl, _, _, h3⟩ := h
  have HA := Lib.hid ha
  have H3 := Lib.hid h3
  clear ha h3
  go_enter Tryz.func102, Tryz.ntmps102
  go_wp2
  go_loopg [9, 10] l.length (fun (gh : Nat) si sj wx => ∃ i j : Nat, gh = j - i ∧ i ≤ pl l k ∧ pl l k ≤ j ∧ j ≤ l.length ∧ si = .int .i64 (i : Int) ∧ sj = .int .i64 (j : Int) ∧ Below w.heap.size w wx)
  case atStart => exact ⟨0, l.length, rfl, Nat.zero_le _, pl_le l k, Nat.le_refl _, rfl, rfl, Below.refl _ _⟩
  case round =>
    obtain ⟨i, j, rfl, hi, hj, hjl, rfl, rfl, hb⟩ := hrel
    by_cases hij : i < j
    · have hm1 : i ≤ (i + j) / 2 := by omega
      have hm2 : (i + j) / 2 < j := by omega
      obtain ⟨r, hr⟩ : ∃ r, l[(i + j) / 2]? = some r := ⟨_, List.getElem?_eq_getElem (by omega)⟩
      have hiff := pl_iff l k HA.out ((i + j) / 2) r hr
      rcases H3.out with ⟨rfl, rfl⟩ | ⟨g, o, rfl, hg, hcell⟩
      · simp at hr
      have hc := hcell ((i + j) / 2) r hr
      have c1 : wr.cell? ⟨g, o + (i + j) / 2 * 2, none⟩ = some (ek r.1) := (hb.cell (p := ⟨g, o + (i + j) / 2 * 2, none⟩) hg).trans hc.1
      have c2 : wr.cell? ⟨g, o + (i + j) / 2 * 2 + 1, none⟩ = some (ev r.2) := (hb.cell (p := ⟨g, o + (i + j) / 2 * 2 + 1, none⟩) hg).trans hc.2
      have hcall := fun w => findc_any r k w
      have hneg := cmpK_neg r.1 k
      obtain ⟨x, hx⟩ : ∃ x, x = cmpK r.1 k := ⟨_, rfl⟩
      rw [← hx] at hcall hneg
      have HF := Lib.hid (hneg.trans hiff)
      have HC := Lib.hid hcall
      have HB := Lib.hid hb
      clear hc hcall hx hneg hiff hr hcell hb
      by_cases hx : x < 0
      · go_wp2_with (go_at_call 104; refine (HC.out _).mono ?_; rintro e w1 ⟨rfl, hb1⟩)
        have hlt := HF.out.1 hx
        go_roundg (j - ((i + j) / 2 + 1))
        case measure => omega
        case rel => exact ⟨(i + j) / 2 + 1, j, rfl, hlt, hj, hjl, by go_num, rfl, HB.out.trans (hb1.mono HB.out.size)⟩
      · go_wp2_with (go_at_call 104; refine (HC.out _).mono ?_; rintro e w1 ⟨rfl, hb1⟩)
        have hlt : ¬ (i + j) / 2 < pl l k := fun h => by have := HF.out.2 h; omega
        go_roundg ((i + j) / 2 - i)
        case measure => omega
        case rel => exact ⟨i, (i + j) / 2, rfl, hi, by omega, by omega, rfl, by go_num, HB.out.trans (hb1.mono HB.out.size)⟩
    · obtain rfl : i = pl l k := by omega
      by_cases hlt : pl l k < l.length
      · obtain ⟨r, hr⟩ : ∃ r, l[pl l k]? = some r := ⟨_, List.getElem?_eq_getElem (by omega)⟩
        rcases H3.out with ⟨rfl, rfl⟩ | ⟨g, o, rfl, hg, hcell⟩
        · simp at hr
        have hc := hcell (pl l k) r hr
        have c1 : wr.cell? ⟨g, o + pl l k * 2, none⟩ = some (ek r.1) := (hb.cell (p := ⟨g, o + pl l k * 2, none⟩) hg).trans hc.1
        have c2 : wr.cell? ⟨g, o + pl l k * 2 + 1, none⟩ = some (ev r.2) := (hb.cell (p := ⟨g, o + pl l k * 2 + 1, none⟩) hg).trans hc.2
        have hcall := fun w => findc_any r k w
        have hz := cmpK_zero r.1 k
        have hhas : hasB l k = decide (r.1 = k) := by unfold hasB; rw [hr]
        obtain ⟨x, hx⟩ : ∃ x, x = cmpK r.1 k := ⟨_, rfl⟩
        rw [← hx] at hcall hz
        have HZ := Lib.hid hz
        have HH := Lib.hid hhas
        have HC := Lib.hid hcall
        have HB := Lib.hid hb
        clear hc hcall hx hz hhas hr hcell hb hi hj
        by_cases hx : x = 0
        · have hb : Hid (hasB l k = true) := by show _ = _; rw [HH.out]; exact decide_eq_true (HZ.out.1 hx)
          have hx' : (x == 0) = true := by simpa using hx
          subst hx
          go_wp2_with (go_at_call 104; refine (HC.out _).mono ?_; rintro e w1 ⟨rfl, hb1⟩)
          go_ret2
          rw [hb.out]
          exact ⟨rfl, HB.out.trans (hb1.mono HB.out.size)⟩
        · have hb : Hid (hasB l k = false) := by show _ = _; rw [HH.out]; exact decide_eq_false fun h => hx (HZ.out.2 h)
          have hx' : (x == 0) = false := by simpa using hx
          go_wp2_with (go_at_call 104; refine (HC.out _).mono ?_; rintro e w1 ⟨rfl, hb1⟩)
          go_ret2
          rw [hb.out]
          exact ⟨rfl, HB.out.trans (hb1.mono HB.out.size)⟩
      · have hb' : Hid (hasB l k = false) := by
          show _ = _
          unfold hasB
          rw [List.getElem?_eq_none (by omega)]
        have HB := Lib.hid hb
        clear hb hi hj
        go_wp2
        go_ret2
        rw [hb'.out]
        exact ⟨rfl, HB.out⟩
set_option maxRecDepth 100000 in
theorem find_any (w : World) (p : Option Addr) (l : List R) (k : K) (h : TabR w p l) (ha : asc l) (hn : l.length ≤ 1000) :
    Calls Tryz.prog 99 #[.pointer p, ek k] w fun e w' => e = .returned (.tuple #[.int .i64 (pl l k), .bool (hasB l k)]) ∧ Below w.heap.size w w' := by
  obtain ⟨v, hv, hal⟩ := all_any w p l h
  have HA := Lib.hid (hal w (Below.refl _ _))
  have HS := Lib.hid (bsearch_any w v l k hv ha hn)
  clear hal h hv ha
  go_enter Tryz.func99, Tryz.ntmps99
  go_wp2_with (first
    | (go_at_call 103; refine HA.out.mono ?_; rintro e w' ⟨rfl, rfl⟩)
    | (go_at_call 102; refine HS.out.mono ?_; rintro e w' ⟨rfl, hb⟩))
  go_ret2
  exact ⟨rfl, hb⟩
end Go.Proofs.YtganokcmcdkdgaaGreat.Tb.Is
