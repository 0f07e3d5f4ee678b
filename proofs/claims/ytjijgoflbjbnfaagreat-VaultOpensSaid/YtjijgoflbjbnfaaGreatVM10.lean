/-
  Memory: what a call that may write some blocks keeps; the contracts of cmp.Compare and of the references' small words. Conditions: none.
-/
import Derived.Test.YtjijgoflbjbnfaaGreatVM9
import Derived.Test.YtjijgoflbjbnfaaGreatRows
import Derived.RangeFuncNested
import Derived.RangeFuncBound
import Derived.RangeFuncCalls
import Derived.RangeFuncLeaves
import Derived.RangeFuncBox
import Derived.Shelf.Abstract
import Derived.Shelf.RegionOpen
import Derived.OwnWalkIn
import Derived.TacticsInMore
import Derived.LoopNIn
import Derived.LoopIn
import Derived.WalkKit
import Derived.WalkSpells
import Derived.WalkLawsBesides
import Derived.Deep.Draws
import Derived.Below
import Derived.Deep.LoopGhost
import Derived.Deep.CutBlock
import Derived.Deep.QuietTactic
import Derived.Deep.RegionLaw
import Derived.Deep.AppendLies
import Derived.BigQuiet
import Derived.Lib.Hide
import Derived.Lib.SliceRun
import Derived.Outline
import Derived.IntWalk
import Derived.Laws.OwnMore
import Derived.Laws.IdiomCopy
import Derived.Laws.CopyOwn
import Derived.Lib.Overlaps
import Derived.Lib.AppendZerosOnto
import Derived.Laws.NewBlocks
import Derived.Shelf.Spec.SlicesInsert
import Derived.Deep.Upon
import Derived.Lib.SmallJoins
namespace Go.Proofs.YtjijgoflbjbnfaaGreat.Tb
open Go.RowKit

theorem bcell {W w1 : World} (hb : Below W.heap.size W w1) : (∀ b o, b < W.heap.size → w1.cell? ⟨b, o, none⟩ = W.cell? ⟨b, o, none⟩) ∧ (∀ b o, b < W.heap.size → w1.frozen? ⟨b, o, none⟩ = W.frozen? ⟨b, o, none⟩) :=
  ⟨fun b o h => hb.cell (p := ⟨b, o, none⟩) h, fun b o h => hb.frozen (p := ⟨b, o, none⟩) h⟩
theorem below_drewN {B : Nat} {a w : World} (h : Below B a w) (n : Nat) : Below B a (w.drewN n) := ⟨h.os, h.tape, h.output, h.size, h.block⟩
theorem ret_int {k : IntKind} {a b : Int} (h : a = b) : Ending.returned (.int k a) = .returned (.int k b) := by rw [h]
theorem ret_bool {a b : Bool} (h : a = b) : Ending.returned (.bool a) = .returned (.bool b) := by rw [h]
theorem block_kept {W w' : World} {b : Nat} {o : Obj} (hb : W.heap[b]? = some o) (hcl : Below W.heap.size W w') : w'.heap[b]? = some o :=
  (hcl.block b (Array.getElem?_eq_some_iff.1 hb).1).trans hb
theorem block_new (w : World) (o : Obj) : (w.alloc o).heap[w.heap.size]? = some o := heap_alloc_new w o
theorem block_old {w : World} {b : Nat} {x : Obj} (h : w.heap[b]? = some x) (o : Obj) : (w.alloc o).heap[b]? = some x := by
  rw [Below.heap_alloc w o b (Array.getElem?_eq_some_iff.1 h).1]; exact h
theorem block_set {w : World} {b : Nat} {x : Obj} (h : w.heap[b]? = some x) {p : Addr} (hne : b ≠ p.block) (u : Value) : (w.setCell p u).heap[b]? = some x :=
  (Below.heap_setCell w p u b hne).trans h
theorem block_cell {w : World} {b : Nat} {x : Value} {t : TypeId} (h : w.heap[b]? = some (.cells #[x] t (0, 0))) : w.cell? ⟨b, 0, none⟩ = some x ∧ w.frozen? ⟨b, 0, none⟩ = false :=
  ⟨by simp [World.cell?, h], by simp [World.frozen?, h]⟩
theorem block_put {w : World} {b : Nat} {x : Value} {t : TypeId} (h : w.heap[b]? = some (.cells #[x] t (0, 0))) (u : Value) : (w.setCell ⟨b, 0, none⟩ u).heap[b]? = some (.cells #[u] t (0, 0)) := by
  simp only [World.setCell, Array.getElem?_modify, if_true]; rw [h]; rfl

/-- All blocks but those of S are as they were. -/
structure Kept (S : Nat → Prop) (w w' : World) : Prop where
  os : w'.os = w.os
  tape : w'.tape = w.tape
  output : w'.output = w.output
  size : w.heap.size ≤ w'.heap.size
  block : ∀ k, k < w.heap.size → ¬ S k → w'.heap[k]? = w.heap[k]?
theorem Kept.refl (S : Nat → Prop) (w : World) : Kept S w w := ⟨rfl, rfl, rfl, Nat.le_refl _, fun _ _ _ => rfl⟩
theorem Kept.trans {S : Nat → Prop} {a b c : World} (h : Kept S a b) (k : Kept S b c) : Kept S a c :=
  ⟨k.os.trans h.os, k.tape.trans h.tape, k.output.trans h.output, Nat.le_trans h.size k.size, fun i hi hs => (k.block i (Nat.lt_of_lt_of_le hi h.size) hs).trans (h.block i hi hs)⟩
/-- Of two steps the second may write what is new since the first began. -/
theorem Kept.trans' {S T : Nat → Prop} {a b c : World} (h : Kept S a b) (k : Kept T b c) (hT : ∀ i, i < a.heap.size → T i → S i) : Kept S a c :=
  ⟨k.os.trans h.os, k.tape.trans h.tape, k.output.trans h.output, Nat.le_trans h.size k.size, fun i hi hs => (k.block i (Nat.lt_of_lt_of_le hi h.size) (fun ht => hs (hT i hi ht))).trans (h.block i hi hs)⟩
theorem Kept.of_below {S : Nat → Prop} {w w' : World} (h : Below w.heap.size w w') : Kept S w w' := ⟨h.os, h.tape, h.output, h.size, fun k hk _ => h.block k hk⟩
theorem Kept.below {S : Nat → Prop} {B : Nat} {w w' : World} (h : Kept S w w') (hB : B ≤ w.heap.size) (hS : ∀ k, k < B → ¬ S k) : Below B w w' := ⟨h.os, h.tape, h.output, h.size, fun k hk => h.block k (by omega) (hS k hk)⟩
theorem Kept.mono {S T : Nat → Prop} {w w' : World} (h : Kept S w w') (hS : ∀ k, k < w.heap.size → S k → T k) : Kept T w w' := ⟨h.os, h.tape, h.output, h.size, fun k hk hn => h.block k hk (fun hs => hn (hS k hk hs))⟩
theorem Kept.of_grown {w w' : World} {row : Option Nat} (h : w.grownBy w' row) : Kept (fun k => row = some k) w w' := ⟨h.os, h.tape, h.output, h.size, fun k hk hn => h.block k hk (fun e => hn e.symm)⟩
theorem Kept.of_set (w : World) (p : Addr) (u : Value) : Kept (fun k => k = p.block) w (w.setCell p u) := ⟨rfl, rfl, rfl, by simp [World.setCell], fun k _ hn => Below.heap_setCell _ _ _ _ hn⟩
theorem Kept.of_alloc (S : Nat → Prop) (w : World) (o : Obj) : Kept S w (w.alloc o) := ⟨rfl, rfl, rfl, by simp, fun k hk _ => Below.heap_alloc _ _ _ hk⟩
theorem Kept.drewN {S : Nat → Prop} {a w : World} (h : Kept S a w) (n : Nat) : Kept S a (w.drewN n) := ⟨h.os, h.tape, h.output, h.size, h.block⟩
theorem Kept.drew {S : Nat → Prop} {a w : World} (h : Kept S a w) : Kept S a w.drew := ⟨h.os, h.tape, h.output, h.size, h.block⟩
theorem Kept.heap {S : Nat → Prop} {w w' : World} (h : Kept S w w') {b : Nat} {o : Obj} (hb : w.heap[b]? = some o) (hs : ¬ S b) : w'.heap[b]? = some o := (h.block b (Array.getElem?_eq_some_iff.1 hb).1 hs).trans hb

/-! ### cmp.Compare over int -/
set_option maxRecDepth 100000 in
theorem isNaN_int (a : Int) (w : World) : Calls Tryz.prog 136 #[.int .i64 a] w fun e w' => e = .returned (.bool false) ∧ w = w' := by
  go_enter Tryz.func136, Tryz.ntmps136
  go_wp2
  go_ret
  exact ⟨rfl, rfl⟩
set_option maxRecDepth 100000 in
theorem compare_int (a b : Int) (w : World) : Calls Tryz.prog 109 #[.int .i64 a, .int .i64 b] w fun e w' => e = .returned (.int .i64 (cmpK a b)) ∧ w = w' := by
  by_cases h1 : a < b
  · have e : Hid (cmpK a b = -1) := by show _ = _; unfold cmpK; rw [if_pos (by rw [ltI]; exact decide_eq_true h1)]
    go_enter Tryz.func109, Tryz.ntmps109
    go_wp2_with (go_at_call 136; refine (isNaN_int _ _).mono ?_; rintro e w' ⟨rfl, rfl⟩)
    go_ret
    exact ⟨ret_int e.out.symm, rfl⟩
  · by_cases h2 : b < a
    · have e : Hid (cmpK a b = 1) := by show _ = _; unfold cmpK; rw [if_neg (by rw [ltI]; simpa using h1), if_pos (by rw [ltI]; exact decide_eq_true h2)]
      go_enter Tryz.func109, Tryz.ntmps109
      go_wp2_with (go_at_call 136; refine (isNaN_int _ _).mono ?_; rintro e w' ⟨rfl, rfl⟩)
      go_ret
      exact ⟨ret_int e.out.symm, rfl⟩
    · have e : Hid (cmpK a b = 0) := by show _ = _; unfold cmpK; rw [if_neg (by rw [ltI]; simpa using h1), if_neg (by rw [ltI]; simpa using h2)]
      go_enter Tryz.func109, Tryz.ntmps109
      go_wp2_with (go_at_call 136; refine (isNaN_int _ _).mono ?_; rintro e w' ⟨rfl, rfl⟩)
      go_ret
      exact ⟨ret_int e.out.symm, rfl⟩
end Go.Proofs.YtjijgoflbjbnfaaGreat.Tb

namespace Go.Proofs.YtjijgoflbjbnfaaGreat.Tb.Ib
open Go.RowKit

/-- A slice's value. -/
structure Bv where
  A : Option Addr
  n : Nat
  c : Nat
instance : Inhabited Bv := ⟨⟨none, 0, 0⟩⟩
abbrev K := Int
abbrev V := Bv
abbrev R := K × V
def ek (k : K) : Value := Value.int .i64 k
def ev (v : V) : Value := (Value.slice v.A v.n v.c)
def cells (l : List R) : List Value := l.flatMap fun r => [ek r.1, ev r.2]
theorem cells_cons (r : R) (l : List R) : cells (r :: l) = ek r.1 :: ev r.2 :: cells l := rfl
theorem cells_append (a b : List R) : cells (a ++ b) = cells a ++ cells b := by simp [cells]
theorem cells_len : ∀ l : List R, (cells l).length = l.length * 2
  | [] => rfl
  | r :: l => by rw [cells_cons, List.length_cons, List.length_cons, cells_len l, List.length_cons]; omega
theorem cells_get : ∀ (l : List R) (i : Nat) (r : R), l[i]? = some r → (cells l)[i * 2]? = some (ek r.1) ∧ (cells l)[i * 2 + 1]? = some (ev r.2)
  | [], _, _, h => by simp at h
  | a :: l, 0, r, h => by simp at h; subst h; exact ⟨rfl, rfl⟩
  | a :: l, i + 1, r, h => by
    have := cells_get l i r (by simpa using h)
    rw [cells_cons, show (i + 1) * 2 = i * 2 + 1 + 1 by omega]
    simpa using this
theorem cells_inv : ∀ (l : List R) (j : Nat) (u : Value), (cells l)[j]? = some u → ∃ i r, l[i]? = some r ∧ ((j = i * 2 ∧ u = ek r.1) ∨ (j = i * 2 + 1 ∧ u = ev r.2))
  | [], j, u, h => by simp [cells] at h
  | a :: l, 0, u, h => by rw [cells_cons] at h; simp at h; exact ⟨0, a, rfl, .inl ⟨rfl, h.symm⟩⟩
  | a :: l, 1, u, h => by rw [cells_cons] at h; simp at h; exact ⟨0, a, rfl, .inr ⟨rfl, h.symm⟩⟩
  | a :: l, j + 2, u, h => by
    rw [cells_cons] at h
    obtain ⟨i, r, hi, h⟩ := cells_inv l j u (by simpa using h)
    exact ⟨i + 1, r, by simpa using hi, h.elim (fun h => .inl ⟨by omega, h.2⟩) (fun h => .inr ⟨by omega, h.2⟩)⟩
theorem cells_one (l : List R) : ∀ u ∈ cells l, u.oneCell' = true := fun u hu => by
  obtain ⟨r, _, h⟩ := List.mem_flatMap.1 hu
  simp at h
  rcases h with rfl | rfl <;> rfl

/-- The slice value v reads as the rows l. -/
def RowsR (w : World) (v : Value) (l : List R) : Prop := ∃ A cap, v = .slice A l.length cap ∧ l.length ≤ cap ∧ (A = none → cap = 0) ∧
  ((l = [] ∧ A = none) ∨ ∃ g o, A = some ⟨g, o, none⟩ ∧ g < w.heap.size ∧ ∀ i r, l[i]? = some r → w.cell? ⟨g, o + i * 2, none⟩ = some (ek r.1) ∧ w.cell? ⟨g, o + i * 2 + 1, none⟩ = some (ev r.2))
theorem RowsR.below {w w' : World} {v : Value} {l : List R} (h : RowsR w v l) (hb : Below w.heap.size w w') : RowsR w' v l := by
  obtain ⟨A, cap, e, h1, h2, h3⟩ := h
  refine ⟨A, cap, e, h1, h2, ?_⟩
  rcases h3 with h3 | ⟨g, o, e, hg, hc⟩
  · exact .inl h3
  · exact .inr ⟨g, o, e, Nat.lt_of_lt_of_le hg hb.size, fun i r hi => by
      have := hc i r hi
      exact ⟨(hb.cell (p := ⟨g, o + i * 2, none⟩) hg).trans this.1, (hb.cell (p := ⟨g, o + i * 2 + 1, none⟩) hg).trans this.2⟩⟩
theorem RowsR.kept {w w' : World} {v : Value} {l : List R} {S : Nat → Prop} (h : RowsR w v l) (hb : Kept S w w') (hS : ∀ k, v.ownBlock = some k → ¬ S k) : RowsR w' v l := by
  obtain ⟨A, cap, rfl, h1, h2, h3⟩ := h
  refine ⟨A, cap, rfl, h1, h2, ?_⟩
  rcases h3 with h3 | ⟨g, o, rfl, hg, hc⟩
  · exact .inl h3
  · have hk := hb.block g hg (hS g rfl)
    exact .inr ⟨g, o, rfl, Nat.lt_of_lt_of_le hg hb.size, fun i r hi => by
      have := hc i r hi
      exact ⟨(World.cell?_of_block (w := w) (a := ⟨g, o + i * 2, none⟩) hk).trans this.1, (World.cell?_of_block (w := w) (a := ⟨g, o + i * 2 + 1, none⟩) hk).trans this.2⟩⟩
theorem RowsR.nil (w : World) : RowsR w (.slice none 0 0) [] := ⟨none, 0, rfl, Nat.le_refl _, fun _ => rfl, .inl ⟨rfl, rfl⟩⟩
theorem RowsR.of_own {w : World} {base : Nat} {v : Value} {l : List R} (h : w.ownsRow base 100 2 v l.length (cells l)) : RowsR w v l := by
  obtain ⟨_, h⟩ := h
  rcases h with ⟨rfl, hl⟩ | ⟨g, cap, cur, rfl, hg, hh, hc, _, hs, ht⟩
  · have : l = [] := List.length_eq_zero_iff.1 hl
    subst this
    exact RowsR.nil w
  · refine ⟨some ⟨g, 0, none⟩, cap, rfl, hc, fun e => (by cases e), .inr ⟨g, 0, rfl, (Array.getElem?_eq_some_iff.1 hh).1, fun i r hi => ?_⟩⟩
    have hlt : i < l.length := (List.getElem?_eq_some_iff.1 hi).1
    have hcg := cells_get l i r hi
    rw [← ht, List.getElem?_take, if_pos (by omega), List.getElem?_take, if_pos (by omega)] at hcg
    rw [Nat.zero_add, cell_of_row _ g (i * 2) _ _ _ hh, cell_of_row _ g (i * 2 + 1) _ _ _ hh]
    simpa using hcg

/-- The pointer p reads as the table of the rows l. -/
def TabR (w : World) (p : Option Addr) (l : List R) : Prop := (p = none ∧ l = []) ∨ ∃ b v, p = some ⟨b, 0, none⟩ ∧ b < w.heap.size ∧ w.cell? ⟨b, 0, none⟩ = some v ∧ RowsR w v l
theorem TabR.below {w w' : World} {p : Option Addr} {l : List R} (h : TabR w p l) (hb : Below w.heap.size w w') : TabR w' p l := by
  rcases h with h | ⟨b, v, e, hlt, hc, hr⟩
  · exact .inl h
  · exact .inr ⟨b, v, e, Nat.lt_of_lt_of_le hlt hb.size, (hb.cell (p := ⟨b, 0, none⟩) hlt).trans hc, hr.below hb⟩

set_option maxRecDepth 100000 in
theorem all_nil (w : World) : Calls Tryz.prog 96 #[.pointer none] w fun e w' => e = .returned (.slice none 0 0) ∧ w = w' := by
  go_enter Tryz.func96, Tryz.ntmps96
  go_wp2
  go_ret
  exact ⟨rfl, rfl⟩
set_option maxRecDepth 100000 in
theorem all_some (w : World) (b : Nat) (v : Value) (hc : w.cell? ⟨b, 0, none⟩ = some v) : Calls Tryz.prog 96 #[.pointer (some ⟨b, 0, none⟩)] w fun e w' => e = .returned v ∧ w = w' := by
  go_enter Tryz.func96, Tryz.ntmps96
  go_wp2
  go_ret
  exact ⟨rfl, rfl⟩
theorem all_any (w : World) (p : Option Addr) (l : List R) (h : TabR w p l) : ∃ v, RowsR w v l ∧ ∀ W, Below w.heap.size w W → Calls Tryz.prog 96 #[.pointer p] W fun e w' => e = .returned v ∧ W = w' := by
  rcases h with ⟨rfl, rfl⟩ | ⟨b, v, rfl, hlt, hc, hr⟩
  · exact ⟨_, RowsR.nil w, fun W _ => all_nil W⟩
  · exact ⟨v, hr, fun W hW => all_some W b v ((hW.cell (p := ⟨b, 0, none⟩) hlt).trans hc)⟩
set_option maxRecDepth 100000 in
theorem len_any (w : World) (p : Option Addr) (l : List R) (h : TabR w p l) (_hn : l.length ≤ 1000) : Calls Tryz.prog 85 #[.pointer p] w fun e w' => e = .returned (.int .i64 l.length) ∧ w = w' := by
  obtain ⟨v, hv, ha⟩ := all_any w p l h
  obtain ⟨A, cap, rfl, _⟩ := hv
  have HA := Lib.hid (ha w (Below.refl _ _))
  clear ha h
  go_enter Tryz.func85, Tryz.ntmps85
  go_wp2_with (go_at_call 96; refine HA.out.mono ?_; rintro e w' ⟨rfl, rfl⟩)
  go_ret
  exact ⟨rfl, rfl⟩

/-! ### The place of a key -/
set_option maxRecDepth 100000 in
theorem findc_any (r : R) (k : K) (w : World) : Calls Tryz.prog 131 #[.agg #[ek r.1, ev r.2], ek k] w fun e w' => e = .returned (.int .i64 (cmpK r.1 k)) ∧ Below w.heap.size w w' := by
  have hc := fun w => compare_int r.1 k w
  obtain ⟨x, hx⟩ : ∃ x, x = cmpK r.1 k := ⟨_, rfl⟩
  rw [← hx] at hc ⊢
  have HC := Lib.hid hc
  clear hc hx
  unfold ek ev
  go_enter Tryz.func131, Tryz.ntmps131
  go_wp2_with (go_at_call 109; refine (HC.out _).mono ?_; rintro e w' ⟨rfl, rfl⟩)
  go_ret
  exact ⟨rfl, (Below.refl _ _).alloc (Nat.le_refl _) _⟩

set_option maxRecDepth 100000 in
set_option maxHeartbeats 4000000 in
theorem bsearch_any (w : World) (v : Value) (l : List R) (k : K) (h : RowsR w v l) (ha : asc l) (hn : l.length ≤ 1000) :
    Calls Tryz.prog 130 #[v, ek k, .func (.func 131) #[] #[]] w fun e w' => e = .returned (.tuple #[.int .i64 (pl l k), .bool (hasB l k)]) ∧ Below w.heap.size w w' := by
  obtain ⟨A, cap, rfl, _, _, h3⟩ := h
  have HA := Lib.hid ha
  have H3 := Lib.hid h3
  clear ha h3
  go_enter Tryz.func130, Tryz.ntmps130
  go_wp2
  go_loopg [9, 10] l.length (fun (gh : Nat) si sj wx => ∃ i j : Nat, gh = j - i ∧ i ≤ pl l k ∧ pl l k ≤ j ∧ j ≤ l.length ∧ si = .int .i64 (i : Int) ∧ sj = .int .i64 (j : Int) ∧ Below w.heap.size w wx)
  case atStart => exact ⟨0, l.length, rfl, Nat.zero_le _, pl_le l k, Nat.le_refl _, rfl, rfl, Below.refl _ _⟩
  case round =>
    obtain ⟨i, j, rfl, hi, hj, hjl, rfl, rfl, hb⟩ := hrel
    by_cases hij : i < j
    · have hm1 : i ≤ (i + j) / 2 := by omega
      have hm2 : (i + j) / 2 < j := by omega
      obtain ⟨r, hr⟩ : ∃ r, l[(i + j) / 2]? = some r := ⟨_, List.getElem?_eq_getElem (by omega)⟩
      have hiff := pl_iff l k HA.out ((i + j) / 2) r hr
      rcases H3.out with ⟨rfl, rfl⟩ | ⟨g, o, rfl, hg, hcell⟩
      · simp at hr
      have hc := hcell ((i + j) / 2) r hr
      have c1 : wr.cell? ⟨g, o + (i + j) / 2 * 2, none⟩ = some (ek r.1) := (hb.cell (p := ⟨g, o + (i + j) / 2 * 2, none⟩) hg).trans hc.1
      have c2 : wr.cell? ⟨g, o + (i + j) / 2 * 2 + 1, none⟩ = some (ev r.2) := (hb.cell (p := ⟨g, o + (i + j) / 2 * 2 + 1, none⟩) hg).trans hc.2
      have hcall := fun w => findc_any r k w
      have hneg := cmpK_neg r.1 k
      obtain ⟨x, hx⟩ : ∃ x, x = cmpK r.1 k := ⟨_, rfl⟩
      rw [← hx] at hcall hneg
      have HF := Lib.hid (hneg.trans hiff)
      have HC := Lib.hid hcall
      have HB := Lib.hid hb
      clear hc hcall hx hneg hiff hr hcell hb
      by_cases hx : x < 0
      · go_wp2_with (go_at_call 131; refine (HC.out _).mono ?_; rintro e w1 ⟨rfl, hb1⟩)
        have hlt := HF.out.1 hx
        go_roundg (j - ((i + j) / 2 + 1))
        case measure => omega
        case rel => exact ⟨(i + j) / 2 + 1, j, rfl, hlt, hj, hjl, by go_num, rfl, HB.out.trans (hb1.mono HB.out.size)⟩
      · go_wp2_with (go_at_call 131; refine (HC.out _).mono ?_; rintro e w1 ⟨rfl, hb1⟩)
        have hlt : ¬ (i + j) / 2 < pl l k := fun h => by have := HF.out.2 h; omega
        go_roundg ((i + j) / 2 - i)
        case measure => omega
        case rel => exact ⟨i, (i + j) / 2, rfl, hi, by omega, by omega, rfl, by go_num, HB.out.trans (hb1.mono HB.out.size)⟩
    · obtain rfl : i = pl l k := by omega
      by_cases hlt : pl l k < l.length
      · obtain ⟨r, hr⟩ : ∃ r, l[pl l k]? = some r := ⟨_, List.getElem?_eq_getElem (by omega)⟩
        rcases H3.out with ⟨rfl, rfl⟩ | ⟨g, o, rfl, hg, hcell⟩
        · simp at hr
        have hc := hcell (pl l k) r hr
        have c1 : wr.cell? ⟨g, o + pl l k * 2, none⟩ = some (ek r.1) := (hb.cell (p := ⟨g, o + pl l k * 2, none⟩) hg).trans hc.1
        have c2 : wr.cell? ⟨g, o + pl l k * 2 + 1, none⟩ = some (ev r.2) := (hb.cell (p := ⟨g, o + pl l k * 2 + 1, none⟩) hg).trans hc.2
        have hcall := fun w => findc_any r k w
        have hz := cmpK_zero r.1 k
        have hhas : hasB l k = decide (r.1 = k) := by unfold hasB; rw [hr]
        obtain ⟨x, hx⟩ : ∃ x, x = cmpK r.1 k := ⟨_, rfl⟩
        rw [← hx] at hcall hz
        have HZ := Lib.hid hz
        have HH := Lib.hid hhas
        have HC := Lib.hid hcall
        have HB := Lib.hid hb
        clear hc hcall hx hz hhas hr hcell hb hi hj
        by_cases hx : x = 0
        · have hb : Hid (hasB l k = true) := by show _ = _; rw [HH.out]; exact decide_eq_true (HZ.out.1 hx)
          have hx' : (x == 0) = true := by simpa using hx
          subst hx
          go_wp2_with (go_at_call 131; refine (HC.out _).mono ?_; rintro e w1 ⟨rfl, hb1⟩)
          go_ret2
          rw [hb.out]
          exact ⟨rfl, HB.out.trans (hb1.mono HB.out.size)⟩
        · have hb : Hid (hasB l k = false) := by show _ = _; rw [HH.out]; exact decide_eq_false fun h => hx (HZ.out.2 h)
          have hx' : (x == 0) = false := by simpa using hx
          go_wp2_with (go_at_call 131; refine (HC.out _).mono ?_; rintro e w1 ⟨rfl, hb1⟩)
          go_ret2
          rw [hb.out]
          exact ⟨rfl, HB.out.trans (hb1.mono HB.out.size)⟩
      · have hb' : Hid (hasB l k = false) := by
          show _ = _
          unfold hasB
          rw [List.getElem?_eq_none (by omega)]
        have HB := Lib.hid hb
        clear hb hi hj
        go_wp2
        go_ret2
        rw [hb'.out]
        exact ⟨rfl, HB.out⟩
set_option maxRecDepth 100000 in
theorem find_any (w : World) (p : Option Addr) (l : List R) (k : K) (h : TabR w p l) (ha : asc l) (hn : l.length ≤ 1000) :
    Calls Tryz.prog 94 #[.pointer p, ek k] w fun e w' => e = .returned (.tuple #[.int .i64 (pl l k), .bool (hasB l k)]) ∧ Below w.heap.size w w' := by
  obtain ⟨v, hv, hal⟩ := all_any w p l h
  have HA := Lib.hid (hal w (Below.refl _ _))
  have HS := Lib.hid (bsearch_any w v l k hv ha hn)
  clear hal h hv ha
  go_enter Tryz.func94, Tryz.ntmps94
  go_wp2_with (first
    | (go_at_call 96; refine HA.out.mono ?_; rintro e w' ⟨rfl, rfl⟩)
    | (go_at_call 130; refine HS.out.mono ?_; rintro e w' ⟨rfl, hb⟩))
  go_ret2
  exact ⟨rfl, hb⟩
end Go.Proofs.YtjijgoflbjbnfaaGreat.Tb.Ib

namespace Go.Proofs.YtjijgoflbjbnfaaGreat.Tb
open Go.RowKit

def setL {α : Type} (L : List α) : Nat → List α → List α
  | _, [] => L
  | o, v :: r => setL (L.set o v) (o + 1) r
theorem setL_eq {α : Type} : ∀ (cs : List α) (L : List α) (o : Nat), o + cs.length ≤ L.length → setL L o cs = L.take o ++ (cs ++ L.drop (o + cs.length))
  | [], L, o, _ => by simp [setL]
  | v :: r, L, o, h => by
    have h' : o < L.length := by simp at h; omega
    rw [setL, setL_eq r _ (o + 1) (by simp at h ⊢; omega), List.take_set, List.drop_set, if_pos (by omega)]
    rw [List.take_succ_eq_append_getElem h', List.set_append_right _ _ (by rw [List.length_take]; omega), List.length_take, Nat.min_eq_left (by omega), Nat.sub_self]
    simp [show o + 1 + r.length = o + (r.length + 1) by omega]
theorem heap_setCells (g : Nat) (t : TypeId) : ∀ (cs : List Value) (o : Nat) (w : World) (cur : Array Value), w.heap[g]? = some (.cells cur t (0, 0)) → (w.setCells g o cs).heap[g]? = some (.cells (setL cur.toList o cs).toArray t (0, 0))
  | [], o, w, cur, h => by simpa [World.setCells, setL] using h
  | v :: r, o, w, cur, h => by
    rw [World.setCells, setL]
    have := heap_setCells g t r (o + 1) (w.setCell ⟨g, o, none⟩ v) (cur.setIfInBounds o v) (heap_setCell_same w g o cur t v h)
    simpa using this
theorem grownBy_setCells (g : Nat) : ∀ (cs : List Value) (o : Nat) (w : World), w.grownBy (w.setCells g o cs) (some g)
  | [], _, w => ⟨rfl, rfl, rfl, Nat.le_refl _, fun _ _ _ => rfl⟩
  | v :: r, o, w => by
    rw [World.setCells]
    have h := grownBy_setCells g r (o + 1) (w.setCell ⟨g, o, none⟩ v)
    refine ⟨h.os, h.tape, h.output, Nat.le_trans (by simp [World.setCell]) h.size, fun k hk hne => ?_⟩
    rw [h.block k (by simpa [World.setCell] using hk) hne]
    exact Below.heap_setCell _ _ _ _ (fun e => hne (by rw [e]))
theorem grownBy_trans {a b c : World} {row : Option Nat} (h : a.grownBy b row) (k : b.grownBy c row) : a.grownBy c row :=
  ⟨k.os.trans h.os, k.tape.trans h.tape, k.output.trans h.output, Nat.le_trans h.size k.size, fun i hi hn => (k.block i (Nat.lt_of_lt_of_le hi h.size) hn).trans (h.block i hi hn)⟩
theorem grownBy_drew (w : World) (row : Option Nat) : w.grownBy w.drew row := ⟨rfl, rfl, rfl, Nat.le_refl _, fun _ _ _ => rfl⟩
theorem grownBy_of_below {w w' : World} (row : Option Nat) (h : Below w.heap.size w w') : w.grownBy w' row := ⟨h.os, h.tape, h.output, h.size, fun k hk _ => h.block k hk⟩
end Go.Proofs.YtjijgoflbjbnfaaGreat.Tb

namespace Go.Proofs.YtjijgoflbjbnfaaGreat.Tb.Ib
open Go.RowKit

theorem rowI : (Tryz.prog.info? 100).map (fun i => (i.zero, i.size, i.bytes)) = some (some (.agg #[.int .i64 0, .slice none 0 0]), 2, 32) := by kernel_rfl
theorem rowSize : (Tryz.prog.info? 100).map (·.size) = some 2 := by kernel_rfl
theorem run_copy_rows (w : World) (ty : TypeId) (b o dLen dCap : Nat) (a : Addr) (sLen sCap : Nat) (cs : List Value) (hn : cs.length = Nat.min sLen dLen * 2)
    (hsrc : ∀ j v, cs[j]? = some v → w.cell? (a.add j) = some v) (hc : ∀ j, j < cs.length → (w.cell? ⟨b, o + j, none⟩).isSome = true) (hf : ∀ j, j < cs.length → w.frozen? ⟨b, o + j, none⟩ = false) (h1 : ∀ v ∈ cs, v.oneCell' = true) :
    (Builtin.copy_ #[109, 109] ty #[.slice (some ⟨b, o, none⟩) dLen dCap, .slice (some a) sLen sCap]).run Tryz.prog w = .ok (goInt (Nat.min sLen dLen)) (w.setCells b o cs) := by
  have hl := run_loadCells_list (P := Tryz.prog) w a cs hsrc
  have hst := run_storeCells_cells (P := Tryz.prog) b o cs 0 w (by simpa using hc) (by simpa using hf) h1
  obtain ⟨i, hq, _, hs, _⟩ := info_parts rowI
  rw [hn] at hl
  simp [Builtin.copy_, run_underlying Tryz.underlying109, Builtin.lenOf, Builtin.firstCells, sizeOf, typeInfo, hq, hs, hl, hst]

set_option maxHeartbeats 4000000 in
set_option maxRecDepth 100000 in
theorem ins_shift (g c i vb : Nat) (l : List R) (r : R) (w : World) (cur : Array Value) (hi : i < l.length) (hn : l.length ≤ 1000) (hroom : l.length + 1 ≤ c) (_hc63 : c ≤ 9223372036854775807) (hvb : vb ≠ g)
    (hg : w.heap[g]? = some (.cells cur 100 (0, 0))) (hcs : cur.size = c * 2) (hcl : cur.toList.take (l.length * 2) = cells l) (hb : w.heap[vb]? = some (.cells #[ek r.1, ev r.2] 100 (0, 0))) :
    Calls Tryz.prog 116 #[.slice (some ⟨g, 0, none⟩) l.length c, .int .i64 i, .slice (some ⟨vb, 0, none⟩) 1 1] w fun e w' =>
      e = .returned (.slice (some ⟨g, 0, none⟩) (l.length + 1) c) ∧ w' = (w.drew.setCells g ((i + 1) * 2) (cells (l.drop i))).setCells g (i * 2) [ek r.1, ev r.2] := by
  have hov : ∀ lb cb, (callFunc 144 #[.slice (some ⟨vb, 0, none⟩) 1 1, .slice (some ⟨g, (i + 1) * 2, none⟩) lb cb]).run Tryz.prog w = .ok (.value (.bool false)) w := fun lb cb => by
    rw [run_callFunc_extern Tryz.func144 (by kernel_rfl) (by kernel_rfl) (by kernel_rfl) (e := Extern.SlicesOverlaps.overlaps #[109, 109] #[4]) (by kernel_rfl),
      Lib.run_overlaps_apart w 109 4 100 Tryz.underlying109 2 Tryz.sizeOf100 ⟨vb, 0, none⟩ ⟨g, (i + 1) * 2, none⟩ 1 1 lb cb hvb 100 100 2 (c * 2) (by simp [World.shape?, hb]) (by simp [World.shape?, hg, hcs]) (by omega) (by simp [World.frozen?, hb]) (by simp [World.frozen?, hb])]
    rfl
  obtain ⟨n, hnl⟩ : ∃ n, n = l.length := ⟨_, rfl⟩
  have hdl : (cells (l.drop i)).length = (n - i) * 2 := by rw [cells_len, List.length_drop, hnl]
  have cw : ∀ j, j < c * 2 → (w.cell? ⟨g, j, none⟩).isSome = true := fun j hj => by
    rw [cell_of_row _ _ _ _ _ _ hg, Array.getElem?_eq_getElem (by omega)]; rfl
  have fw : ∀ j, w.frozen? ⟨g, j, none⟩ = false := fun j => frozen_of_row _ _ _ _ _ hg
  have hsrc : ∀ j u, (cells (l.drop i))[j]? = some u → w.cell? ⟨g, i * 2 + j, none⟩ = some u := fun j u hj => by
    have e : (cells l)[i * 2 + j]? = some u := by
      have : cells l = cells (l.take i) ++ cells (l.drop i) := by rw [← cells_append, List.take_append_drop]
      rw [this, List.getElem?_append_right (by rw [cells_len, List.length_take]; omega), cells_len, List.length_take]
      rw [show i * 2 + j - min i l.length * 2 = j by omega]
      exact hj
    rw [← hcl, List.getElem?_take] at e
    split at e
    · rw [cell_of_row _ _ _ _ _ _ hg]; simpa using e
    · cases e
  have hcp1 : ∀ ty dc sc, (Builtin.copy_ #[109, 109] ty #[.slice (some ⟨g, (i + 1) * 2, none⟩) (n - i) dc, .slice (some ⟨g, i * 2, none⟩) (n + 1 - i) sc]).run Tryz.prog w.drew = .ok (goInt (Nat.min (n + 1 - i) (n - i))) (w.drew.setCells g ((i + 1) * 2) (cells (l.drop i))) := fun ty dc sc =>
    run_copy_rows w.drew ty g ((i + 1) * 2) (n - i) dc ⟨g, i * 2, none⟩ (n + 1 - i) sc (cells (l.drop i)) (by rw [hdl]; simp only [Nat.min_def]; split <;> omega)
      (fun j v hj => by rw [Addr.add_lit]; exact hsrc j v hj)
      (fun j hj => cw _ (by omega)) (fun j hj => fw _) (cells_one _)
  obtain ⟨W1, hW1⟩ : ∃ W1, W1 = w.drew.setCells g ((i + 1) * 2) (cells (l.drop i)) := ⟨_, rfl⟩
  have g1 : W1.heap[g]? = some (.cells (setL cur.toList ((i + 1) * 2) (cells (l.drop i))).toArray 100 (0, 0)) := by rw [hW1]; exact heap_setCells g _ _ _ _ cur hg
  have s1 : (setL cur.toList ((i + 1) * 2) (cells (l.drop i))).toArray.size = c * 2 := by
    rw [setL_eq _ _ _ (by simp; omega)]
    simp; omega
  have hb1 : W1.heap[vb]? = some (.cells #[ek r.1, ev r.2] 100 (0, 0)) := by
    rw [hW1, (grownBy_setCells g _ _ w.drew).block vb (Array.getElem?_eq_some_iff.1 hb).1 (by simpa using hvb)]
    exact hb
  have hcp2 : ∀ (W : World), W.heap = W1.heap → ∀ ty dc, (Builtin.copy_ #[109, 109] ty #[.slice (some ⟨g, i * 2, none⟩) (n + 1 - i) dc, .slice (some ⟨vb, 0, none⟩) 1 1]).run Tryz.prog W = .ok (goInt (Nat.min 1 (n + 1 - i))) (W.setCells g (i * 2) [ek r.1, ev r.2]) := fun W hW ty dc => by
    rw [← hW] at g1 hb1
    exact run_copy_rows W ty g (i * 2) (n + 1 - i) dc ⟨vb, 0, none⟩ 1 1 [ek r.1, ev r.2] (by simp only [Nat.min_def]; split <;> simp; omega)
      (fun j v hj => by
        rw [Addr.add_lit, Nat.zero_add, cell_of_row _ _ _ _ _ _ hb1]
        simpa using hj)
      (fun j hj => by
        rw [cell_of_row _ _ _ _ _ _ g1, Array.getElem?_eq_getElem (by simp at hj; omega)]; rfl)
      (fun j hj => frozen_of_row _ _ _ _ _ g1) (cells_one [r])
  rw [← hW1] at hcp1 ⊢
  have HW1 := Lib.hid hW1
  rw [← hnl] at hi hn hroom ⊢
  have hmi : Nat.min 1 (n + 1 - i) = 1 := by simp only [Nat.min_def]; split <;> omega
  rw [hmi] at hcp2
  have hz2 : ¬ ((i : Int) = (n : Int)) := by omega
  have hw1 : IntKind.i64.wrap ((i : Int) + 1) = (i : Int) + 1 := by rw [IntKind.wrap_i64]; omega
  have hb1' : (0 : Int) ≤ (i : Int) + 1 := by omega
  have hin : i ≤ n := by omega
  have htn : ((i : Int) + 1).toNat = i + 1 := by omega
  have hb2 : ¬ (c = i + 1) := by omega
  have hb3 : (i : Int) ≤ (n : Int) + 1 := by omega
  have hb4 : ¬ (c = i) := by omega
  have HG := Lib.hid hg
  have HNL := Lib.hid hnl
  clear hnl hdl cw fw hsrc g1 s1 hb1 hb hg hcs hcl hmi hW1
  go_enter Tryz.func116, Tryz.ntmps116
  go_wp2_with (simp only [hov])
  go_region_law (refine step_copy_runI rfl _ _ 109 109 rfl _ _ (by simp [Act.eval, Act.put]) (by simp [Act.eval, Act.put]) (hcp1 _ _ _) ?_)
  go_wp2_with (at_builtin; refine wpList_copy_runI _ rfl _ _ 109 109 rfl _ _ rfl rfl (hcp2 _ rfl _ _) ?_)
  go_ret
  exact ⟨rfl, rfl⟩
end Go.Proofs.YtjijgoflbjbnfaaGreat.Tb.Ib

namespace Go.Proofs.YtjijgoflbjbnfaaGreat.Tb.Ib
open Go.RowKit

theorem zeroCells_size (k : Nat) : (Builtin.zeroCells (Value.agg #[.int .i64 0, .slice none 0 0]).cells k).size = k * 2 := by
  simp [Builtin.zeroCells, Value.cells]
  try omega

def InsG (w : World) (i : Nat) (l : List R) (r : R) (e : Ending) (w' : World) : Prop :=
  ∃ (ROW : Array Value) (G : Nat), e = .returned (.slice (some ⟨w.heap.size, 0, none⟩) (l.length + 1) G) ∧ l.length + 1 ≤ G ∧ G ≤ maxLen ∧ ROW.size = G * 2 ∧ ROW.toList.take (i * 2) = cells (l.take i) ∧
    w' = (((w.alloc (.cells ROW 100)).drew.setCells w.heap.size (i * 2) [ek r.1, ev r.2]).drew).setCells w.heap.size ((i + 1) * 2) (cells (l.drop i))
set_option maxHeartbeats 4000000 in
set_option maxRecDepth 100000 in
theorem ins_grow (g c i vb : Nat) (l : List R) (r : R) (w : World) (cur : Array Value) (hi : i < l.length) (hn : l.length ≤ 1000) (hnc : l.length ≤ c) (hroom : c < l.length + 1)
    (hg : w.heap[g]? = some (.cells cur 100 (0, 0))) (_hcs : cur.size = c * 2) (hcl : cur.toList.take (l.length * 2) = cells l) (hb : w.heap[vb]? = some (.cells #[ek r.1, ev r.2] 100 (0, 0))) :
    Calls Tryz.prog 116 #[.slice (some ⟨g, 0, none⟩) l.length c, .int .i64 i, .slice (some ⟨vb, 0, none⟩) 1 1] w (InsG w i l r) := by
  obtain ⟨i0, hi0, hz0, hzs, hzb⟩ := info_parts rowI
  have hgw : g < w.heap.size := (Array.getElem?_eq_some_iff.1 hg).1
  have hvw : vb < w.heap.size := (Array.getElem?_eq_some_iff.1 hb).1
  have cg : ∀ j u, (cells l)[j]? = some u → w.cell? ⟨g, j, none⟩ = some u := fun j u e => by
    rw [← hcl, List.getElem?_take] at e
    split at e
    · rw [cell_of_row _ _ _ _ _ _ hg]; simpa using e
    · cases e
  have cl : cells l = cells (l.take i) ++ cells (l.drop i) := by rw [← cells_append, List.take_append_drop]
  have ct : ∀ j u, (cells (l.take i))[j]? = some u → w.cell? ⟨g, j, none⟩ = some u := fun j u e => cg j u (by
    rw [cl, List.getElem?_append_left (List.getElem?_eq_some_iff.1 e).1]; exact e)
  have hsrc : ∀ j u, (cells (l.drop i))[j]? = some u → w.cell? ⟨g, i * 2 + j, none⟩ = some u := fun j u e => cg _ u (by
    rw [cl, List.getElem?_append_right (by rw [cells_len, List.length_take]; omega), cells_len, List.length_take, show i * 2 + j - min i l.length * 2 = j by omega]; exact e)
  obtain ⟨n, hnl⟩ : ∃ n, n = l.length := ⟨_, rfl⟩
  have htl : (cells (l.take i)).length = i * 2 := by rw [cells_len, List.length_take]; omega
  have hdl : (cells (l.drop i)).length = (n - i) * 2 := by rw [cells_len, List.length_drop, hnl]
  have hold : (Builtin.firstCells i0.size i (.slice (some ⟨g, 0, none⟩) i c)).run Tryz.prog w.drew = .ok (cells (l.take i)).toArray w.drew := by
    rw [hzs]
    exact run_firstCells_some w.drew 2 i ⟨g, 0, none⟩ i c (cells (l.take i)) htl (fun j v hj => by
      rw [Addr.add_lit, Nat.zero_add]
      exact ct j v hj)
  have hkk : (n : Int) + 1 - (i : Int) = ((n + 1 - i : Nat) : Int) := by omega
  have hik : i + (n + 1 - i) = n + 1 := by omega
  have hrz : ∀ ty, (Builtin.append_ #[109, 3] ty #[.slice (some ⟨g, 0, none⟩) i c, .int .i64 ((n : Int) + 1 - (i : Int))]).run Tryz.prog w =
      .ok (.slice (some ⟨w.heap.size, 0, none⟩) (n + 1) (grownCap w (n + 1) c 100)) (w.drew.alloc (.cells ((cells (l.take i)).toArray ++ Builtin.zeroCells (Value.agg #[.int .i64 0, .slice none 0 0]).cells (n + 1 - i) ++ Builtin.zeroCells (Value.agg #[.int .i64 0, .slice none 0 0]).cells (grownCap w (n + 1) c 100 - (n + 1))) 100)) := fun ty => by
    have h := Lib.run_append_grow_zeros w 109 3 ty 100 i0 _ .i64 .i64 Tryz.underlying109 Tryz.underlying3 hi0 hz0 (some ⟨g, 0, none⟩) i c (cells (l.take i)) hold (n + 1 - i) (by omega) (by omega) (by omega) (by omega) (by rw [hzb]; omega) (by rw [hzb, hik]; exact growslice_fits (by omega) (by omega))
    rw [hik] at h
    rw [hkk]
    exact h
  obtain ⟨G, hG⟩ : ∃ G, G = grownCap w (n + 1) c 100 := ⟨_, rfl⟩
  obtain ⟨ROW, hROW⟩ : ∃ ROW : Array Value, ROW = (cells (l.take i)).toArray ++ Builtin.zeroCells (Value.agg #[.int .i64 0, .slice none 0 0]).cells (n + 1 - i) ++ Builtin.zeroCells (Value.agg #[.int .i64 0, .slice none 0 0]).cells (G - (n + 1)) := ⟨_, rfl⟩
  have hGn : n + 1 ≤ G := by rw [hG]; exact grownCap_ge w _ _ _
  have hG63 : G ≤ maxLen := by rw [hG]; exact grownCap_le_maxLen w (n + 1) c 100 (by unfold maxLen; omega)
  have hRs : ROW.size = G * 2 := by rw [hROW, Array.size_append, Array.size_append, zeroCells_size, zeroCells_size, List.size_toArray, htl]; omega
  have hRt : ROW.toList.take (i * 2) = cells (l.take i) := by
    rw [hROW, Array.toList_append, Array.toList_append, List.append_assoc, List.take_append_of_le_length (by simp [htl]), List.take_of_length_le (by simp [htl])]
  rw [← hG] at hrz
  rw [← hROW] at hrz
  clear hROW hG hold ct cg cl
  obtain ⟨W1, hW1⟩ : ∃ W1, W1 = w.drew.alloc (.cells ROW 100) := ⟨_, rfl⟩
  have n1 : W1.heap[w.heap.size]? = some (.cells ROW 100 (0, 0)) := by rw [hW1]; exact block_new w.drew _
  have v1 : W1.heap[vb]? = some (.cells #[ek r.1, ev r.2] 100 (0, 0)) := by rw [hW1]; exact block_old (w := w.drew) hb _
  have g1 : W1.heap[g]? = some (.cells cur 100 (0, 0)) := by rw [hW1]; exact block_old (w := w.drew) hg _
  have hcpA : ∀ (W : World), W.heap = W1.heap → ∀ ty dc, (Builtin.copy_ #[109, 109] ty #[.slice (some ⟨w.heap.size, i * 2, none⟩) (n + 1 - i) dc, .slice (some ⟨vb, 0, none⟩) 1 1]).run Tryz.prog W = .ok (goInt 1) (W.setCells w.heap.size (i * 2) [ek r.1, ev r.2]) := fun W hW ty dc => by
    rw [← hW] at n1 v1
    have hmi : Nat.min 1 (n + 1 - i) = 1 := by simp only [Nat.min_def]; split <;> omega
    have h := run_copy_rows W ty w.heap.size (i * 2) (n + 1 - i) dc ⟨vb, 0, none⟩ 1 1 [ek r.1, ev r.2] (by rw [hmi]; rfl)
      (fun j v hj => by
        rw [Addr.add_lit, Nat.zero_add, cell_of_row _ _ _ _ _ _ v1]
        simpa using hj)
      (fun j hj => by
        rw [cell_of_row _ _ _ _ _ _ n1, Array.getElem?_eq_getElem (by simp at hj; omega)]; rfl)
      (fun j hj => frozen_of_row _ _ _ _ _ n1) (cells_one [r])
    rw [hmi] at h
    exact h
  obtain ⟨W2, hW2⟩ : ∃ W2, W2 = W1.setCells w.heap.size (i * 2) [ek r.1, ev r.2] := ⟨_, rfl⟩
  have n2 : W2.heap[w.heap.size]? = some (.cells (setL ROW.toList (i * 2) [ek r.1, ev r.2]).toArray 100 (0, 0)) := by rw [hW2]; exact heap_setCells _ _ _ _ _ _ n1
  have s2 : (setL ROW.toList (i * 2) [ek r.1, ev r.2]).toArray.size = G * 2 := by
    rw [setL_eq _ _ _ (by simp; omega)]
    simp; omega
  have g2 : W2.heap[g]? = some (.cells cur 100 (0, 0)) := by
    rw [hW2, (grownBy_setCells w.heap.size _ _ W1).block g (Array.getElem?_eq_some_iff.1 g1).1 (by simp; omega)]
    exact g1
  have hcpB : ∀ (W : World), W.heap = W2.heap → ∀ ty dc sc, (Builtin.copy_ #[109, 109] ty #[.slice (some ⟨w.heap.size, (i + 1) * 2, none⟩) (n - i) dc, .slice (some ⟨g, i * 2, none⟩) (n - i) sc]).run Tryz.prog W = .ok (goInt (n - i : Nat)) (W.setCells w.heap.size ((i + 1) * 2) (cells (l.drop i))) := fun W hW ty dc sc => by
    rw [← hW] at n2 g2
    have hmi : Nat.min (n - i) (n - i) = n - i := Nat.min_self _
    have h := run_copy_rows W ty w.heap.size ((i + 1) * 2) (n - i) dc ⟨g, i * 2, none⟩ (n - i) sc (cells (l.drop i)) (by rw [hmi]; exact hdl)
      (fun j v hj => by
        have := hsrc j v hj
        rw [cell_of_row _ _ _ _ _ _ hg] at this
        rw [Addr.add_lit, cell_of_row _ _ _ _ _ _ g2]
        exact this)
      (fun j hj => by
        rw [cell_of_row _ _ _ _ _ _ n2, Array.getElem?_eq_getElem (by omega)]; rfl)
      (fun j hj => frozen_of_row _ _ _ _ _ n2) (cells_one _)
    rw [hmi] at h
    exact h
  have HW1 := Lib.hid hW1
  have HW2 := Lib.hid hW2
  have HG := Lib.hid hg
  have HNL := Lib.hid hnl
  have HRS := Lib.hid hRs
  have HRT := Lib.hid hRt
  have hE1 : ((w.alloc (.cells ROW 100)).drew).heap = W1.heap := by rw [hW1]; rfl
  have hF1 : (((w.alloc (.cells ROW 100)).drew.setCells w.heap.size (i * 2) [ek r.1, ev r.2]).drew).heap = W2.heap := by
    rw [hW2, hW1]
    show ((w.alloc _).drew.setCells _ _ _).heap = _
    rfl
  have hz2 : ¬ ((i : Int) = (n : Int)) := by omega
  have hw1 : IntKind.i64.wrap ((i : Int) + 1) = (i : Int) + 1 := by rw [IntKind.wrap_i64]; omega
  have hb1' : (0 : Int) ≤ (i : Int) + 1 := by omega
  have hin : i ≤ n := by omega
  have hz3 : (c : Int) < (n : Int) + 1 := by omega
  have htn : ((i : Int) + 1).toNat = i + 1 := by omega
  have hGi : ¬ (G = i) := by omega
  have hGim : ¬ (G = i + 1) := by omega
  have hci : ¬ (c = i) := by omega
  have hb3 : (i : Int) ≤ (n : Int) := by omega
  have hG64 : G ≤ 9223372036854775807 := by unfold maxLen at hG63; omega
  rw [← hnl] at hi hn hnc hroom ⊢
  clear hW1 hW2 hg hnl hRs hRt n1 v1 g1 n2 g2 s2 hcl hb hsrc htl hdl hkk hik hzs hzb hz0 hi0
  go_enter Tryz.func116, Tryz.ntmps116
  go_wp2_with (first
    | (at_builtin; refine Lib.wpList_append_run _ rfl _ _ _ _ rfl _ _ rfl rfl _ _ (hrz _) ?_)
    | (at_builtin; refine wpList_copy_runI _ rfl _ _ 109 109 rfl _ _ rfl rfl (hcpA _ hE1 _ _) ?_))
  go_region_law (refine step_copy_runI rfl _ _ 109 109 rfl (.slice (some ⟨w.heap.size, (i + 1) * 2, none⟩) (n - i) (G - (i + 1))) (.slice (some ⟨g, i * 2, none⟩) (n - i) (c - i)) (by simp [Act.eval, Act.put]) (by simp [Act.eval, Act.put]) (hcpB _ hF1 3 (G - (i + 1)) (c - i)) ?_)
  go_wp2
  go_ret
  exact ⟨ROW, G, (by rw [← HNL.out]; rfl), by rw [← HNL.out]; exact hGn, hG63, HRS.out, HRT.out, rfl⟩

/-- What slices.Insert leaves: the longer row, owned; nothing else written but the old row's block. -/
def InsP (base : Nat) (w : World) (v : Value) (l2 : List R) (n : Nat) (e : Ending) (w' : World) : Prop :=
  ∃ g cap, e = .returned (.slice (some ⟨g, 0, none⟩) n cap) ∧ w'.ownsRow base 100 2 (.slice (some ⟨g, 0, none⟩) n cap) n (cells l2) ∧ w.grownBy w' v.ownBlock ∧ (v.ownBlock = some g ∨ w.heap.size ≤ g)
theorem ins_list (l : List R) (r : R) (i : Nat) (hi : i ≤ l.length) (L : List Value) (c : Nat) (hL : L.length = c * 2) (hc : l.length + 1 ≤ c) (ht : L.take (i * 2) = cells (l.take i)) :
    (setL (setL L (i * 2) [ek r.1, ev r.2]) ((i + 1) * 2) (cells (l.drop i))).take ((l.length + 1) * 2) = cells (l.take i ++ r :: l.drop i) ∧ (setL (setL L (i * 2) [ek r.1, ev r.2]) ((i + 1) * 2) (cells (l.drop i))).length = c * 2 ∧
    (setL (setL L ((i + 1) * 2) (cells (l.drop i))) (i * 2) [ek r.1, ev r.2]).take ((l.length + 1) * 2) = cells (l.take i ++ r :: l.drop i) ∧ (setL (setL L ((i + 1) * 2) (cells (l.drop i))) (i * 2) [ek r.1, ev r.2]).length = c * 2 := by
  have hd : (cells (l.drop i)).length = (l.length - i) * 2 := by rw [cells_len, List.length_drop]
  have htl : (cells (l.take i)).length = i * 2 := by rw [cells_len, List.length_take]; omega
  obtain ⟨A, B, hAB, hA⟩ : ∃ A B, L = A ++ B ∧ A = cells (l.take i) := ⟨L.take (i * 2), L.drop (i * 2), (List.take_append_drop _ _).symm, ht⟩
  have hAl : A.length = i * 2 := by rw [hA, htl]
  have hB : B.length = c * 2 - i * 2 := by have := congrArg List.length hAB; simp at this; omega
  obtain ⟨x, y, B2, rfl⟩ : ∃ x y B2, B = x :: y :: B2 := by
    match B, hB with
    | x :: y :: B2, _ => exact ⟨x, y, B2, rfl⟩
    | [], h => simp at h; omega
    | [x], h => simp at h; omega
  obtain ⟨C, D, hCD, hC⟩ : ∃ C D, B2 = C ++ D ∧ C.length = (l.length - i) * 2 := ⟨B2.take ((l.length - i) * 2), B2.drop ((l.length - i) * 2), (List.take_append_drop _ _).symm, by rw [List.length_take]; simp at hB; omega⟩
  have hfin : cells (l.take i ++ r :: l.drop i) = A ++ ([ek r.1, ev r.2] ++ cells (l.drop i)) := by rw [cells_append, cells_cons, hA]; rfl
  have e1 : setL (setL L (i * 2) [ek r.1, ev r.2]) ((i + 1) * 2) (cells (l.drop i)) = A ++ ([ek r.1, ev r.2] ++ (cells (l.drop i) ++ D)) := by
    rw [setL_eq [ek r.1, ev r.2] L _ (by rw [hL]; simp <;> omega), hAB, List.take_left' hAl, show A ++ x :: y :: B2 = (A ++ [x, y]) ++ B2 by simp, List.drop_left' (by simp [hAl])]
    rw [setL_eq _ _ _ (by rw [hd, hCD]; simp [hAl, hC] <;> omega), hCD, show A ++ ([ek r.1, ev r.2] ++ (C ++ D)) = (A ++ [ek r.1, ev r.2]) ++ (C ++ D) by simp, List.take_left' (by simp [hAl] <;> omega), show (A ++ [ek r.1, ev r.2]) ++ (C ++ D) = ((A ++ [ek r.1, ev r.2]) ++ C) ++ D by simp, List.drop_left' (by rw [hd]; simp [hAl, hC] <;> omega)]
    simp
  have e2 : setL (setL L ((i + 1) * 2) (cells (l.drop i))) (i * 2) [ek r.1, ev r.2] = A ++ ([ek r.1, ev r.2] ++ (cells (l.drop i) ++ D)) := by
    rw [setL_eq (cells (l.drop i)) L _ (by rw [hL, hd]; omega), hAB, hCD, show A ++ x :: y :: (C ++ D) = (A ++ [x, y]) ++ (C ++ D) by simp, List.take_left' (by simp [hAl] <;> omega), show (A ++ [x, y]) ++ (C ++ D) = ((A ++ [x, y]) ++ C) ++ D by simp, List.drop_left' (by rw [hd]; simp [hAl, hC] <;> omega)]
    rw [setL_eq _ _ _ (by simp [hAl] <;> omega), show (A ++ [x, y]) ++ (cells (l.drop i) ++ D) = A ++ ([x, y] ++ (cells (l.drop i) ++ D)) by simp, List.take_left' hAl, show A ++ ([x, y] ++ (cells (l.drop i) ++ D)) = (A ++ [x, y]) ++ (cells (l.drop i) ++ D) by simp, List.drop_left' (by simp [hAl])]
  have hlen : (A ++ ([ek r.1, ev r.2] ++ (cells (l.drop i) ++ D))).length = c * 2 := by
    have := congrArg List.length hCD
    simp at this hB
    simp [hAl, hd]; omega
  have htk : (A ++ ([ek r.1, ev r.2] ++ (cells (l.drop i) ++ D))).take ((l.length + 1) * 2) = cells (l.take i ++ r :: l.drop i) := by
    rw [hfin, show A ++ ([ek r.1, ev r.2] ++ (cells (l.drop i) ++ D)) = (A ++ ([ek r.1, ev r.2] ++ cells (l.drop i))) ++ D by simp, List.take_left' (by simp [hAl, hd] <;> omega)]
  rw [e1, e2]
  exact ⟨htk, hlen, htk, hlen⟩
end Go.Proofs.YtjijgoflbjbnfaaGreat.Tb.Ib
