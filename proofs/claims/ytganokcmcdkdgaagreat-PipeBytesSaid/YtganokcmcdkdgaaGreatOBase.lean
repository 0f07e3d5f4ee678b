/-
  Memory of writers and readers; a mistake's two words. Conditions: none.
-/
import Derived.Test.YtganokcmcdkdgaaGreatRows
import Derived.KernelRfl
import Derived.RangeFuncBox
import Derived.Shelf.Abstract
import Derived.Shelf.RegionOpen
import Derived.OwnWalkIn
import Derived.TacticsInMore
import Derived.LoopNIn
import Derived.LoopIn
import Derived.WalkKit
import Derived.WalkSpells
import Derived.WalkLawsBesides
import Derived.Deep.Draws
import Derived.Below
import Derived.Deep.LoopGhost
import Derived.Deep.CutBlock
import Derived.Deep.QuietTactic
import Derived.Deep.RegionLaw
import Derived.Deep.AppendLies
import Derived.BigQuiet
import Derived.Lib.Hide
import Derived.Lib.SliceRun
import Derived.Lib.AppendStr
import Derived.Outline
import Derived.IntWalk
import Derived.Laws.OwnMore
import Derived.Laws.Rows
namespace Go.Proofs.YtganokcmcdkdgaaGreat.Oc
open Go.RowKit

theorem below_drewN {B : Nat} {a w : World} (h : Below B a w) (n : Nat) : Below B a (w.drewN n) := ⟨h.os, h.tape, h.output, h.size, h.block⟩
theorem ret_int {k : IntKind} {a b : Int} (h : a = b) : Ending.returned (.int k a) = .returned (.int k b) := by rw [h]
theorem ret_bool {a b : Bool} (h : a = b) : Ending.returned (.bool a) = .returned (.bool b) := by rw [h]
def bv (l : List Int) : List Value := l.map (Value.int .u8)
theorem bv_len (l : List Int) : (bv l).length = l.length := by simp [bv]
theorem bv_one (l : List Int) : ∀ u ∈ bv l, u.oneCell' = true := fun u h => by
  obtain ⟨x, _, rfl⟩ := List.mem_map.1 h; rfl
theorem bv_get {l : List Int} {j : Nat} {u : Value} (h : (bv l)[j]? = some u) : u = .int .u8 (l.getD j 0) := by
  unfold bv at h
  rw [List.getElem?_map] at h
  obtain ⟨x, hx, rfl⟩ := Option.map_eq_some_iff.1 h
  simp [List.getD, hx]
theorem bv_getD {l : List Int} {j : Nat} (h : j < l.length) : (bv l)[j]? = some (.int .u8 (l.getD j 0)) := by
  simp [bv, List.getD, List.getElem?_eq_getElem h]
theorem bv_app (l m : List Int) : bv (l ++ m) = bv l ++ bv m := by simp [bv]

theorem block_kept {W w' : World} {b : Nat} {o : Obj} (hb : W.heap[b]? = some o) (hcl : Below W.heap.size W w') : w'.heap[b]? = some o :=
  (hcl.block b (Array.getElem?_eq_some_iff.1 hb).1).trans hb
theorem block_new (w : World) (o : Obj) : (w.alloc o).heap[w.heap.size]? = some o := heap_alloc_new w o
theorem block_old {w : World} {b : Nat} {x : Obj} (h : w.heap[b]? = some x) (o : Obj) : (w.alloc o).heap[b]? = some x := by
  rw [Below.heap_alloc w o b (Array.getElem?_eq_some_iff.1 h).1]; exact h
theorem block_set {w : World} {b : Nat} {x : Obj} (h : w.heap[b]? = some x) {p : Addr} (hne : b ≠ p.block) (u : Value) : (w.setCell p u).heap[b]? = some x :=
  (Below.heap_setCell w p u b hne).trans h
theorem block_cell {w : World} {b : Nat} {x : Value} {t : TypeId} (h : w.heap[b]? = some (.cells #[x] t (0, 0))) : w.cell? ⟨b, 0, none⟩ = some x ∧ w.frozen? ⟨b, 0, none⟩ = false :=
  ⟨by simp [World.cell?, h], by simp [World.frozen?, h]⟩
theorem block_put {w : World} {b : Nat} {x : Value} {t : TypeId} (h : w.heap[b]? = some (.cells #[x] t (0, 0))) (u : Value) : (w.setCell ⟨b, 0, none⟩ u).heap[b]? = some (.cells #[u] t (0, 0)) := by
  simp only [World.setCell, Array.getElem?_modify, if_true]; rw [h]; rfl
theorem block_cell2 {w : World} {b : Nat} {x y : Value} {t : TypeId} (h : w.heap[b]? = some (.cells #[x, y] t (0, 0))) : (w.cell? ⟨b, 0, none⟩ = some x ∧ w.cell? ⟨b, 1, none⟩ = some y) ∧ w.frozen? ⟨b, 0, none⟩ = false ∧ w.frozen? ⟨b, 1, none⟩ = false :=
  ⟨⟨by simp [World.cell?, h], by simp [World.cell?, h]⟩, by simp [World.frozen?, h], by simp [World.frozen?, h]⟩
theorem block_set1 {w : World} {b : Nat} {x y : Value} {t : TypeId} (h : w.heap[b]? = some (.cells #[x, y] t (0, 0))) (u : Value) : (w.setCell ⟨b, 0, none⟩ u).heap[b]? = some (.cells #[u, y] t (0, 0)) := by
  simp only [World.setCell, Array.getElem?_modify, if_true]; rw [h]; rfl
theorem block_set2 {w : World} {b : Nat} {x y : Value} {t : TypeId} (h : w.heap[b]? = some (.cells #[x, y] t (0, 0))) (u : Value) : (w.setCell ⟨b, 1, none⟩ u).heap[b]? = some (.cells #[x, u] t (0, 0)) := by
  simp only [World.setCell, Array.getElem?_modify, if_true]; rw [h]; rfl
theorem grownBy_alloc (w : World) (o : Obj) (row : Option Nat) : w.grownBy (w.alloc o) row := ⟨rfl, rfl, rfl, by simp, fun k hk _ => Below.heap_alloc _ _ _ hk⟩
theorem grownBy_refl (w : World) (row : Option Nat) : w.grownBy w row := ⟨rfl, rfl, rfl, Nat.le_refl _, fun _ _ _ => rfl⟩
theorem grownBy_drew (w : World) (row : Option Nat) : w.grownBy w.drew row := ⟨rfl, rfl, rfl, Nat.le_refl _, fun _ _ _ => rfl⟩
theorem grownBy_trans {a b c : World} {row : Option Nat} (h : a.grownBy b row) (k : b.grownBy c row) : a.grownBy c row :=
  ⟨k.os.trans h.os, k.tape.trans h.tape, k.output.trans h.output, Nat.le_trans h.size k.size, fun i hi hn => (k.block i (Nat.lt_of_lt_of_le hi h.size) hn).trans (h.block i hi hn)⟩
theorem grownBy_of_below {w w' : World} (row : Option Nat) (h : Below w.heap.size w w') : w.grownBy w' row := ⟨h.os, h.tape, h.output, h.size, fun k hk _ => h.block k hk⟩
theorem grownBy_set (w : World) (p : Addr) (u : Value) : w.grownBy (w.setCell p u) (some p.block) := ⟨rfl, rfl, rfl, by simp [World.setCell], fun k _ hn => Below.heap_setCell _ _ _ _ (fun e => hn (by rw [e]))⟩
theorem below_of_grown {n0 c : Nat} {w w' : World} (h : w.grownBy w' (some c)) (h1 : n0 ≤ c) (h2 : n0 ≤ w.heap.size) : Below n0 w w' := ⟨h.os, h.tape, h.output, h.size, fun k hk => h.block k (by omega) (fun e => by cases e; omega)⟩
theorem block_grown {w w' : World} {b c : Nat} {x : Obj} (h : w.heap[b]? = some x) (hg : w.grownBy w' (some c)) (hne : b ≠ c) : w'.heap[b]? = some x :=
  (hg.block b (Array.getElem?_eq_some_iff.1 h).1 (fun e => hne (Option.some.inj e))).trans h

/-! ### A writer in memory -/
/-- The writer b has made the mistake er, and has the bytes l in the row v. -/
def WrR (w : World) (b : Nat) (er : Int) (l : List Int) (v : Value) : Prop :=
  w.heap[b]? = some (.cells #[.int .i64 er, v] 48 (0, 0)) ∧ w.ownsRow (b + 1) 5 1 v l.length (bv l) ∧ l.length ≤ 1048576
/-- All but the writer b and its row v is as it was; its row is v' now. -/
structure WFr (b : Nat) (v v' : Value) (w w' : World) : Prop where
  os : w'.os = w.os
  tape : w'.tape = w.tape
  output : w'.output = w.output
  size : w.heap.size ≤ w'.heap.size
  block : ∀ k, k < w.heap.size → k ≠ b → v.ownBlock ≠ some k → w'.heap[k]? = w.heap[k]?
  own : ∀ g, v'.ownBlock = some g → v.ownBlock = some g ∨ w.heap.size ≤ g
theorem WFr.refl (b : Nat) (v : Value) (w : World) : WFr b v v w w := ⟨rfl, rfl, rfl, Nat.le_refl _, fun _ _ _ _ => rfl, fun _ h => .inl h⟩
theorem WFr.trans {b : Nat} {v v1 v2 : Value} {w w1 w2 : World} (h : WFr b v v1 w w1) (k : WFr b v1 v2 w1 w2) : WFr b v v2 w w2 :=
  ⟨k.os.trans h.os, k.tape.trans h.tape, k.output.trans h.output, Nat.le_trans h.size k.size,
    fun i hi hb hv => (k.block i (Nat.lt_of_lt_of_le hi h.size) hb (fun e => by rcases h.own i e with h1 | h1; exact hv h1; omega)).trans (h.block i hi hb hv),
    fun g hg => by
      rcases k.own g hg with h1 | h1
      · exact h.own g h1
      · exact .inr (Nat.le_trans h.size h1)⟩
theorem WFr.of_below {b : Nat} {v : Value} {w w' : World} (h : Below w.heap.size w w') : WFr b v v w w' := ⟨h.os, h.tape, h.output, h.size, fun k hk _ _ => h.block k hk, fun _ h => .inl h⟩
theorem WFr.below {n0 b : Nat} {er : Int} {l : List Int} {v v' : Value} {w w' : World} (h : WFr b v v' w w') (hw : WrR w b er l v) (h1 : n0 ≤ b) : Below n0 w w' :=
  ⟨h.os, h.tape, h.output, h.size, fun k hk => h.block k (by have := (Array.getElem?_eq_some_iff.1 hw.1).1; omega) (by omega) (fun e => by have := (hw.2.1.lt k e).1; omega)⟩
theorem WrR.lt {w : World} {b : Nat} {er : Int} {l : List Int} {v : Value} (h : WrR w b er l v) : b < w.heap.size := (Array.getElem?_eq_some_iff.1 h.1).1
theorem ownsRow_kept {w w' : World} {base : Nat} {e : TypeId} {size n : Nat} {v : Value} {xs : List Value} (h : w.ownsRow base e size v n xs) (hk : ∀ g, v.ownBlock = some g → w'.heap[g]? = w.heap[g]?) : w'.ownsRow base e size v n xs := by
  obtain ⟨h1, h2 | ⟨g, cap, cur, h2, h3, h4, h5⟩⟩ := h
  · exact ⟨h1, .inl h2⟩
  · exact ⟨h1, .inr ⟨g, cap, cur, h2, h3, (hk g (by rw [h2]; rfl)).trans h4, h5⟩⟩
theorem ownsRow_base {w : World} {base base' : Nat} {e : TypeId} {size n : Nat} {v : Value} {xs : List Value} (h : w.ownsRow base e size v n xs) (hb : base' ≤ base) : w.ownsRow base' e size v n xs := by
  obtain ⟨h1, h2 | ⟨g, cap, cur, h2, h3, h4, h5⟩⟩ := h
  · exact ⟨h1, .inl h2⟩
  · exact ⟨h1, .inr ⟨g, cap, cur, h2, Nat.le_trans hb h3, h4, h5⟩⟩
theorem WrR.below {w w' : World} {b : Nat} {er : Int} {l : List Int} {v : Value} (h : WrR w b er l v) (hb : Below w.heap.size w w') : WrR w' b er l v :=
  ⟨block_kept h.1 hb, ownsRow_kept h.2.1 (fun g hg => hb.block g (h.2.1.lt g hg).2), h.2.2⟩
/-- What a writer's call leaves. -/
def WrTo (b : Nat) (v : Value) (w : World) (er : Int) (l : List Int) (w' : World) : Prop := ∃ v', WrR w' b er l v' ∧ WFr b v v' w w'
theorem WrTo.trans {b : Nat} {v v1 : Value} {w w1 w2 : World} {er : Int} {l : List Int} (h : WFr b v v1 w w1) (k : WrTo b v1 w1 er l w2) : WrTo b v w er l w2 := by
  obtain ⟨v', h1, h2⟩ := k
  exact ⟨v', h1, h.trans h2⟩
theorem WrTo.same {b : Nat} {v : Value} {w w' : World} {er : Int} {l : List Int} (h : WrR w b er l v) (hb : Below w.heap.size w w') : WrTo b v w er l w' := ⟨v, h.below hb, .of_below hb⟩
/-- The mistake is set. -/
theorem wr_set1 {w : World} {b : Nat} {er : Int} {l : List Int} {v : Value} (h : WrR w b er l v) (x : Int) : WrR (w.setCell ⟨b, 0, none⟩ (.int .i64 x)) b x l v ∧ WFr b v v w (w.setCell ⟨b, 0, none⟩ (.int .i64 x)) :=
  ⟨⟨block_set1 h.1 _, ownsRow_kept h.2.1 (fun g hg => Below.heap_setCell _ _ _ _ (by have := (h.2.1.lt g hg).1; show g ≠ b; omega)), h.2.2⟩,
    ⟨rfl, rfl, rfl, by simp [World.setCell], fun k _ hb _ => Below.heap_setCell _ _ _ _ hb, fun _ h => .inl h⟩⟩
/-- No bytes any more. -/
theorem wr_clear {w : World} {b : Nat} {er : Int} {l : List Int} {v : Value} (h : WrR w b er l v) : WrR (w.setCell ⟨b, 1, none⟩ (.slice none 0 0)) b er [] (.slice none 0 0) ∧ WFr b v (.slice none 0 0) w (w.setCell ⟨b, 1, none⟩ (.slice none 0 0)) :=
  ⟨⟨block_set2 h.1 _, World.ownsRow_nil _ _ _ _, by simp⟩, ⟨rfl, rfl, rfl, by simp [World.setCell], fun k _ hb _ => Below.heap_setCell _ _ _ _ hb, fun g h => by simp [Value.ownBlock] at h⟩⟩
/-- The row was grown, and is stored. -/
theorem wr_grown {w w1 : World} {b : Nat} {er : Int} {l bs : List Int} {v v' : Value} (h : WrR w b er l v) (hown : w1.ownsRow (b + 1) 5 1 v' (l.length + bs.length) (bv l ++ bv bs)) (hg : w.grownBy w1 v.ownBlock) (hn : v' = .slice none 0 0 ∨ v'.ownBlock = v.ownBlock ∨ ∃ g, v'.ownBlock = some g ∧ w.heap.size ≤ g)
    (hl : l.length + bs.length ≤ 1048576) : WrR (w1.setCell ⟨b, 1, none⟩ v') b er (l ++ bs) v' ∧ WFr b v v' w (w1.setCell ⟨b, 1, none⟩ v') := by
  have hb : w1.heap[b]? = some (.cells #[.int .i64 er, v] 48 (0, 0)) := (hg.block b h.lt (fun e => by have := (h.2.1.lt b e.symm).1; omega)).trans h.1
  refine ⟨⟨block_set2 hb _, ?_, by simpa using hl⟩, ⟨hg.os, hg.tape, hg.output, Nat.le_trans hg.size (by simp [World.setCell]), fun k hk hb hv => ?_, fun g h2 => ?_⟩⟩
  · rw [List.length_append, bv_app]
    exact ownsRow_kept hown (fun g hg => Below.heap_setCell _ _ _ _ (by have := (hown.lt g hg).1; show g ≠ b; omega))
  · rw [Below.heap_setCell _ _ _ _ hb]
    exact hg.block k hk (fun e => hv e.symm)
  · rcases hn with h3 | h3 | ⟨g2, h3, h4⟩
    · rw [h3] at h2; simp [Value.ownBlock] at h2
    · exact .inl (h3 ▸ h2)
    · rw [h3] at h2; cases h2; exact .inr h4

/-! ### A string's bytes behind a row -/
def sb (s : ByteArray) : List Int := s.data.toList.map fun b => (b.toNat : Int)
theorem sb_len (s : ByteArray) : (sb s).length = s.size := by simp [sb]
theorem bv_sb (s : ByteArray) : Lib.strCells s = bv (sb s) := by simp [Lib.strCells, bv, sb]
theorem u8Inf : (Tryz.prog.info? 5).map (fun i => (i.zero, i.size, i.bytes)) = some (some (.int .u8 0), 1, 1) := by kernel_rfl
theorem app_str (w : World) (base : Nat) (v : Value) (l : List Int) (hown : w.ownsRow base 5 1 v l.length (bv l)) (s : ByteArray) (hb : l.length + s.size ≤ 1048576) (hbase : base ≤ w.heap.size) :
    ∃ v' w', (Builtin.append_ #[22, 9] 22 #[v, .string s]).run Tryz.prog w = .ok v' w' ∧ w'.ownsRow base 5 1 v' (l.length + (sb s).length) (bv l ++ bv (sb s)) ∧ w.grownBy w' v.ownBlock ∧
      (v' = .slice none 0 0 ∨ v'.ownBlock = v.ownBlock ∨ ∃ g, v'.ownBlock = some g ∧ w.heap.size ≤ g) := by
  obtain ⟨i0, hi0, hz0, hz1, hz2⟩ := info_parts u8Inf
  obtain ⟨v', w', hr, h1, h2, h3⟩ := Lib.run_append_own_string (P := Tryz.prog) w base 22 9 22 5 i0 Tryz.underlying22 Tryz.underlying9 hi0 hz0 hz1 hz2 v l.length (bv l) hown s (by unfold maxLen; omega) (by omega) hbase
  refine ⟨v', w', hr, by rw [sb_len, ← bv_sb]; exact h1, h2, ?_⟩
  rcases hown.2 with ⟨rfl, h0⟩ | ⟨g, cap, cur, rfl, _, hg, hnc, hcm, hcs, _⟩
  · by_cases hm : s.size = 0
    · exact .inl (h3.2 ⟨rfl, hm⟩)
    · have hr2 := run_append_nil_string (P := Tryz.prog) w 22 9 22 5 i0 (.int .u8 0) Tryz.underlying22 Tryz.underlying9 hi0 hz0 s (by omega) (by omega) (by rw [hz2]; omega)
      rw [hr] at hr2
      simp only [Result.ok.injEq] at hr2
      exact .inr (.inr ⟨w.heap.size, by rw [hr2.1]; rfl, Nat.le_refl _⟩)
  · by_cases hroom : l.length + s.size ≤ cap
    · have hr2 := Lib.run_append_room_string (P := Tryz.prog) w 22 9 22 5 i0 Tryz.underlying22 Tryz.underlying9 hi0 hz1 g l.length cap cur hg s hroom (by omega)
      rw [hr] at hr2
      simp only [Result.ok.injEq] at hr2
      exact .inr (.inl (by rw [hr2.1]; rfl))
    · have hr2 := Lib.run_append_grow_string (P := Tryz.prog) w 22 9 22 5 i0 (.int .u8 0) Tryz.underlying22 Tryz.underlying9 hi0 hz0 ⟨g, 0, none⟩ l.length cap (bv l) (by rw [hz1, bv_len]; omega) (hown.cells (g := g) rfl) s (by omega) (by omega) (by rw [hz2]; exact growslice_fits (by omega) (by omega))
      rw [hr] at hr2
      simp only [Result.ok.injEq] at hr2
      exact .inr (.inr ⟨w.heap.size, by rw [hr2.1]; rfl, Nat.le_refl _⟩)

/-! ### The mistake -/
set_option maxRecDepth 100000 in
theorem failed_no (w : World) (b : Nat) (h : w.cell? ⟨b, 0, none⟩ = some (.int .i64 0)) : Calls Tryz.prog 55 #[.pointer (some ⟨b, 0, none⟩)] w fun e w' => e = .returned (.bool false) ∧ w = w' := by
  go_enter Tryz.func55, Tryz.ntmps55
  go_wp2
  go_ret
  exact ⟨rfl, rfl⟩
set_option maxRecDepth 100000 in
theorem failed_yes (w : World) (b : Nat) (er : Int) (h0 : ¬ er = 0) (h : w.cell? ⟨b, 0, none⟩ = some (.int .i64 er)) : Calls Tryz.prog 55 #[.pointer (some ⟨b, 0, none⟩)] w fun e w' => e = .returned (.bool true) ∧ w = w' := by
  go_enter Tryz.func55, Tryz.ntmps55
  go_wp2
  go_ret
  simp_all
set_option maxRecDepth 100000 in
theorem fail_no (w : World) (b : Nat) (er x : Int) (h0 : ¬ er = 0) (h : w.cell? ⟨b, 0, none⟩ = some (.int .i64 er)) : Calls Tryz.prog 75 #[.pointer (some ⟨b, 0, none⟩), .int .i64 x] w fun e w' => e = .returned (.tuple #[]) ∧ w = w' := by
  go_enter Tryz.func75, Tryz.ntmps75
  go_wp2_with (go_at_call 55; refine (failed_yes _ _ _ h0 h).mono ?_; rintro e w1 ⟨rfl, rfl⟩)
  go_end0
  exact ⟨rfl, rfl⟩
set_option maxRecDepth 100000 in
theorem fail_set (w : World) (b : Nat) (x : Int) (h : w.cell? ⟨b, 0, none⟩ = some (.int .i64 0)) (hf : w.frozen? ⟨b, 0, none⟩ = false) : Calls Tryz.prog 75 #[.pointer (some ⟨b, 0, none⟩), .int .i64 x] w fun e w' => e = .returned (.tuple #[]) ∧ w' = w.setCell ⟨b, 0, none⟩ (.int .i64 x) := by
  go_enter Tryz.func75, Tryz.ntmps75
  go_wp2_with (go_at_call 55; refine (failed_no _ _ h).mono ?_; rintro e w1 ⟨rfl, rfl⟩)
  go_end0
  exact ⟨rfl, rfl⟩
end Go.Proofs.YtganokcmcdkdgaaGreat.Oc
