/-
  Bytes in memory; slices of slices. Conditions: none.
-/
import Derived.Test.YtganokcmcdkdgaaGreatRows
import Derived.KernelRfl
import Derived.RangeFuncBox
import Derived.Shelf.Abstract
import Derived.Shelf.RegionOpen
import Derived.OwnWalkIn
import Derived.TacticsInMore
import Derived.LoopNIn
import Derived.LoopIn
import Derived.WalkKit
import Derived.WalkSpells
import Derived.WalkLawsBesides
import Derived.Deep.Draws
import Derived.Below
import Derived.Deep.LoopGhost
import Derived.Deep.CutBlock
import Derived.Deep.QuietTactic
import Derived.Deep.RegionLaw
import Derived.Deep.AppendLies
import Derived.BigQuiet
import Derived.Lib.Hide
import Derived.Lib.SliceRun
import Derived.Deep.RegionHeld3
import Derived.RangeFuncNested
import Derived.RangeFuncBound
import Derived.RangeFuncCalls
import Derived.RangeFuncLeaves
import Derived.Outline
import Derived.IntWalk
import Derived.Laws.OwnMore
import Derived.Laws.Rows
import Derived.Lib.AppendZeros
import Derived.ChangeMaps5
import Derived.MapKept
namespace Go.Proofs.YtganokcmcdkdgaaGreat.Fr
open Go.RowKit

theorem below_drewN {B : Nat} {a w : World} (h : Below B a w) (n : Nat) : Below B a (w.drewN n) := ⟨h.os, h.tape, h.output, h.size, h.block⟩
theorem ret_int {k : IntKind} {a b : Int} (h : a = b) : Ending.returned (.int k a) = .returned (.int k b) := by rw [h]
theorem ret_bool {a b : Bool} (h : a = b) : Ending.returned (.bool a) = .returned (.bool b) := by rw [h]
def bv (l : List Int) : List Value := l.map (Value.int .u8)
theorem bv_len (l : List Int) : (bv l).length = l.length := by simp [bv]
theorem bv_one (l : List Int) : ∀ u ∈ bv l, u.oneCell' = true := fun u h => by
  obtain ⟨x, _, rfl⟩ := List.mem_map.1 h; rfl
theorem bv_get {l : List Int} {j : Nat} {u : Value} (h : (bv l)[j]? = some u) : u = .int .u8 (l.getD j 0) := by
  unfold bv at h
  rw [List.getElem?_map] at h
  obtain ⟨x, hx, rfl⟩ := Option.map_eq_some_iff.1 h
  simp [List.getD, hx]
theorem bv_getD {l : List Int} {j : Nat} (h : j < l.length) : (bv l)[j]? = some (.int .u8 (l.getD j 0)) := by
  simp [bv, List.getD, List.getElem?_eq_getElem h]
theorem bv_app (l m : List Int) : bv (l ++ m) = bv l ++ bv m := by simp [bv]

theorem block_kept {W w' : World} {b : Nat} {o : Obj} (hb : W.heap[b]? = some o) (hcl : Below W.heap.size W w') : w'.heap[b]? = some o :=
  (hcl.block b (Array.getElem?_eq_some_iff.1 hb).1).trans hb
theorem block_new (w : World) (o : Obj) : (w.alloc o).heap[w.heap.size]? = some o := heap_alloc_new w o
theorem block_old {w : World} {b : Nat} {x : Obj} (h : w.heap[b]? = some x) (o : Obj) : (w.alloc o).heap[b]? = some x := by
  rw [Below.heap_alloc w o b (Array.getElem?_eq_some_iff.1 h).1]; exact h
theorem block_set {w : World} {b : Nat} {x : Obj} (h : w.heap[b]? = some x) {p : Addr} (hne : b ≠ p.block) (u : Value) : (w.setCell p u).heap[b]? = some x :=
  (Below.heap_setCell w p u b hne).trans h
theorem block_cell {w : World} {b : Nat} {x : Value} {t : TypeId} (h : w.heap[b]? = some (.cells #[x] t (0, 0))) : w.cell? ⟨b, 0, none⟩ = some x ∧ w.frozen? ⟨b, 0, none⟩ = false :=
  ⟨by simp [World.cell?, h], by simp [World.frozen?, h]⟩
theorem block_put {w : World} {b : Nat} {x : Value} {t : TypeId} (h : w.heap[b]? = some (.cells #[x] t (0, 0))) (u : Value) : (w.setCell ⟨b, 0, none⟩ u).heap[b]? = some (.cells #[u] t (0, 0)) := by
  simp only [World.setCell, Array.getElem?_modify, if_true]; rw [h]; rfl
theorem block_cell2 {w : World} {b : Nat} {x y : Value} {t : TypeId} (h : w.heap[b]? = some (.cells #[x, y] t (0, 0))) : (w.cell? ⟨b, 0, none⟩ = some x ∧ w.cell? ⟨b, 1, none⟩ = some y) ∧ w.frozen? ⟨b, 0, none⟩ = false ∧ w.frozen? ⟨b, 1, none⟩ = false :=
  ⟨⟨by simp [World.cell?, h], by simp [World.cell?, h]⟩, by simp [World.frozen?, h], by simp [World.frozen?, h]⟩
theorem block_set1 {w : World} {b : Nat} {x y : Value} {t : TypeId} (h : w.heap[b]? = some (.cells #[x, y] t (0, 0))) (u : Value) : (w.setCell ⟨b, 0, none⟩ u).heap[b]? = some (.cells #[u, y] t (0, 0)) := by
  simp only [World.setCell, Array.getElem?_modify, if_true]; rw [h]; rfl
theorem block_set2 {w : World} {b : Nat} {x y : Value} {t : TypeId} (h : w.heap[b]? = some (.cells #[x, y] t (0, 0))) (u : Value) : (w.setCell ⟨b, 1, none⟩ u).heap[b]? = some (.cells #[x, u] t (0, 0)) := by
  simp only [World.setCell, Array.getElem?_modify, if_true]; rw [h]; rfl
theorem grownBy_alloc (w : World) (o : Obj) (row : Option Nat) : w.grownBy (w.alloc o) row := ⟨rfl, rfl, rfl, by simp, fun k hk _ => Below.heap_alloc _ _ _ hk⟩
theorem grownBy_refl (w : World) (row : Option Nat) : w.grownBy w row := ⟨rfl, rfl, rfl, Nat.le_refl _, fun _ _ _ => rfl⟩
theorem grownBy_drew (w : World) (row : Option Nat) : w.grownBy w.drew row := ⟨rfl, rfl, rfl, Nat.le_refl _, fun _ _ _ => rfl⟩
theorem grownBy_trans {a b c : World} {row : Option Nat} (h : a.grownBy b row) (k : b.grownBy c row) : a.grownBy c row :=
  ⟨k.os.trans h.os, k.tape.trans h.tape, k.output.trans h.output, Nat.le_trans h.size k.size, fun i hi hn => (k.block i (Nat.lt_of_lt_of_le hi h.size) hn).trans (h.block i hi hn)⟩
theorem grownBy_of_below {w w' : World} (row : Option Nat) (h : Below w.heap.size w w') : w.grownBy w' row := ⟨h.os, h.tape, h.output, h.size, fun k hk _ => h.block k hk⟩
theorem grownBy_set (w : World) (p : Addr) (u : Value) : w.grownBy (w.setCell p u) (some p.block) := ⟨rfl, rfl, rfl, by simp [World.setCell], fun k _ hn => Below.heap_setCell _ _ _ _ (fun e => hn (by rw [e]))⟩
theorem below_of_grown {n0 c : Nat} {w w' : World} (h : w.grownBy w' (some c)) (h1 : n0 ≤ c) (h2 : n0 ≤ w.heap.size) : Below n0 w w' := ⟨h.os, h.tape, h.output, h.size, fun k hk => h.block k (by omega) (fun e => by cases e; omega)⟩
theorem block_grown {w w' : World} {b c : Nat} {x : Obj} (h : w.heap[b]? = some x) (hg : w.grownBy w' (some c)) (hne : b ≠ c) : w'.heap[b]? = some x :=
  (hg.block b (Array.getElem?_eq_some_iff.1 h).1 (fun e => hne (Option.some.inj e))).trans h

theorem u8Inf : (Tryz.prog.info? 5).map (fun i => (i.zero, i.size, i.bytes)) = some (some (.int .u8 0), 1, 1) := by kernel_rfl
theorem byInf : (Tryz.prog.info? 22).map (fun i => (i.zero, i.size, i.bytes)) = some (some (.slice none 0 0), 1, 24) := by kernel_rfl
/-- The slice v holds the bytes l. -/
def BAt (w : World) (v : Value) (l : List Int) : Prop :=
  ∃ A cap, v = .slice A l.length cap ∧ l.length ≤ cap ∧ (0 < l.length → ∃ g o, A = some ⟨g, o, none⟩ ∧ g < w.heap.size ∧ ∀ i, i < l.length → w.cell? ⟨g, o + i, none⟩ = some (.int .u8 (l.getD i 0)))
theorem BAt.of_own {w : World} {base : Nat} {v : Value} {l : List Int} (h : w.ownsRow base 5 1 v l.length (bv l)) : BAt w v l := by
  rcases h.2 with ⟨h1, h2⟩ | ⟨g, cap, cur, h1, _, h3, h4, _⟩
  · exact ⟨none, 0, by rw [h1, h2], by omega, fun h => by omega⟩
  · refine ⟨_, cap, h1, h4, fun _ => ⟨g, 0, rfl, (Array.getElem?_eq_some_iff.1 h3).1, fun i hi => ?_⟩⟩
    have := h.cells (g := g) (by rw [h1]; rfl) i _ (bv_getD hi)
    rw [show (Addr.mk g 0 none).add i = ⟨g, 0 + i, none⟩ by unfold Addr.add; split <;> simp_all] at this
    exact this
theorem BAt.kept {w w' : World} {v : Value} {l : List Int} (h : BAt w v l) (hb : Below w.heap.size w w') : BAt w' v l := by
  obtain ⟨A, cap, h1, h2, h3⟩ := h
  refine ⟨A, cap, h1, h2, fun hp => ?_⟩
  obtain ⟨g, o, h4, h5, h6⟩ := h3 hp
  exact ⟨g, o, h4, Nat.lt_of_lt_of_le h5 hb.size, fun i hi => (hb.cell (p := ⟨g, o + i, none⟩) h5).trans (h6 i hi)⟩

def bok (l : List Int) : Prop := ∀ x ∈ l, 0 ≤ x ∧ x < 256
theorem bok_app {l m : List Int} (h : bok l) (k : bok m) : bok (l ++ m) := fun x hx => by
  rcases List.mem_append.1 hx with h1 | h1
  · exact h x h1
  · exact k x h1
theorem bok_take {l : List Int} (h : bok l) (n : Nat) : bok (l.take n) := fun x hx => h x (List.mem_of_mem_take hx)
theorem bok_drop {l : List Int} (h : bok l) (n : Nat) : bok (l.drop n) := fun x hx => h x (List.mem_of_mem_drop hx)
theorem getD_drop (l : List Int) (n i : Nat) : (l.drop n).getD i 0 = l.getD (n + i) 0 := by simp [List.getD]
theorem getD_take {l : List Int} {n i : Nat} (h : i < n) : (l.take n).getD i 0 = l.getD i 0 := by simp [List.getD, h]
theorem bok_at {l : List Int} (h : bok l) {i : Nat} (hi : i < l.length) : 0 ≤ l.getD i 0 ∧ l.getD i 0 < 256 := by
  have e : l.getD i 0 = l[i] := by simp [List.getD, List.getElem?_eq_getElem hi]
  rw [e]; exact h _ (List.getElem_mem hi)

/-! ### Slices of a slice -/
theorem slice_to (A : Option Addr) (n cap q : Nat) (h : q ≤ cap) : ∀ W : World, (Instr.slice 22 (.slice A n cap) none (some (.int .i64 (q : Int))) none).run Tryz.prog W = .ok (.slice A q cap) W := fun W => by
  cases A with
  | none => simp [Instr.slice, Instr.sliceBounds, Instr.sliceBound, asIntOf, run_underlying Tryz.underlying22, h]
  | some a =>
    obtain ⟨g, o, f⟩ := a
    simp [Instr.slice, Instr.sliceBounds, Instr.sliceBound, asIntOf, run_underlying Tryz.underlying22, h]
    try (unfold Addr.add; simp)
theorem slice_from (A : Option Addr) (n cap q : Nat) (h : q ≤ n) (h2 : n ≤ cap) : ∃ A' : Option Addr, (q < n → ∀ g o, A = some ⟨g, o, none⟩ → A' = some ⟨g, o + q, none⟩) ∧ ∀ W : World, (Instr.slice 22 (.slice A n cap) (some (.int .i64 (q : Int))) none none).run Tryz.prog W = .ok (.slice A' (n - q) (cap - q)) W := by
  obtain ⟨i0, hi0, hz0, hz1, hz2⟩ := info_parts u8Inf
  cases A with
  | none =>
    refine ⟨none, fun _ g o e => (by cases e), fun W => ?_⟩
    simp [Instr.slice, Instr.sliceBounds, Instr.sliceBound, asIntOf, run_underlying Tryz.underlying22, h]
  | some a =>
    by_cases hq : cap = q
    · refine ⟨some a, fun hlt => by omega, fun W => ?_⟩
      subst hq
      simp [Instr.slice, Instr.sliceBounds, Instr.sliceBound, asIntOf, run_underlying Tryz.underlying22, h, Go.sizeOf, typeInfo, hi0]
    · refine ⟨some (a.add q), fun _ g o e => ?_, fun W => ?_⟩
      · cases e
        unfold Addr.add; split <;> simp_all
      · simp [Instr.slice, Instr.sliceBounds, Instr.sliceBound, asIntOf, run_underlying Tryz.underlying22, h, Go.sizeOf, typeInfo, hi0, hz1, hq]
/-- Between two places, ahead of the last. -/
theorem slice_mid (g o n cap q r : Nat) (h : q ≤ r) (h2 : r ≤ cap) (h3 : q < cap) : ∀ W : World, (Instr.slice 22 (.slice (some ⟨g, o, none⟩) n cap) (some (.int .i64 (q : Int))) (some (.int .i64 (r : Int))) none).run Tryz.prog W = .ok (.slice (some ⟨g, o + q, none⟩) (r - q) (cap - q)) W := fun W => by
  obtain ⟨i0, hi0, hz0, hz1, hz2⟩ := info_parts u8Inf
  have hq : ¬ cap = q := by omega
  have e : (Addr.mk g o none).add q = ⟨g, o + q, none⟩ := by unfold Addr.add; split <;> simp_all
  simp [Instr.slice, Instr.sliceBounds, Instr.sliceBound, asIntOf, run_underlying Tryz.underlying22, h, h2, Go.sizeOf, typeInfo, hi0, hz1, hq, e]
/-- Between two places, with the room cut off. -/
theorem slice_cap (g o n cap q r : Nat) (h : q ≤ r) (h2 : r ≤ cap) : ∃ A' : Option Addr, (q < r → A' = some ⟨g, o + q, none⟩) ∧ ∀ W : World, (Instr.slice 22 (.slice (some ⟨g, o, none⟩) n cap) (some (.int .i64 (q : Int))) (some (.int .i64 (r : Int))) (some (.int .i64 (r : Int)))).run Tryz.prog W = .ok (.slice A' (r - q) (r - q)) W := by
  obtain ⟨i0, hi0, hz0, hz1, hz2⟩ := info_parts u8Inf
  have e : (Addr.mk g o none).add q = ⟨g, o + q, none⟩ := by unfold Addr.add; split <;> simp_all
  by_cases hq : r = q
  · refine ⟨some ⟨g, o, none⟩, fun hlt => by omega, fun W => ?_⟩
    subst hq
    simp [Instr.slice, Instr.sliceBounds, Instr.sliceBound, asIntOf, run_underlying Tryz.underlying22, h2, Go.sizeOf, typeInfo, hi0]
  · refine ⟨some ⟨g, o + q, none⟩, fun _ => rfl, fun W => ?_⟩
    simp [Instr.slice, Instr.sliceBounds, Instr.sliceBound, asIntOf, run_underlying Tryz.underlying22, h, h2, Go.sizeOf, typeInfo, hi0, hz1, hq, e]

theorem BAt.take {w : World} {A : Option Addr} {n cap : Nat} {l : List Int} (h : BAt w (.slice A n cap) l) (q : Nat) (hq : q ≤ n) : BAt w (.slice A q cap) (l.take q) ∧ (l.take q).length = q ∧ l.length = n ∧ n ≤ cap := by
  obtain ⟨A', cap', h1, h2, h3⟩ := h
  cases h1
  have hl : (l.take q).length = q := by rw [List.length_take]; omega
  refine ⟨⟨A, cap, by rw [hl], by rw [hl]; omega, fun hp => ?_⟩, hl, rfl, h2⟩
  rw [hl] at hp ⊢
  obtain ⟨g, o, h4, h5, h6⟩ := h3 (by omega)
  exact ⟨g, o, h4, h5, fun i hi => by rw [getD_take hi]; exact h6 i (by omega)⟩
/-- Bytes that are there have a place. -/
theorem BAt.place {w : World} {A : Option Addr} {n cap : Nat} {l : List Int} (h : BAt w (.slice A n cap) l) (hp : 0 < n) : ∃ g o, A = some ⟨g, o, none⟩ := by
  obtain ⟨A', cap', h1, h2, h3⟩ := h
  cases h1
  obtain ⟨g, o, h4, _⟩ := h3 hp
  exact ⟨g, o, h4⟩
theorem BAt.len {w : World} {A : Option Addr} {n cap : Nat} {l : List Int} (h : BAt w (.slice A n cap) l) : l.length = n ∧ n ≤ cap := by
  obtain ⟨A', cap', h1, h2, h3⟩ := h
  cases h1
  exact ⟨rfl, h2⟩
/-- The bytes from q to r. -/
theorem BAt.mid {w : World} {g o n cap : Nat} {l : List Int} (h : BAt w (.slice (some ⟨g, o, none⟩) n cap) l) (q r c : Nat) (A' : Option Addr) (hA : q < r → A' = some ⟨g, o + q, none⟩) (hq : q ≤ r) (hr : r ≤ n) (hc : r - q ≤ c) : BAt w (.slice A' (r - q) c) ((l.drop q).take (r - q)) := by
  obtain ⟨A2, cap', h1, h2, h3⟩ := h
  cases h1
  have hl : ((l.drop q).take (r - q)).length = r - q := by rw [List.length_take, List.length_drop]; omega
  refine ⟨A', c, by rw [hl], by rw [hl]; exact hc, fun hp => ?_⟩
  rw [hl] at hp ⊢
  obtain ⟨g', o', h4, h5, h6⟩ := h3 (by omega)
  cases h4
  refine ⟨g, o + q, hA (by omega), h5, fun i hi => ?_⟩
  rw [getD_take hi, getD_drop, Nat.add_assoc]
  exact h6 (q + i) (by omega)
/-- The bytes from q on. -/
theorem BAt.from {w : World} {A A' : Option Addr} {n cap : Nat} {l : List Int} (h : BAt w (.slice A n cap) l) (q : Nat) (hA : q < n → ∀ g o, A = some ⟨g, o, none⟩ → A' = some ⟨g, o + q, none⟩) (hq : q ≤ n) : BAt w (.slice A' (n - q) (cap - q)) (l.drop q) := by
  obtain ⟨A2, cap', h1, h2, h3⟩ := h
  cases h1
  have hl : (l.drop q).length = l.length - q := List.length_drop
  refine ⟨A', cap - q, by rw [hl], by rw [hl]; omega, fun hp => ?_⟩
  rw [hl] at hp ⊢
  obtain ⟨g, o, h4, h5, h6⟩ := h3 (by omega)
  refine ⟨g, o + q, hA (by omega) g o h4, h5, fun i hi => ?_⟩
  rw [getD_drop, Nat.add_assoc]
  exact h6 (q + i) (by omega)
theorem BAt.cell {w : World} {A : Option Addr} {n cap : Nat} {l : List Int} (h : BAt w (.slice A n cap) l) : ∀ i, i < n → ∃ g o, A = some ⟨g, o, none⟩ ∧ w.cell? ⟨g, o + i, none⟩ = some (.int .u8 (l.getD i 0)) ∧ g < w.heap.size := fun i hi => by
  obtain ⟨A', cap', h1, h2, h3⟩ := h
  cases h1
  obtain ⟨g, o, h4, h5, h6⟩ := h3 (by omega)
  exact ⟨g, o, h4, h6 i hi, h5⟩
set_option maxRecDepth 100000 in
theorem clone_any (w : World) (v : Value) (l : List Int) (h : BAt w v l) (hl : l.length ≤ 2000000) :
    Calls Tryz.prog 47 #[v] w fun e w' => ∃ v', e = .returned v' ∧ w'.ownsRow w.heap.size 5 1 v' l.length (bv l) ∧ Below w.heap.size w w' := by
  obtain ⟨A, cap, rfl, _, hc⟩ := h
  obtain ⟨i0, hi0, hz0, hz1, hz2⟩ := info_parts u8Inf
  have q22 : ∀ (w : World) (a : Option Addr) (n c n' c' : Nat), (binOp .eql 22 (.slice a n c) (.slice none n' c')).run Tryz.prog w = .ok (.bool a.isNone) w := fun w a n c n' c' => Lib.run_eql_slice_nil w _ _ a n c n' c' Tryz.underlying22
  obtain ⟨n, hn⟩ : ∃ n, n = l.length := ⟨_, rfl⟩
  have HN := Lib.hid hn
  rw [← hn] at hc hl ⊢
  cases A with
  | none =>
    have h0 : l = [] := by
      cases l with
      | nil => rfl
      | cons x r => obtain ⟨g, o, h1, _⟩ := hc (by rw [hn]; simp); cases h1
    subst h0
    have HO : Hid (w.ownsRow w.heap.size 5 1 (.slice none 0 0) n (bv [])) := by
      show World.ownsRow _ _ _ _ _ _ _
      rw [hn]; exact World.ownsRow_nil _ _ _ _
    clear hn hc
    go_enter Tryz.func47, Tryz.ntmps47
    go_wp2
    go_ret
    exact ⟨_, rfl, HO.out, Below.refl _ _⟩
  | some a =>
    have HC : Hid (∀ j u, (bv l)[j]? = some u → (w.alloc (.cells #[] 5)).cell? (a.add j) = some u) := by
      intro j u hu
      have hj : j < n := by have := (List.getElem?_eq_some_iff.1 hu).1; rw [bv_len] at this; omega
      obtain ⟨g, o, h1, h2, h3⟩ := hc (by omega)
      cases h1
      rw [show (Addr.mk g o none).add j = ⟨g, o + j, none⟩ by unfold Addr.add; split <;> simp_all, bv_get hu]
      exact Lib.cell?_alloc_some _ (h3 j hj)
    clear hn hc
    go_enter Tryz.func47, Tryz.ntmps47
    go_wp2_with (at_builtin; refine wpList_append_own _ rfl _ _ 22 rfl w.heap.size 5 i0 (.int .u8 0) 1 1 Tryz.underlying22 hi0 hz0 hz1 hz2 rfl (by decide) _ _ _ rfl (World.ownsRow_made w #[] 0 (Nat.le_refl _) (Nat.zero_le _) rfl) a n cap (bv l) rfl (by rw [bv_len, HN.out]; omega) HC.out (bv_one _) (by unfold maxLen; omega) (by omega) (by simp) ?_; intro v' w1 hown hgrow hnil)
    go_ret
    exact ⟨v', rfl, by simpa using hown, ((Below.refl _ w).alloc (Nat.le_refl _) _).grown hgrow (by simp) (by intro k hk; have hk2 : w.heap.size = k := Option.some.inj hk; omega)⟩

theorem BAt.nil (w : World) : BAt w (.slice none 0 0) [] := ⟨none, 0, rfl, Nat.le_refl _, fun h => absurd h (by decide)⟩
theorem bat_cells {w : World} {A : Option Addr} {n cap : Nat} {l : List Int} (h : BAt w (.slice A n cap) l) {a : Addr} (ha : A = some a) : ∀ j u, (bv l)[j]? = some u → w.cell? (a.add j) = some u := by
  intro j u hu
  have hj : j < n := by have := (List.getElem?_eq_some_iff.1 hu).1; rw [bv_len] at this; have := h.len.1; omega
  obtain ⟨g, o, h1, h2, _⟩ := h.cell j hj
  rw [ha] at h1
  cases h1
  rw [show (Addr.mk g o none).add j = ⟨g, o + j, none⟩ by unfold Addr.add; split <;> simp_all, bv_get hu]
  exact h2
/-- Bytes from anywhere behind a row of the call's own. -/
theorem app_any (w : World) (base : Nat) (v : Value) (l : List Int) (hown : w.ownsRow base 5 1 v l.length (bv l)) (x : Value) (m : List Int) (hx : BAt w x m) (hb : l.length + m.length ≤ 4000000) (hbase : base ≤ w.heap.size) :
    ∃ A cap w', (Builtin.append_ #[22, 22] 22 #[v, x]).run Tryz.prog w = .ok (.slice A (l.length + m.length) cap) w' ∧ w'.ownsRow base 5 1 (.slice A (l.length + m.length) cap) (l ++ m).length (bv (l ++ m)) ∧ w.grownBy w' v.ownBlock := by
  obtain ⟨i0, hi0, hz0, hz1, hz2⟩ := info_parts u8Inf
  obtain ⟨A, cap, rfl, _, hc⟩ := id hx
  cases A with
  | none =>
    have h0 : m = [] := by
      cases m with
      | nil => rfl
      | cons y r => obtain ⟨g, o, h1, _⟩ := hc (by simp); cases h1
    subst h0
    obtain ⟨A1, c1, h1, _⟩ := BAt.of_own hown
    refine ⟨A1, c1, w, ?_, ?_, grownBy_refl _ _⟩
    · show _ = Result.ok (Value.slice A1 l.length c1) w
      rw [← h1]
      rcases hown.2 with ⟨h4, _⟩ | ⟨g, cap3, cur, h4, _, _, hnc, _⟩
      · rw [h4]
        simp [Builtin.append_, run_underlying Tryz.underlying22, sizeOf, typeInfo, hi0, Builtin.lenOf, Builtin.firstCells]
      · rw [h4]
        simp [Builtin.append_, run_underlying Tryz.underlying22, sizeOf, typeInfo, hi0, Builtin.lenOf, Builtin.firstCells, hnc, storeCells]
    · rw [h1] at hown
      rw [List.append_nil]
      exact hown
  | some a =>
    obtain ⟨v', w', hr, ho, hg, _⟩ := run_append_own (P := Tryz.prog) w base 22 22 5 i0 (.int .u8 0) 1 1 Tryz.underlying22 hi0 hz0 hz1 hz2 rfl (by decide) v l.length (bv l) hown a m.length cap (bv m) (by rw [bv_len, Nat.mul_one]) (bat_cells hx rfl) (bv_one _) (by unfold maxLen; omega) (by omega) hbase
    rw [← bv_app] at ho
    have ho2 : w'.ownsRow base 5 1 v' (l ++ m).length (bv (l ++ m)) := by rw [List.length_append]; exact ho
    obtain ⟨A1, c1, h1, _⟩ := BAt.of_own ho2
    rw [List.length_append] at h1
    subst h1
    exact ⟨A1, c1, w', hr, ho2, hg⟩

set_option maxRecDepth 100000 in
/-- The reference's Same at equal bytes. -/
theorem same_eq (w : World) (u v : Value) (l : List Int) (hu : BAt w u l) (hv : BAt w v l) (hn : l.length ≤ 2000000) :
    Calls Tryz.prog 12 #[u, v] w fun e w' => e = .returned (.bool true) ∧ Below w.heap.size w w' := by
  obtain ⟨A, cap, rfl, k1, h1⟩ := hu
  obtain ⟨A', cap', rfl, k2, h2⟩ := hv
  obtain ⟨n, hn2⟩ : ∃ n, n = l.length := ⟨_, rfl⟩
  rw [← hn2] at h1 h2 hn k1 k2 ⊢
  have H1 := Lib.hid h1
  have H2 := Lib.hid h2
  have e0 : (0 : Int) ≤ (n : Int) := by omega
  clear h1 h2 hn2
  go_enter Tryz.func12, Tryz.ntmps12
  go_wp2
  go_loopg [5] n (fun (gh : Nat) s5 wx => ∃ i : Nat, gh = n - i ∧ i ≤ n ∧ s5 = .int .i64 (i : Int) ∧ Below w.heap.size w wx)
  case atStart => exact ⟨0, rfl, Nat.zero_le _, rfl, Below.refl _ _⟩
  case round =>
    obtain ⟨i, rfl, hi, rfl, hbel⟩ := hrel
    by_cases hlt : i < n
    · have t1 : (i : Int) < (n : Int) := by omega
      have t2 : (0 : Int) ≤ (i : Int) := by omega
      obtain ⟨g, o, rfl, lg, hc1⟩ := H1.out (by omega)
      obtain ⟨g', o', rfl, lg', hc3⟩ := H2.out (by omega)
      obtain ⟨r, hr⟩ : ∃ r, r = l.getD i 0 := ⟨_, rfl⟩
      have c1 : wr.cell? ⟨g, o + i, none⟩ = some (.int .u8 r) := by rw [hr]; exact (hbel.cell (p := ⟨g, o + i, none⟩) lg).trans (hc1 i hlt)
      have c3 : wr.cell? ⟨g', o' + i, none⟩ = some (.int .u8 r) := by rw [hr]; exact (hbel.cell (p := ⟨g', o' + i, none⟩) lg').trans (hc3 i hlt)
      have HB := Lib.hid hbel
      clear hbel hr hc1 hc3
      go_wp2_with fail
      go_quiet (fail)
      go_wp2
      go_roundg (n - (i + 1))
      case measure => omega
      case rel => exact ⟨i + 1, rfl, hlt, by go_num, ⟨HB.out.os, HB.out.tape, HB.out.output, HB.out.size, HB.out.block⟩⟩
    · have hil : i = n := by omega
      subst hil
      have t1 : decide ((i : Int) < (i : Int)) = false := by simp
      have HB := Lib.hid hbel
      clear hbel
      go_wp2
      go_ret
      exact ⟨rfl, HB.out⟩
theorem lit_at (w : World) (l : List Int) (fr : Nat × Nat) : BAt (w.alloc (.cells (bv l).toArray 5 fr)) (.slice (some ⟨w.heap.size, 0, none⟩) l.length l.length) l := by
  refine ⟨_, l.length, rfl, Nat.le_refl _, fun _ => ⟨w.heap.size, 0, rfl, by simp, fun i hi => ?_⟩⟩
  have hb := block_new w (.cells (bv l).toArray 5 fr)
  have := bv_getD hi
  simp only [World.cell?, Nat.zero_add]
  rw [hb]
  simpa using this
/-- A string's bytes as numbers. -/
def sb (s : ByteArray) : List Int := s.data.toList.map fun b => (b.toNat : Int)
theorem sb_len (s : ByteArray) : (sb s).length = s.size := by simp [sb]
theorem sb_range (s : ByteArray) (k : Nat) : 0 ≤ (sb s).getD k 0 ∧ (sb s).getD k 0 ≤ 255 := by
  rw [List.getD_eq_getElem?_getD]
  rcases Nat.lt_or_ge k (sb s).length with h | h
  · rw [List.getElem?_eq_getElem h]
    simp only [sb, List.getElem_map, Option.getD_some]
    have := UInt8.toNat_lt (s.data.toList[k]'(by simpa [sb] using h))
    omega
  · rw [List.getElem?_eq_none h]; exact ⟨by decide, by decide⟩
theorem sb_get (s : ByteArray) (k : Nat) (h : k < s.size) : ((s[k]'h).toNat : Int) = (sb s).getD k 0 := by
  rw [List.getD_eq_getElem?_getD, List.getElem?_eq_getElem (by rw [sb_len]; exact h)]
  simp [sb]
  rfl
theorem sb_inj {s t : ByteArray} (h : sb s = sb t) : s = t := by
  unfold sb at h
  have h2 : s.data.toList = t.data.toList := by
    have inj : ∀ a b : UInt8, ((a.toNat : Int) = (b.toNat : Int)) → a = b := fun a b h => UInt8.toNat_inj.1 (by omega)
    exact (List.map_inj_right (fun a b h => inj a b h)).1 h
  cases s with
  | mk a =>
    cases t with
    | mk b =>
      congr 1
      exact Array.toList_inj.1 h2

/-- A string's bytes laid in memory. -/
theorem str_bytes (s : ByteArray) : ∃ (cv : World → Nat) (cw : World → World), (∀ W, (convert 9 22 (.string s)).run Tryz.prog W = .ok (.slice (some ⟨W.heap.size, 0, none⟩) s.size (cv W)) (cw W)) ∧
    (∀ W, Below W.heap.size W (cw W) ∧ W.heap.size < (cw W).heap.size ∧ ∀ i, i < s.size → (cw W).cell? ⟨W.heap.size, i, none⟩ = some (.int .u8 ((sb s).getD i 0))) := by
  refine ⟨_, _, fun W => run_bytes_of_string (P := Tryz.prog) W 9 22 5 s Tryz.underlying9 Tryz.underlying22 Tryz.underlying5, fun W => ⟨((Below.refl _ _).drew).alloc (Nat.le_refl _) _, ?_, ?_⟩⟩
  · simp
  · intro i hi
    have h1 := heap_alloc_new W.drew (.cells (bytesRow s (grownCap W s.size 0 5)) 5 ((bytesRow s (grownCap W s.size 0 5)).size, (bytesRow s (grownCap W s.size 0 5)).size + 1))
    rw [cell_of_row _ W.heap.size i _ _ _ h1]
    have hi2 : i < s.data.size := hi
    simp only [bytesRow, sb, List.getD_eq_getElem?_getD, List.getElem?_map]
    rw [Array.getElem?_append_left (by simpa using hi2)]
    simp only [Array.getElem?_map, Array.getElem?_toList]
    rw [Array.getElem?_eq_getElem hi2]
    rfl
theorem toList_len (s : ByteArray) : s.toList.length = s.size := by rw [ByteArray.toList_eq]; simp
theorem empty_yes {s : ByteArray} (h : s.size = 0) : s.toList.isEmpty = true := by
  have := toList_len s
  match hl : s.toList with
  | [] => rfl
  | a :: r => rw [hl, List.length_cons] at this; omega
theorem empty_no {s : ByteArray} (h : 0 < s.size) : s.toList.isEmpty = false := by
  have := toList_len s
  match hl : s.toList with
  | [] => rw [hl, List.length_nil] at this; omega
  | a :: r => rfl

end Go.Proofs.YtganokcmcdkdgaaGreat.Fr
