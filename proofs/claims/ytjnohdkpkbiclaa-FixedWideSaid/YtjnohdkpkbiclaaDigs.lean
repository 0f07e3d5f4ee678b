/-
  What it is for a slice of ints to read as a list of digits in a world, and how that reading is kept. Conditions: none but those in each lemma.
-/
import Derived.WalkKit
import Derived.WalkSpells
import Derived.Deep.Draws
import Derived.Below
namespace Go.Proofs.Ytjnohdkpkbiclaa
open Go.RowKit

/-- The digits as values. -/
def ints (ds : List Int) : List Value := ds.map (Value.int .i64)

/-- Whatever row of ints lies there lies there still. -/
def IntKept (w w' : World) : Prop := ∀ (g : Nat) (cur : Array Value) (fr : Nat × Nat), w.heap[g]? = some (.cells cur 3 fr) → w'.heap[g]? = some (.cells cur 3 fr)

theorem IntKept.refl (w : World) : IntKept w w := fun _ _ _ h => h
theorem IntKept.trans {a b c : World} (h : IntKept a b) (k : IntKept b c) : IntKept a c := fun g cur fr hg => k g cur fr (h g cur fr hg)
theorem IntKept.alloc {a w : World} (h : IntKept a w) (o : Obj) : IntKept a (w.alloc o) := fun g cur fr hg => by
  have h1 := h g cur fr hg
  rw [Below.heap_alloc w o g (Array.getElem?_eq_some_iff.1 h1).1]; exact h1
theorem IntKept.drew {a w : World} (h : IntKept a w) : IntKept a w.drew := h
theorem IntKept.drewN {a w : World} (h : IntKept a w) (n : Nat) : IntKept a (w.drewN n) := h
theorem IntKept.of_below {B : Nat} {w w' : World} (hb : Below B w w') (hB : w.heap.size ≤ B) : IntKept w w' := fun g cur fr hg =>
  (hb.block g (by have := (Array.getElem?_eq_some_iff.1 hg).1; omega)).trans hg
theorem IntKept.below {a w w' : World} (h : IntKept a w) {B : Nat} (hb : Below B w w') (hB : w.heap.size ≤ B) : IntKept a w' := h.trans (IntKept.of_below hb hB)
/-- A store into a block of another type. -/
theorem IntKept.setCell {a w : World} (h : IntKept a w) {p : Addr} {cs : Array Value} {t : TypeId} {fr : Nat × Nat} (hp : w.heap[p.block]? = some (.cells cs t fr)) (ht : t ≠ 3) (u : Value) : IntKept a (w.setCell p u) := fun g cur fr' hg => by
  have h1 := h g cur fr' hg
  rw [Below.heap_setCell w p u g (by rintro rfl; rw [hp] at h1; injection h1 with h1; injection h1 with _ h1; exact ht h1)]; exact h1

/-- The slice value v reads as the digits ds. -/
def Digs (w : World) (v : Value) (ds : List Int) : Prop :=
  ∃ (A : Option Addr) (c : Nat), v = .slice A ds.length c ∧ ds.length ≤ c ∧ c ≤ maxLen ∧
    (0 < ds.length → ∃ (g : Nat) (cur : Array Value) (fr : Nat × Nat), A = some ⟨g, 0, none⟩ ∧ w.heap[g]? = some (.cells cur 3 fr) ∧ ∀ (i : Nat) (d : Int), ds[i]? = some d → cur[i]? = some (.int .i64 d))

theorem Digs.keep {w w' : World} {v : Value} {ds : List Int} (h : Digs w v ds) (hk : IntKept w w') : Digs w' v ds := by
  obtain ⟨A, c, hv, h1, h2, h3⟩ := h
  refine ⟨A, c, hv, h1, h2, fun hl => ?_⟩
  obtain ⟨g, cur, fr, hA, hg, hc⟩ := h3 hl
  exact ⟨g, cur, fr, hA, hk g cur fr hg, hc⟩
theorem Digs.below {w w' : World} {v : Value} {ds : List Int} (h : Digs w v ds) {B : Nat} (hb : Below B w w') (hB : w.heap.size ≤ B) : Digs w' v ds := h.keep (IntKept.of_below hb hB)
theorem Digs.alloc {w : World} {v : Value} {ds : List Int} (h : Digs w v ds) (o : Obj) : Digs (w.alloc o) v ds := h.keep ((IntKept.refl w).alloc o)
theorem Digs.drewN {w : World} {v : Value} {ds : List Int} (h : Digs w v ds) (n : Nat) : Digs (w.drewN n) v ds := h
theorem Digs.drew {w : World} {v : Value} {ds : List Int} (h : Digs w v ds) : Digs w.drew v ds := h

theorem Digs.nil (w : World) : Digs w (.slice none 0 0) [] := ⟨none, 0, rfl, Nat.le_refl _, by simp [maxLen], fun h => by simp at h⟩
/-- An empty one, whatever its address. -/
theorem Digs.empty {w : World} {A : Option Addr} {c : Nat} (hc : c ≤ maxLen) : Digs w (.slice A 0 c) [] := ⟨A, c, rfl, Nat.zero_le _, hc, fun h => by simp at h⟩

theorem Digs.of_owns {w : World} {base : Nat} {v : Value} {n : Nat} {ds : List Int} (h : w.ownsRow base 3 1 v n (ints ds)) : Digs w v ds := by
  have hl : ds.length = n := by have := h.1; simpa [ints] using this
  rcases h.2 with ⟨rfl, h0⟩ | ⟨g, cap, cur, rfl, _, hg, h1, h2, _, ht⟩
  · have : ds = [] := List.eq_nil_of_length_eq_zero (by omega)
    subst this
    exact Digs.nil w
  · refine ⟨_, cap, by rw [hl], by omega, h2, fun _ => ⟨g, cur, _, rfl, hg, fun i d hd => ?_⟩⟩
    have h3 : (ints ds)[i]? = some (.int .i64 d) := by simp [ints, hd]
    rw [← ht, List.getElem?_take] at h3
    split at h3
    · simpa using h3
    · cases h3

/-- A block that was just laid. -/
theorem Digs.of_row {w : World} {g c : Nat} {cur : Array Value} {fr : Nat × Nat} {ds : List Int} (hg : w.heap[g]? = some (.cells cur 3 fr)) (hc : cur.toList.take ds.length = ints ds) (h1 : ds.length ≤ c) (h2 : c ≤ maxLen) : Digs w (.slice (some ⟨g, 0, none⟩) ds.length c) ds := by
  refine ⟨_, c, rfl, h1, h2, fun _ => ⟨g, cur, fr, rfl, hg, fun i d hd => ?_⟩⟩
  have h3 : (ints ds)[i]? = some (.int .i64 d) := by simp [ints, hd]
  rw [← hc, List.getElem?_take] at h3
  split at h3
  · simpa using h3
  · cases h3

/-- Cut at k. -/
theorem Digs.take {w : World} {A : Option Addr} {n c : Nat} {ds : List Int} (h : Digs w (.slice A n c) ds) {k : Nat} (hk : k ≤ n) : Digs w (.slice A k c) (ds.take k) := by
  obtain ⟨A', c', hv, h1, h2, h3⟩ := h
  injection hv with e1 e2 e3
  subst e1 e2 e3
  refine ⟨A, c, by rw [List.length_take, Nat.min_eq_left hk], by rw [List.length_take]; omega, h2, fun hl => ?_⟩
  rw [List.length_take] at hl
  obtain ⟨g, cur, fr, hA, hg, hc⟩ := h3 (by omega)
  refine ⟨g, cur, fr, hA, hg, fun i d hd => hc i d ?_⟩
  rw [List.getElem?_take] at hd
  split at hd
  · exact hd
  · cases hd

theorem Digs.form {w : World} {v : Value} {ds : List Int} (h : Digs w v ds) : ∃ A n c, v = .slice A n c := by obtain ⟨A, c, hv, _⟩ := h; exact ⟨A, _, c, hv⟩

theorem Digs.len {w : World} {A : Option Addr} {n c : Nat} {ds : List Int} (h : Digs w (.slice A n c) ds) : n = ds.length ∧ n ≤ c ∧ c ≤ maxLen := by
  obtain ⟨A', c', hv, h1, h2, _⟩ := h
  injection hv with e1 e2 e3
  subst e1 e2 e3
  exact ⟨rfl, h1, h2⟩

theorem Digs.some {w : World} {A : Option Addr} {n c : Nat} {ds : List Int} (h : Digs w (.slice A n c) ds) (h0 : 0 < n) :
    ∃ g, A = .some ⟨g, 0, none⟩ ∧ g < w.heap.size ∧ ∀ i, i < n → w.cell? ⟨g, i, none⟩ = .some (.int .i64 (ds.getD i 0)) := by
  obtain ⟨A', c', hv, h1, h2, h3⟩ := h
  injection hv with e1 e2 e3
  subst e1 e2 e3
  obtain ⟨g, cur, fr, hA, hg, hc⟩ := h3 h0
  refine ⟨g, hA, (Array.getElem?_eq_some_iff.1 hg).1, fun i hi => ?_⟩
  rw [cell_of_row w g i cur _ fr hg]
  apply hc i
  rw [List.getElem?_eq_getElem hi, List.getD_eq_getElem?_getD, List.getElem?_eq_getElem hi]
  rfl

/-- What a world that has grown since keeps: for the walk. -/
theorem bcell {W w1 : World} (hb : Below W.heap.size W w1) : (∀ b o, b < W.heap.size → w1.cell? ⟨b, o, none⟩ = W.cell? ⟨b, o, none⟩) ∧ (∀ b o, b < W.heap.size → w1.frozen? ⟨b, o, none⟩ = W.frozen? ⟨b, o, none⟩) :=
  ⟨fun b o h => hb.cell (p := ⟨b, o, none⟩) h, fun b o h => hb.frozen (p := ⟨b, o, none⟩) h⟩
theorem below_drewN {B : Nat} {a w : World} (h : Below B a w) (n : Nat) : Below B a (w.drewN n) := ⟨h.os, h.tape, h.output, h.size, h.block⟩
theorem ret_int {k : IntKind} {a b : Int} (h : a = b) : Ending.returned (.int k a) = .returned (.int k b) := by rw [h]
theorem ret_bool {a b : Bool} (h : a = b) : Ending.returned (.bool a) = .returned (.bool b) := by rw [h]
end Go.Proofs.Ytjnohdkpkbiclaa
