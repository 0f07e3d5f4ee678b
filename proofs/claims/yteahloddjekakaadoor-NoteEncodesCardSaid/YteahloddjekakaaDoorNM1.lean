/-
  Texts of earlier layers that this seat's laws call, in one text (by program): Digs, Knuth, Div64, Math, Clean, Size, Compare, Words, Out, Bits.
-/
import Derived.WalkKit
import Derived.WalkSpells
import Derived.Deep.Draws
import Derived.Below
import Derived.WalkLawsBesides
import Derived.Deep.LoopGhost
import Derived.Deep.CutBlock
import Derived.Deep.QuietTactic
import Derived.BigQuiet
import Derived.Lib.Hide
import Derived.Lib.ItoaNum
import Derived.Outline
import Derived.IntWalk
import Derived.Test.YteahloddjekakaaDoorRows
import Derived.Laws.Cover1
import Derived.Lib.Strings
import Derived.Deep.RegionHeld3
import Derived.Deep.Cut
namespace Go.Proofs.YteahloddjekakaaDoor
open Go.RowKit
/-- The digits as values. -/
def ints (ds : List Int) : List Value := ds.map (Value.int .i64)

/-- Whatever row of ints lies there lies there still. -/
def IntKept (w w' : World) : Prop := ∀ (g : Nat) (cur : Array Value) (fr : Nat × Nat), w.heap[g]? = some (.cells cur 3 fr) → w'.heap[g]? = some (.cells cur 3 fr)

theorem IntKept.refl (w : World) : IntKept w w := fun _ _ _ h => h
theorem IntKept.trans {a b c : World} (h : IntKept a b) (k : IntKept b c) : IntKept a c := fun g cur fr hg => k g cur fr (h g cur fr hg)
theorem IntKept.alloc {a w : World} (h : IntKept a w) (o : Obj) : IntKept a (w.alloc o) := fun g cur fr hg => by
  have h1 := h g cur fr hg
  rw [Below.heap_alloc w o g (Array.getElem?_eq_some_iff.1 h1).1]; exact h1
theorem IntKept.drew {a w : World} (h : IntKept a w) : IntKept a w.drew := h
theorem IntKept.drewN {a w : World} (h : IntKept a w) (n : Nat) : IntKept a (w.drewN n) := h
theorem IntKept.of_below {B : Nat} {w w' : World} (hb : Below B w w') (hB : w.heap.size ≤ B) : IntKept w w' := fun g cur fr hg =>
  (hb.block g (by have := (Array.getElem?_eq_some_iff.1 hg).1; omega)).trans hg
theorem IntKept.below {a w w' : World} (h : IntKept a w) {B : Nat} (hb : Below B w w') (hB : w.heap.size ≤ B) : IntKept a w' := h.trans (IntKept.of_below hb hB)
/-- A store into a block of another type. -/
theorem IntKept.setCell {a w : World} (h : IntKept a w) {p : Addr} {cs : Array Value} {t : TypeId} {fr : Nat × Nat} (hp : w.heap[p.block]? = some (.cells cs t fr)) (ht : t ≠ 3) (u : Value) : IntKept a (w.setCell p u) := fun g cur fr' hg => by
  have h1 := h g cur fr' hg
  rw [Below.heap_setCell w p u g (by rintro rfl; rw [hp] at h1; injection h1 with h1; injection h1 with _ h1; exact ht h1)]; exact h1

/-- The slice value v reads as the digits ds. -/
def Digs (w : World) (v : Value) (ds : List Int) : Prop :=
  ∃ (A : Option Addr) (c : Nat), v = .slice A ds.length c ∧ ds.length ≤ c ∧ c ≤ maxLen ∧
    (0 < ds.length → ∃ (g : Nat) (cur : Array Value) (fr : Nat × Nat), A = some ⟨g, 0, none⟩ ∧ w.heap[g]? = some (.cells cur 3 fr) ∧ ∀ (i : Nat) (d : Int), ds[i]? = some d → cur[i]? = some (.int .i64 d))

theorem Digs.keep {w w' : World} {v : Value} {ds : List Int} (h : Digs w v ds) (hk : IntKept w w') : Digs w' v ds := by
  obtain ⟨A, c, hv, h1, h2, h3⟩ := h
  refine ⟨A, c, hv, h1, h2, fun hl => ?_⟩
  obtain ⟨g, cur, fr, hA, hg, hc⟩ := h3 hl
  exact ⟨g, cur, fr, hA, hk g cur fr hg, hc⟩
theorem Digs.below {w w' : World} {v : Value} {ds : List Int} (h : Digs w v ds) {B : Nat} (hb : Below B w w') (hB : w.heap.size ≤ B) : Digs w' v ds := h.keep (IntKept.of_below hb hB)
theorem Digs.alloc {w : World} {v : Value} {ds : List Int} (h : Digs w v ds) (o : Obj) : Digs (w.alloc o) v ds := h.keep ((IntKept.refl w).alloc o)
theorem Digs.drewN {w : World} {v : Value} {ds : List Int} (h : Digs w v ds) (n : Nat) : Digs (w.drewN n) v ds := h
theorem Digs.drew {w : World} {v : Value} {ds : List Int} (h : Digs w v ds) : Digs w.drew v ds := h

theorem Digs.nil (w : World) : Digs w (.slice none 0 0) [] := ⟨none, 0, rfl, Nat.le_refl _, by simp [maxLen], fun h => by simp at h⟩
/-- An empty one, whatever its address. -/
theorem Digs.empty {w : World} {A : Option Addr} {c : Nat} (hc : c ≤ maxLen) : Digs w (.slice A 0 c) [] := ⟨A, c, rfl, Nat.zero_le _, hc, fun h => by simp at h⟩

/-- Cut at k. -/
theorem Digs.take {w : World} {A : Option Addr} {n c : Nat} {ds : List Int} (h : Digs w (.slice A n c) ds) {k : Nat} (hk : k ≤ n) : Digs w (.slice A k c) (ds.take k) := by
  obtain ⟨A', c', hv, h1, h2, h3⟩ := h
  injection hv with e1 e2 e3
  subst e1 e2 e3
  refine ⟨A, c, by rw [List.length_take, Nat.min_eq_left hk], by rw [List.length_take]; omega, h2, fun hl => ?_⟩
  rw [List.length_take] at hl
  obtain ⟨g, cur, fr, hA, hg, hc⟩ := h3 (by omega)
  refine ⟨g, cur, fr, hA, hg, fun i d hd => hc i d ?_⟩
  rw [List.getElem?_take] at hd
  split at hd
  · exact hd
  · cases hd

theorem Digs.form {w : World} {v : Value} {ds : List Int} (h : Digs w v ds) : ∃ A n c, v = .slice A n c := by obtain ⟨A, c, hv, _⟩ := h; exact ⟨A, _, c, hv⟩

theorem Digs.len {w : World} {A : Option Addr} {n c : Nat} {ds : List Int} (h : Digs w (.slice A n c) ds) : n = ds.length ∧ n ≤ c ∧ c ≤ maxLen := by
  obtain ⟨A', c', hv, h1, h2, _⟩ := h
  injection hv with e1 e2 e3
  subst e1 e2 e3
  exact ⟨rfl, h1, h2⟩

theorem Digs.some {w : World} {A : Option Addr} {n c : Nat} {ds : List Int} (h : Digs w (.slice A n c) ds) (h0 : 0 < n) :
    ∃ g, A = .some ⟨g, 0, none⟩ ∧ g < w.heap.size ∧ ∀ i, i < n → w.cell? ⟨g, i, none⟩ = .some (.int .i64 (ds.getD i 0)) := by
  obtain ⟨A', c', hv, h1, h2, h3⟩ := h
  injection hv with e1 e2 e3
  subst e1 e2 e3
  obtain ⟨g, cur, fr, hA, hg, hc⟩ := h3 h0
  refine ⟨g, hA, (Array.getElem?_eq_some_iff.1 hg).1, fun i hi => ?_⟩
  rw [cell_of_row w g i cur _ fr hg]
  apply hc i
  rw [List.getElem?_eq_getElem hi, List.getD_eq_getElem?_getD, List.getElem?_eq_getElem hi]
  rfl

theorem below_drewN {B : Nat} {a w : World} (h : Below B a w) (n : Nat) : Below B a (w.drewN n) := ⟨h.os, h.tape, h.output, h.size, h.block⟩
theorem ret_int {k : IntKind} {a b : Int} (h : a = b) : Ending.returned (.int k a) = .returned (.int k b) := by rw [h]
theorem ret_bool {a b : Bool} (h : a = b) : Ending.returned (.bool a) = .returned (.bool b) := by rw [h]
end Go.Proofs.YteahloddjekakaaDoor
namespace Go.Proofs.YteahloddjekakaaDoor
/-- What holds of the estimate q and what is left, r: the quotient of u * 2^32 + d by a * 2^32 + b is not above q. -/
def KInv (a b u d q r : Int) : Prop := 0 ≤ q ∧ q ≤ 4294967297 ∧ q * a + r = u ∧ 0 ≤ r ∧ r < 4294967296 ∧ (u * 4294967296 + d) / (a * 4294967296 + b) ≤ q

/-- The numbers are such as the method asks. -/
structure KOk (a b u d : Int) : Prop where
  a0 : 2147483648 ≤ a
  a1 : a < 4294967296
  b0 : 0 ≤ b
  b1 : b < 4294967296
  u0 : 0 ≤ u
  u1 : u < a * 4294967296 + b
  d0 : 0 ≤ d
  d1 : d < 4294967296

theorem KInv.mul {a b u d q r : Int} (h : KInv a b u d q r) : q * (a * 4294967296 + b) = (u - r) * 4294967296 + q * b := by
  obtain ⟨_, _, e, _⟩ := h
  rw [Int.mul_add, ← Int.mul_assoc]
  have : q * a = u - r := by omega
  rw [this]

theorem KInv.done {a b u d q r : Int} (k : KOk a b u d) (h : KInv a b u d q r) (h2 : q * b ≤ 4294967296 * r + d) : q = (u * 4294967296 + d) / (a * 4294967296 + b) := by
  have e := h.mul
  obtain ⟨a0, a1, b0, b1, u0, u1, d0, d1⟩ := k
  obtain ⟨q0, q1, e1, r0, r1, hq⟩ := h
  have : q ≤ (u * 4294967296 + d) / (a * 4294967296 + b) := (Int.le_ediv_iff_mul_le (by omega)).2 (by omega)
  omega

end Go.Proofs.YteahloddjekakaaDoor
namespace Go.Proofs.YteahloddjekakaaDoor
open Go.RowKit
end Go.Proofs.YteahloddjekakaaDoor
namespace Go.Proofs.YteahloddjekakaaDoor
/-- The number of a list of digits. -/
def val : List Int → Int
  | [] => 0
  | d :: t => d + 65536 * val t

/-- All digits are digits. -/
def InR (ds : List Int) : Prop := ∀ d ∈ ds, 0 ≤ d ∧ d < 65536

theorem InR.nil : InR [] := fun _ h => by cases h
theorem InR.cons {d : Int} {t : List Int} (h0 : 0 ≤ d) (h1 : d < 65536) (h : InR t) : InR (d :: t) := fun x hx => by
  rcases List.mem_cons.1 hx with rfl | hx
  · exact ⟨h0, h1⟩
  · exact h x hx
theorem InR.head {d : Int} {t : List Int} (h : InR (d :: t)) : 0 ≤ d ∧ d < 65536 := h d (List.mem_cons_self ..)
theorem InR.take {a : List Int} (ha : InR a) (k : Nat) : InR (a.take k) := fun x hx => ha x (List.mem_of_mem_take hx)
theorem InR.getD {a : List Int} (ha : InR a) (k : Nat) : 0 ≤ a.getD k 0 ∧ a.getD k 0 < 65536 := by
  rw [List.getD_eq_getElem?_getD]
  rcases Nat.lt_or_ge k a.length with h | h
  · rw [List.getElem?_eq_getElem h]; exact ha _ (List.getElem_mem h)
  · rw [List.getElem?_eq_none h]; exact ⟨by decide, by decide⟩
theorem InR.set {a : List Int} (ha : InR a) (k : Nat) {d : Int} (h0 : 0 ≤ d) (h1 : d < 65536) : InR (a.set k d) := fun x hx => by
  rcases List.mem_or_eq_of_mem_set hx with hx | rfl
  · exact ha x hx
  · exact ⟨h0, h1⟩
/-- The digits of a number. -/
def digs (n : Nat) : List Int := if h : n = 0 then [] else ((n % 65536 : Nat) : Int) :: digs (n / 65536)
termination_by n
decreasing_by omega

theorem digs_zero : digs 0 = [] := by rw [digs]; simp
theorem getD_take (ds : List Int) (k i : Nat) : (ds.take k).getD i 0 = if i < k then ds.getD i 0 else 0 := by
  simp only [List.getD_eq_getElem?_getD, List.getElem?_take]
  split <;> rfl
def cmpI (m n : Int) : Int := if m < n then -1 else if n < m then 1 else 0
end Go.Proofs.YteahloddjekakaaDoor
namespace Go.Proofs.YteahloddjekakaaDoor
open Go.RowKit
/-- The value reads as the document's number z: its digits without noughts at the top. -/
def NumIs (w : World) (v : Value) (z : Int) : Prop := ∃ A n c, v = .agg #[.bool (decide (z < 0)), .slice A n c] ∧ Digs w (.slice A n c) (digs z.natAbs)

end Go.Proofs.YteahloddjekakaaDoor
namespace Go.Proofs.YteahloddjekakaaDoor
open Go.RowKit
end Go.Proofs.YteahloddjekakaaDoor
namespace Go.Proofs.YteahloddjekakaaDoor
open Go.RowKit
theorem NumIs.keep {w w' : World} {v : Value} {z : Int} (h : NumIs w v z) (hk : IntKept w w') : NumIs w' v z := by
  obtain ⟨A, n, c, hv, hd⟩ := h
  exact ⟨A, n, c, hv, hd.keep hk⟩
theorem NumIs.below {w w' : World} {v : Value} {z : Int} (h : NumIs w v z) {B : Nat} (hb : Below B w w') (hB : w.heap.size ≤ B) : NumIs w' v z := h.keep (IntKept.of_below hb hB)
theorem NumIs.alloc {w : World} {v : Value} {z : Int} (h : NumIs w v z) (o : Obj) : NumIs (w.alloc o) v z := h.keep ((IntKept.refl w).alloc o)
theorem NumIs.drew {w : World} {v : Value} {z : Int} (h : NumIs w v z) : NumIs w.drew v z := h
theorem NumIs.drewN {w : World} {v : Value} {z : Int} (h : NumIs w v z) (n : Nat) : NumIs (w.drewN n) v z := h
theorem NumIs.zero (w : World) : NumIs w (.agg #[.bool false, .slice none 0 0]) 0 := ⟨_, _, _, rfl, by rw [show (0 : Int).natAbs = 0 from rfl, digs_zero]; exact Digs.nil w⟩

end Go.Proofs.YteahloddjekakaaDoor
namespace Go.Proofs.YteahloddjekakaaDoor
open Go.RowKit
theorem info_int : (Tryd.prog.info? 3).map (fun i => (i.zero, i.size, i.bytes)) = some (some (.int .i64 0), 1, 8) := by kernel_rfl

end Go.Proofs.YteahloddjekakaaDoor
namespace Go.Proofs.YteahloddjekakaaDoor
open Go.RowKit
end Go.Proofs.YteahloddjekakaaDoor
namespace Go.Proofs.YteahloddjekakaaDoor
open Go.RowKit
theorem block_kept {W w' : World} {b : Nat} {o : Obj} (hb : W.heap[b]? = some o) (hcl : Below W.heap.size W w') : w'.heap[b]? = some o :=
  (hcl.block b (Array.getElem?_eq_some_iff.1 hb).1).trans hb
theorem block_new (w : World) (o : Obj) : (w.alloc o).heap[w.heap.size]? = some o := heap_alloc_new w o
theorem block_old {w : World} {b : Nat} {x : Obj} (h : w.heap[b]? = some x) (o : Obj) : (w.alloc o).heap[b]? = some x := by
  rw [Below.heap_alloc w o b (Array.getElem?_eq_some_iff.1 h).1]; exact h
theorem block_grown {w w1 : World} {b : Nat} {x o : Obj} {row : Option Nat} (h : w.heap[b]? = some x) (hg : (w.alloc o).grownBy w1 row) (hne : some b ≠ row) : w1.heap[b]? = some x := by
  rw [hg.block b (by have := (Array.getElem?_eq_some_iff.1 h).1; simp; omega) hne, Below.heap_alloc w o b (Array.getElem?_eq_some_iff.1 h).1]
  exact h
theorem block_set {w : World} {b : Nat} {x : Obj} (h : w.heap[b]? = some x) {p : Addr} (hne : b ≠ p.block) (u : Value) : (w.setCell p u).heap[b]? = some x :=
  (Below.heap_setCell w p u b hne).trans h

end Go.Proofs.YteahloddjekakaaDoor

namespace Go.Proofs.YteahloddjekakaaDoor.Td
open Go.RowKit

/-- A trade. -/
structure Tr where
  n : Int
  b : ByteArray
  s : ByteArray
  i : ByteArray
  q : Int
  p : Int

def I64 (z : Int) : Prop := -9223372036854775808 ≤ z ∧ z ≤ 9223372036854775807
/-- What a trade's parts may be: numbers of 64 bits, texts of at most 40 bytes. -/
def TOk (t : Tr) : Prop := I64 t.n ∧ t.b.size ≤ 40 ∧ t.s.size ≤ 40 ∧ t.i.size ≤ 40 ∧ I64 t.q ∧ I64 t.p

theorem bl_irr : ∀ x : List UInt8, Op.bytesLess x x = false
  | [] => rfl
  | a :: x => by rw [Op.bytesLess, bl_irr x]; simp
theorem bl_tr : ∀ x y z : List UInt8, Op.bytesLess x y = true → Op.bytesLess y z = true → Op.bytesLess x z = true
  | [], [], _, h, _ => by simp [Op.bytesLess] at h
  | [], _ :: _, [], _, h => by simp [Op.bytesLess] at h
  | [], _ :: _, _ :: _, _, _ => by simp [Op.bytesLess]
  | _ :: _, [], _, h, _ => by simp [Op.bytesLess] at h
  | _ :: _, _ :: _, [], _, h => by simp [Op.bytesLess] at h
  | a :: x, b :: y, c :: z, h, k => by
    have ih := bl_tr x y z
    simp only [Op.bytesLess, Bool.or_eq_true, Bool.and_eq_true, decide_eq_true_eq, beq_iff_eq, UInt8.lt_iff_toNat_lt] at h k ⊢
    rcases h with h | ⟨rfl, h⟩
    · rcases k with k | ⟨rfl, k⟩
      · left; omega
      · left; exact h
    · rcases k with k | ⟨rfl, k⟩
      · left; exact k
      · right; exact ⟨rfl, ih h k⟩
theorem bl_tri : ∀ x y : List UInt8, Op.bytesLess x y = false → Op.bytesLess y x = false → x = y
  | [], [], _, _ => rfl
  | [], _ :: _, h, _ => by simp [Op.bytesLess] at h
  | _ :: _, [], _, h => by simp [Op.bytesLess] at h
  | a :: x, b :: y, h, k => by
    have ih := bl_tri x y
    simp only [Op.bytesLess, Bool.or_eq_false_iff, Bool.and_eq_false_iff, decide_eq_false_iff_not, beq_eq_false_iff_ne, UInt8.lt_iff_toNat_lt] at h k
    have e : a = b := UInt8.toNat_inj.1 (by omega)
    subst e
    rw [ih (h.2.resolve_left (fun n => n rfl)) (k.2.resolve_left (fun n => n rfl))]
theorem toList_data' (s : ByteArray) : s.toList = s.data.toList := ByteArray.toList_eq s
theorem bytes_inj {s t : ByteArray} (h : s.toList = t.toList) : s = t := by
  rw [toList_data', toList_data'] at h
  cases s; cases t
  simp only [ByteArray.mk.injEq]
  exact Array.toList_inj.1 h
/-- Is a text ahead of another? -/
def ltS (a b : ByteArray) : Bool := Op.bytesLess a.toList b.toList
theorem beqS (a b : ByteArray) : (a.toList == b.toList) = decide (a = b) := by
  rw [Bool.eq_iff_iff, beq_iff_eq, decide_eq_true_eq]
  exact ⟨bytes_inj, fun h => by rw [h]⟩
/-- -1, 0, 1: a text is ahead of another, the same, behind it. -/
def cmpS (a b : ByteArray) : Int := if ltS a b = true then -1 else if ltS b a = true then 1 else 0

/-- The six cells of a block. -/
theorem blk6 {w : World} {b : Nat} {x0 x1 x2 x3 x4 x5 : Value} {t : TypeId} (h : w.heap[b]? = some (.cells #[x0, x1, x2, x3, x4, x5] t (0, 0))) :
    w.cell? ⟨b, 0, none⟩ = some x0 ∧ w.cell? ⟨b, 1, none⟩ = some x1 ∧ w.cell? ⟨b, 2, none⟩ = some x2 ∧ w.cell? ⟨b, 3, none⟩ = some x3 ∧ w.cell? ⟨b, 4, none⟩ = some x4 ∧ w.cell? ⟨b, 5, none⟩ = some x5 :=
  ⟨by rw [cell_of_row w b 0 _ _ _ h]; rfl, by rw [cell_of_row w b 1 _ _ _ h]; rfl, by rw [cell_of_row w b 2 _ _ _ h]; rfl, by rw [cell_of_row w b 3 _ _ _ h]; rfl, by rw [cell_of_row w b 4 _ _ _ h]; rfl, by rw [cell_of_row w b 5 _ _ _ h]; rfl⟩
theorem fro6 {w : World} {b : Nat} {cs : Array Value} {t : TypeId} (h : w.heap[b]? = some (.cells cs t (0, 0))) :
    w.frozen? ⟨b, 0, none⟩ = false ∧ w.frozen? ⟨b, 1, none⟩ = false ∧ w.frozen? ⟨b, 2, none⟩ = false ∧ w.frozen? ⟨b, 3, none⟩ = false ∧ w.frozen? ⟨b, 4, none⟩ = false ∧ w.frozen? ⟨b, 5, none⟩ = false :=
  ⟨by simp [World.frozen?, h], by simp [World.frozen?, h], by simp [World.frozen?, h], by simp [World.frozen?, h], by simp [World.frozen?, h], by simp [World.frozen?, h]⟩

/-- The first number that isn't 0; 0, if there is none. -/
def orL : List Int → Int
  | [] => 0
  | a :: r => if a = 0 then orL r else a
theorem orL_drop (l : List Int) (k : Nat) (h : k < l.length) : orL (l.drop k) = if l.getD k 0 = 0 then orL (l.drop (k + 1)) else l.getD k 0 := by
  rw [List.drop_eq_getElem_cons h, List.getD_eq_getElem?_getD, List.getElem?_eq_getElem h]
  rfl
/-- A block's cells are these numbers. -/
def RowAt (w : World) (b : Nat) (l : List Int) : Prop := ∀ j, j < l.length → w.cell? ⟨b, j, none⟩ = some (.int .i64 (l.getD j 0))
end Go.Proofs.YteahloddjekakaaDoor.Td

namespace Go.Proofs.YteahloddjekakaaDoor.Td
open Go.RowKit

end Go.Proofs.YteahloddjekakaaDoor.Td

namespace Go.Proofs.YteahloddjekakaaDoor.Td
open Go.RowKit

/-- The six parts, held against each other; the first that differ tell. -/
def tlist (x y : Tr) : List Int := [cmpI x.n y.n, cmpS x.b y.b, cmpS x.s y.s, cmpS x.i y.i, cmpI x.q y.q, cmpI x.p y.p]
def tcmp (x y : Tr) : Int := orL (tlist x y)

theorem two_new2 (w : World) (o1 o2 : Obj) : ((w.alloc o1).alloc o2).heap[w.heap.size]? = some o1 ∧ ((w.alloc o1).alloc o2).heap[w.heap.size + 1]? = some o2 ∧ Below w.heap.size w ((w.alloc o1).alloc o2) := by
  have e1 : (w.alloc o1).heap.size = w.heap.size + 1 := by simp
  refine ⟨block_old (block_new _ _) _, ?_, ((Below.refl _ _).alloc (Nat.le_refl _) _).alloc (by simp) _⟩
  rw [← e1]; exact block_new _ _
theorem row6 (w : World) (a b c d e f : Int) (t : TypeId) : RowAt (w.alloc (.cells #[.int .i64 a, .int .i64 b, .int .i64 c, .int .i64 d, .int .i64 e, .int .i64 f] t)).drew w.heap.size [a, b, c, d, e, f] := by
  obtain ⟨h0, h1, h2, h3, h4, h5⟩ := blk6 (block_new w (.cells #[.int .i64 a, .int .i64 b, .int .i64 c, .int .i64 d, .int .i64 e, .int .i64 f] t))
  intro j hj
  match j, hj with
  | 0, _ => exact h0
  | 1, _ => exact h1
  | 2, _ => exact h2
  | 3, _ => exact h3
  | 4, _ => exact h4
  | 5, _ => exact h5
  | n + 6, hj => simp at hj; omega

theorem six_le : (6 : Nat) ≤ 1000 := by decide
theorem twelve {W w1 : World} (hb : Below W.heap.size W w1) {p0 p1 p2 p3 p4 p5 p6 p7 p8 p9 p10 p11 : Addr} {v0 v1 v2 v3 v4 v5 v6 v7 v8 v9 v10 v11 : Value} (h : W.cell? p0 = some v0 ∧ W.cell? p1 = some v1 ∧ W.cell? p2 = some v2 ∧ W.cell? p3 = some v3 ∧ W.cell? p4 = some v4 ∧ W.cell? p5 = some v5 ∧ W.cell? p6 = some v6 ∧ W.cell? p7 = some v7 ∧ W.cell? p8 = some v8 ∧ W.cell? p9 = some v9 ∧ W.cell? p10 = some v10 ∧ W.cell? p11 = some v11) :
    w1.cell? p0 = some v0 ∧ w1.cell? p1 = some v1 ∧ w1.cell? p2 = some v2 ∧ w1.cell? p3 = some v3 ∧ w1.cell? p4 = some v4 ∧ w1.cell? p5 = some v5 ∧ w1.cell? p6 = some v6 ∧ w1.cell? p7 = some v7 ∧ w1.cell? p8 = some v8 ∧ w1.cell? p9 = some v9 ∧ w1.cell? p10 = some v10 ∧ w1.cell? p11 = some v11 :=
  ⟨(hb.cell (World.block_lt_of_cell? _ _ h.1)).trans h.1, (hb.cell (World.block_lt_of_cell? _ _ h.2.1)).trans h.2.1, (hb.cell (World.block_lt_of_cell? _ _ h.2.2.1)).trans h.2.2.1, (hb.cell (World.block_lt_of_cell? _ _ h.2.2.2.1)).trans h.2.2.2.1, (hb.cell (World.block_lt_of_cell? _ _ h.2.2.2.2.1)).trans h.2.2.2.2.1, (hb.cell (World.block_lt_of_cell? _ _ h.2.2.2.2.2.1)).trans h.2.2.2.2.2.1, (hb.cell (World.block_lt_of_cell? _ _ h.2.2.2.2.2.2.1)).trans h.2.2.2.2.2.2.1, (hb.cell (World.block_lt_of_cell? _ _ h.2.2.2.2.2.2.2.1)).trans h.2.2.2.2.2.2.2.1, (hb.cell (World.block_lt_of_cell? _ _ h.2.2.2.2.2.2.2.2.1)).trans h.2.2.2.2.2.2.2.2.1, (hb.cell (World.block_lt_of_cell? _ _ h.2.2.2.2.2.2.2.2.2.1)).trans h.2.2.2.2.2.2.2.2.2.1, (hb.cell (World.block_lt_of_cell? _ _ h.2.2.2.2.2.2.2.2.2.2.1)).trans h.2.2.2.2.2.2.2.2.2.2.1, (hb.cell (World.block_lt_of_cell? _ _ h.2.2.2.2.2.2.2.2.2.2.2)).trans h.2.2.2.2.2.2.2.2.2.2.2⟩
theorem twelve_alloc {W : World} {p0 p1 p2 p3 p4 p5 p6 p7 p8 p9 p10 p11 : Addr} {v0 v1 v2 v3 v4 v5 v6 v7 v8 v9 v10 v11 : Value} (h : W.cell? p0 = some v0 ∧ W.cell? p1 = some v1 ∧ W.cell? p2 = some v2 ∧ W.cell? p3 = some v3 ∧ W.cell? p4 = some v4 ∧ W.cell? p5 = some v5 ∧ W.cell? p6 = some v6 ∧ W.cell? p7 = some v7 ∧ W.cell? p8 = some v8 ∧ W.cell? p9 = some v9 ∧ W.cell? p10 = some v10 ∧ W.cell? p11 = some v11) (o : Obj) :
    (W.alloc o).cell? p0 = some v0 ∧ (W.alloc o).cell? p1 = some v1 ∧ (W.alloc o).cell? p2 = some v2 ∧ (W.alloc o).cell? p3 = some v3 ∧ (W.alloc o).cell? p4 = some v4 ∧ (W.alloc o).cell? p5 = some v5 ∧ (W.alloc o).cell? p6 = some v6 ∧ (W.alloc o).cell? p7 = some v7 ∧ (W.alloc o).cell? p8 = some v8 ∧ (W.alloc o).cell? p9 = some v9 ∧ (W.alloc o).cell? p10 = some v10 ∧ (W.alloc o).cell? p11 = some v11 :=
  twelve ((Below.refl W.heap.size W).alloc (Nat.le_refl _) o) h
theorem twelve_drew {W : World} {p0 p1 p2 p3 p4 p5 p6 p7 p8 p9 p10 p11 : Addr} {v0 v1 v2 v3 v4 v5 v6 v7 v8 v9 v10 v11 : Value} (h : W.cell? p0 = some v0 ∧ W.cell? p1 = some v1 ∧ W.cell? p2 = some v2 ∧ W.cell? p3 = some v3 ∧ W.cell? p4 = some v4 ∧ W.cell? p5 = some v5 ∧ W.cell? p6 = some v6 ∧ W.cell? p7 = some v7 ∧ W.cell? p8 = some v8 ∧ W.cell? p9 = some v9 ∧ W.cell? p10 = some v10 ∧ W.cell? p11 = some v11) :
    W.drew.cell? p0 = some v0 ∧ W.drew.cell? p1 = some v1 ∧ W.drew.cell? p2 = some v2 ∧ W.drew.cell? p3 = some v3 ∧ W.drew.cell? p4 = some v4 ∧ W.drew.cell? p5 = some v5 ∧ W.drew.cell? p6 = some v6 ∧ W.drew.cell? p7 = some v7 ∧ W.drew.cell? p8 = some v8 ∧ W.drew.cell? p9 = some v9 ∧ W.drew.cell? p10 = some v10 ∧ W.drew.cell? p11 = some v11 := h
end Go.Proofs.YteahloddjekakaaDoor.Td

namespace Go.Proofs.YteahloddjekakaaDoor.Td
open Go.RowKit

set_option maxRecDepth 100000 in
set_option maxHeartbeats 1000000 in
theorem orE (w : World) (b n : Nat) (l : List Int) (r : Int) (h : RowAt w b l) (hn : l.length = n) (hr : Hid (r = orL l)) (hm : n ≤ 1000) :
    Calls Tryd.prog 27 #[.slice (some ⟨b, 0, none⟩) n n] w fun e w' => e = .returned (.int .i64 r) ∧ w' = w := by
  have H := Lib.hid h
  have HN := Lib.hid hn
  clear h hn
  go_enter Tryd.func27, Tryd.ntmps27
  go_wp2
  go_loopg [8] n (fun (g : Nat) i wx => ∃ k : Nat, wx = w ∧ g = n - k ∧ k ≤ n ∧ i = .int .i64 (k : Int) ∧ Hid (r = orL (l.drop k)))
  case atStart => exact ⟨0, rfl, rfl, Nat.zero_le _, rfl, hr.out⟩
  case round =>
    obtain ⟨k, rfl, rfl, hk, rfl, hv⟩ := hrel
    by_cases hlt : k < n
    · obtain ⟨x, hx⟩ : ∃ x, x = l.getD k 0 := ⟨_, rfl⟩
      have hc : wr.cell? ⟨b, k, none⟩ = some (.int .i64 x) := by rw [hx]; exact H.out k (by rw [HN.out]; exact hlt)
      have hd := orL_drop l k (by rw [HN.out]; exact hlt)
      rw [← hx] at hd
      have HD := Lib.hid hd
      clear hx hd
      by_cases hz : x = 0
      · have hv2 : Hid (r = orL (l.drop (k + 1))) := by show _ = _; rw [hv.out, HD.out, if_pos hz]
        go_wp2
        go_roundg (n - (k + 1))
        case measure => omega
        case rel => exact ⟨k + 1, rfl, rfl, by omega, by go_num, hv2.out⟩
      · obtain rfl : r = x := by rw [hv.out, HD.out, if_neg hz]
        go_wp2
        go_ret
        exact ⟨rfl, rfl⟩
    · obtain rfl : k = n := by omega
      obtain rfl : r = 0 := by rw [hv.out, List.drop_of_length_le (by rw [HN.out]; exact Nat.le_refl _)]; rfl
      go_wp2
      go_ret
      exact ⟨rfl, rfl⟩
end Go.Proofs.YteahloddjekakaaDoor.Td
