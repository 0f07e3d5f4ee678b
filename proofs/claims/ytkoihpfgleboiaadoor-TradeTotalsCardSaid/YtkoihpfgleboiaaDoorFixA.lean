/-
  Texts of earlier layers that this seat's laws call, in one text (by program): Digs, Knuth, Div64, Math, Clean, Size, Compare, Words, Out, Bits, Fx, Fy, Wide, Small, At, Add, Sub, Fz, Signed, Away, Divide, Int, Dec, Text, Plain, Parse, Known, Sum, Mul, Fits, Fits2, Floor, Floor2, Rnd0, Rnd1, Rnd2, Rnd3, Rnd, LawDiv, Laws, Times, Cmp, Sums, Sums2, LawNar, Wides, Plus.
-/
import Derived.WalkKit
import Derived.WalkSpells
import Derived.Deep.Draws
import Derived.Below
import Derived.Test.YtkoihpfgleboiaaDoorShelf
import Derived.WalkLawsBesides
import Derived.Deep.LoopGhost
import Derived.Deep.CutBlock
import Derived.Deep.QuietTactic
import Derived.BigQuiet
import Derived.Lib.Hide
import Derived.Lib.ItoaNum
import Derived.Outline
import Derived.IntWalk
import Derived.Test.YtkoihpfgleboiaaDoorRows
import Derived.Shelf.Spec.BitsCarry
import Derived.Deep.RegionHeld3
import Derived.Laws.BytesString
import Derived.Laws.IdiomStrings
import Derived.Deep.Cut
import Derived.Deep.OwnRows
import Derived.BigRegion
namespace Go.Proofs.YtkoihpfgleboiaaDoor
open Go.RowKit
/-- The digits as values. -/
def ints (ds : List Int) : List Value := ds.map (Value.int .i64)

/-- Whatever row of ints lies there lies there still. -/
def IntKept (w w' : World) : Prop := ∀ (g : Nat) (cur : Array Value) (fr : Nat × Nat), w.heap[g]? = some (.cells cur 3 fr) → w'.heap[g]? = some (.cells cur 3 fr)

theorem IntKept.refl (w : World) : IntKept w w := fun _ _ _ h => h
theorem IntKept.trans {a b c : World} (h : IntKept a b) (k : IntKept b c) : IntKept a c := fun g cur fr hg => k g cur fr (h g cur fr hg)
theorem IntKept.alloc {a w : World} (h : IntKept a w) (o : Obj) : IntKept a (w.alloc o) := fun g cur fr hg => by
  have h1 := h g cur fr hg
  rw [Below.heap_alloc w o g (Array.getElem?_eq_some_iff.1 h1).1]; exact h1
theorem IntKept.drew {a w : World} (h : IntKept a w) : IntKept a w.drew := h
theorem IntKept.drewN {a w : World} (h : IntKept a w) (n : Nat) : IntKept a (w.drewN n) := h
theorem IntKept.of_below {B : Nat} {w w' : World} (hb : Below B w w') (hB : w.heap.size ≤ B) : IntKept w w' := fun g cur fr hg =>
  (hb.block g (by have := (Array.getElem?_eq_some_iff.1 hg).1; omega)).trans hg
theorem IntKept.below {a w w' : World} (h : IntKept a w) {B : Nat} (hb : Below B w w') (hB : w.heap.size ≤ B) : IntKept a w' := h.trans (IntKept.of_below hb hB)
/-- A store into a block of another type. -/
theorem IntKept.setCell {a w : World} (h : IntKept a w) {p : Addr} {cs : Array Value} {t : TypeId} {fr : Nat × Nat} (hp : w.heap[p.block]? = some (.cells cs t fr)) (ht : t ≠ 3) (u : Value) : IntKept a (w.setCell p u) := fun g cur fr' hg => by
  have h1 := h g cur fr' hg
  rw [Below.heap_setCell w p u g (by rintro rfl; rw [hp] at h1; injection h1 with h1; injection h1 with _ h1; exact ht h1)]; exact h1

/-- The slice value v reads as the digits ds. -/
def Digs (w : World) (v : Value) (ds : List Int) : Prop :=
  ∃ (A : Option Addr) (c : Nat), v = .slice A ds.length c ∧ ds.length ≤ c ∧ c ≤ maxLen ∧
    (0 < ds.length → ∃ (g : Nat) (cur : Array Value) (fr : Nat × Nat), A = some ⟨g, 0, none⟩ ∧ w.heap[g]? = some (.cells cur 3 fr) ∧ ∀ (i : Nat) (d : Int), ds[i]? = some d → cur[i]? = some (.int .i64 d))

theorem Digs.keep {w w' : World} {v : Value} {ds : List Int} (h : Digs w v ds) (hk : IntKept w w') : Digs w' v ds := by
  obtain ⟨A, c, hv, h1, h2, h3⟩ := h
  refine ⟨A, c, hv, h1, h2, fun hl => ?_⟩
  obtain ⟨g, cur, fr, hA, hg, hc⟩ := h3 hl
  exact ⟨g, cur, fr, hA, hk g cur fr hg, hc⟩
theorem Digs.below {w w' : World} {v : Value} {ds : List Int} (h : Digs w v ds) {B : Nat} (hb : Below B w w') (hB : w.heap.size ≤ B) : Digs w' v ds := h.keep (IntKept.of_below hb hB)
theorem Digs.alloc {w : World} {v : Value} {ds : List Int} (h : Digs w v ds) (o : Obj) : Digs (w.alloc o) v ds := h.keep ((IntKept.refl w).alloc o)
theorem Digs.drewN {w : World} {v : Value} {ds : List Int} (h : Digs w v ds) (n : Nat) : Digs (w.drewN n) v ds := h
theorem Digs.drew {w : World} {v : Value} {ds : List Int} (h : Digs w v ds) : Digs w.drew v ds := h

theorem Digs.nil (w : World) : Digs w (.slice none 0 0) [] := ⟨none, 0, rfl, Nat.le_refl _, by simp [maxLen], fun h => by simp at h⟩
theorem Digs.of_owns {w : World} {base : Nat} {v : Value} {n : Nat} {ds : List Int} (h : w.ownsRow base 3 1 v n (ints ds)) : Digs w v ds := by
  have hl : ds.length = n := by have := h.1; simpa [ints] using this
  rcases h.2 with ⟨rfl, h0⟩ | ⟨g, cap, cur, rfl, _, hg, h1, h2, _, ht⟩
  · have : ds = [] := List.eq_nil_of_length_eq_zero (by omega)
    subst this
    exact Digs.nil w
  · refine ⟨_, cap, by rw [hl], by omega, h2, fun _ => ⟨g, cur, _, rfl, hg, fun i d hd => ?_⟩⟩
    have h3 : (ints ds)[i]? = some (.int .i64 d) := by simp [ints, hd]
    rw [← ht, List.getElem?_take] at h3
    split at h3
    · simpa using h3
    · cases h3

/-- A block that was just laid. -/
theorem Digs.of_row {w : World} {g c : Nat} {cur : Array Value} {fr : Nat × Nat} {ds : List Int} (hg : w.heap[g]? = some (.cells cur 3 fr)) (hc : cur.toList.take ds.length = ints ds) (h1 : ds.length ≤ c) (h2 : c ≤ maxLen) : Digs w (.slice (some ⟨g, 0, none⟩) ds.length c) ds := by
  refine ⟨_, c, rfl, h1, h2, fun _ => ⟨g, cur, fr, rfl, hg, fun i d hd => ?_⟩⟩
  have h3 : (ints ds)[i]? = some (.int .i64 d) := by simp [ints, hd]
  rw [← hc, List.getElem?_take] at h3
  split at h3
  · simpa using h3
  · cases h3

/-- Cut at k. -/
theorem Digs.take {w : World} {A : Option Addr} {n c : Nat} {ds : List Int} (h : Digs w (.slice A n c) ds) {k : Nat} (hk : k ≤ n) : Digs w (.slice A k c) (ds.take k) := by
  obtain ⟨A', c', hv, h1, h2, h3⟩ := h
  injection hv with e1 e2 e3
  subst e1 e2 e3
  refine ⟨A, c, by rw [List.length_take, Nat.min_eq_left hk], by rw [List.length_take]; omega, h2, fun hl => ?_⟩
  rw [List.length_take] at hl
  obtain ⟨g, cur, fr, hA, hg, hc⟩ := h3 (by omega)
  refine ⟨g, cur, fr, hA, hg, fun i d hd => hc i d ?_⟩
  rw [List.getElem?_take] at hd
  split at hd
  · exact hd
  · cases hd

theorem Digs.form {w : World} {v : Value} {ds : List Int} (h : Digs w v ds) : ∃ A n c, v = .slice A n c := by obtain ⟨A, c, hv, _⟩ := h; exact ⟨A, _, c, hv⟩

theorem Digs.len {w : World} {A : Option Addr} {n c : Nat} {ds : List Int} (h : Digs w (.slice A n c) ds) : n = ds.length ∧ n ≤ c ∧ c ≤ maxLen := by
  obtain ⟨A', c', hv, h1, h2, _⟩ := h
  injection hv with e1 e2 e3
  subst e1 e2 e3
  exact ⟨rfl, h1, h2⟩

theorem Digs.some {w : World} {A : Option Addr} {n c : Nat} {ds : List Int} (h : Digs w (.slice A n c) ds) (h0 : 0 < n) :
    ∃ g, A = .some ⟨g, 0, none⟩ ∧ g < w.heap.size ∧ ∀ i, i < n → w.cell? ⟨g, i, none⟩ = .some (.int .i64 (ds.getD i 0)) := by
  obtain ⟨A', c', hv, h1, h2, h3⟩ := h
  injection hv with e1 e2 e3
  subst e1 e2 e3
  obtain ⟨g, cur, fr, hA, hg, hc⟩ := h3 h0
  refine ⟨g, hA, (Array.getElem?_eq_some_iff.1 hg).1, fun i hi => ?_⟩
  rw [cell_of_row w g i cur _ fr hg]
  apply hc i
  rw [List.getElem?_eq_getElem hi, List.getD_eq_getElem?_getD, List.getElem?_eq_getElem hi]
  rfl

theorem below_drewN {B : Nat} {a w : World} (h : Below B a w) (n : Nat) : Below B a (w.drewN n) := ⟨h.os, h.tape, h.output, h.size, h.block⟩
theorem ret_int {k : IntKind} {a b : Int} (h : a = b) : Ending.returned (.int k a) = .returned (.int k b) := by rw [h]
theorem ret_bool {a b : Bool} (h : a = b) : Ending.returned (.bool a) = .returned (.bool b) := by rw [h]
end Go.Proofs.YtkoihpfgleboiaaDoor
namespace Go.Proofs.YtkoihpfgleboiaaDoor
/-- What holds of the estimate q and what is left, r: the quotient of u * 2^32 + d by a * 2^32 + b is not above q. -/
def KInv (a b u d q r : Int) : Prop := 0 ≤ q ∧ q ≤ 4294967297 ∧ q * a + r = u ∧ 0 ≤ r ∧ r < 4294967296 ∧ (u * 4294967296 + d) / (a * 4294967296 + b) ≤ q

/-- The numbers are such as the method asks. -/
structure KOk (a b u d : Int) : Prop where
  a0 : 2147483648 ≤ a
  a1 : a < 4294967296
  b0 : 0 ≤ b
  b1 : b < 4294967296
  u0 : 0 ≤ u
  u1 : u < a * 4294967296 + b
  d0 : 0 ≤ d
  d1 : d < 4294967296

theorem KInv.mul {a b u d q r : Int} (h : KInv a b u d q r) : q * (a * 4294967296 + b) = (u - r) * 4294967296 + q * b := by
  obtain ⟨_, _, e, _⟩ := h
  rw [Int.mul_add, ← Int.mul_assoc]
  have : q * a = u - r := by omega
  rw [this]

theorem KInv.done {a b u d q r : Int} (k : KOk a b u d) (h : KInv a b u d q r) (h2 : q * b ≤ 4294967296 * r + d) : q = (u * 4294967296 + d) / (a * 4294967296 + b) := by
  have e := h.mul
  obtain ⟨a0, a1, b0, b1, u0, u1, d0, d1⟩ := k
  obtain ⟨q0, q1, e1, r0, r1, hq⟩ := h
  have : q ≤ (u * 4294967296 + d) / (a * 4294967296 + b) := (Int.le_ediv_iff_mul_le (by omega)).2 (by omega)
  omega

theorem KInv.less {a b u d q r : Int} (k : KOk a b u d) (h : KInv a b u d q r) (h2 : 4294967296 ≤ q ∨ 4294967296 * r + d < q * b) :
    1 ≤ q ∧ (u * 4294967296 + d) / (a * 4294967296 + b) ≤ q - 1 := by
  have e := h.mul
  obtain ⟨a0, a1, b0, b1, u0, u1, d0, d1⟩ := k
  obtain ⟨q0, q1, e1, r0, r1, hq⟩ := h
  have hQ0 : 0 ≤ (u * 4294967296 + d) / (a * 4294967296 + b) := Int.ediv_nonneg (by omega) (by omega)
  have : (u * 4294967296 + d) / (a * 4294967296 + b) < q := by
    rcases h2 with h2 | h2
    · have : (u * 4294967296 + d) / (a * 4294967296 + b) < 4294967296 := (Int.ediv_lt_iff_lt_mul (by omega)).2 (by omega)
      omega
    · exact (Int.ediv_lt_iff_lt_mul (by omega)).2 (by omega)
  omega

theorem KInv.next {a b u d q r : Int} (k : KOk a b u d) (h : KInv a b u d q r) (h2 : 4294967296 ≤ q ∨ 4294967296 * r + d < q * b) (h3 : r + a < 4294967296) : KInv a b u d (q - 1) (r + a) := by
  have e := h.less k h2
  obtain ⟨a0, a1, b0, b1, u0, u1, d0, d1⟩ := k
  obtain ⟨q0, q1, e1, r0, r1, hq⟩ := h
  exact ⟨by omega, by omega, by rw [Int.sub_mul]; omega, by omega, h3, e.2⟩

end Go.Proofs.YtkoihpfgleboiaaDoor
namespace Go.Proofs.YtkoihpfgleboiaaDoor
open Go.RowKit
theorem u64_wrap (n : Int) : IntKind.u64.wrap n = n % 18446744073709551616 := IntKind.wrap_u64 n
theorem ret_two {k l : IntKind} {a b c d : Int} (h1 : a = c) (h2 : b = d) : Ending.returned (.tuple #[.int k a, .int l b]) = .returned (.tuple #[.int k c, .int l d]) := by rw [h1, h2]


end Go.Proofs.YtkoihpfgleboiaaDoor
namespace Go.Proofs.YtkoihpfgleboiaaDoor
/-- The number of a list of digits. -/
def val : List Int → Int
  | [] => 0
  | d :: t => d + 65536 * val t

/-- A power of the base. -/
def bp : Nat → Int
  | 0 => 1
  | k + 1 => 65536 * bp k

theorem bp_pos (k : Nat) : 0 < bp k := by
  induction k with
  | zero => decide
  | succ k ih => simp only [bp]; omega
theorem bp_add (a b : Nat) : bp (a + b) = bp a * bp b := by
  induction a with
  | zero => simp [bp]
  | succ a ih => rw [show a + 1 + b = (a + b) + 1 by omega]; simp only [bp]; rw [ih, Int.mul_assoc]
theorem bp_mono {a b : Nat} (h : a ≤ b) : bp a ≤ bp b := by
  obtain ⟨c, rfl⟩ := Nat.exists_eq_add_of_le h
  induction c with
  | zero => exact Int.le_refl _
  | succ c ih => have := ih (by omega); have := bp_pos (a + c); rw [show a + (c + 1) = (a + c) + 1 by omega]; simp only [bp]; omega

/-- All digits are digits. -/
def InR (ds : List Int) : Prop := ∀ d ∈ ds, 0 ≤ d ∧ d < 65536

theorem InR.nil : InR [] := fun _ h => by cases h
theorem InR.cons {d : Int} {t : List Int} (h0 : 0 ≤ d) (h1 : d < 65536) (h : InR t) : InR (d :: t) := fun x hx => by
  rcases List.mem_cons.1 hx with rfl | hx
  · exact ⟨h0, h1⟩
  · exact h x hx
theorem InR.tail {d : Int} {t : List Int} (h : InR (d :: t)) : InR t := fun x hx => h x (List.mem_cons_of_mem _ hx)
theorem InR.head {d : Int} {t : List Int} (h : InR (d :: t)) : 0 ≤ d ∧ d < 65536 := h d (List.mem_cons_self ..)
theorem InR.append {a b : List Int} (ha : InR a) (hb : InR b) : InR (a ++ b) := fun x hx => by
  rcases List.mem_append.1 hx with hx | hx
  · exact ha x hx
  · exact hb x hx
theorem InR.snoc {a : List Int} {d : Int} (ha : InR a) (h0 : 0 ≤ d) (h1 : d < 65536) : InR (a ++ [d]) := ha.append (InR.cons h0 h1 InR.nil)
theorem InR.take {a : List Int} (ha : InR a) (k : Nat) : InR (a.take k) := fun x hx => ha x (List.mem_of_mem_take hx)
theorem InR.getD {a : List Int} (ha : InR a) (k : Nat) : 0 ≤ a.getD k 0 ∧ a.getD k 0 < 65536 := by
  rw [List.getD_eq_getElem?_getD]
  rcases Nat.lt_or_ge k a.length with h | h
  · rw [List.getElem?_eq_getElem h]; exact ha _ (List.getElem_mem h)
  · rw [List.getElem?_eq_none h]; exact ⟨by decide, by decide⟩
theorem InR.set {a : List Int} (ha : InR a) (k : Nat) {d : Int} (h0 : 0 ≤ d) (h1 : d < 65536) : InR (a.set k d) := fun x hx => by
  rcases List.mem_or_eq_of_mem_set hx with hx | rfl
  · exact ha x hx
  · exact ⟨h0, h1⟩
theorem InR.rep (n : Nat) : InR (List.replicate n 0) := fun x hx => by rw [(List.mem_replicate.1 hx).2]; decide

theorem val_nonneg {ds : List Int} (h : InR ds) : 0 ≤ val ds := by
  induction ds with
  | nil => exact Int.le_refl _
  | cons d t ih => have := ih h.tail; have := h.head; simp only [val]; omega
theorem val_lt {ds : List Int} (h : InR ds) : val ds < bp ds.length := by
  induction ds with
  | nil => decide
  | cons d t ih => have := ih h.tail; have := h.head; simp only [val, bp, List.length_cons]; omega
theorem val_append (a b : List Int) : val (a ++ b) = val a + bp a.length * val b := by
  induction a with
  | nil => simp [val, bp]
  | cons d t ih => simp only [List.cons_append, val, ih, bp, List.length_cons, Int.mul_add, Int.mul_assoc, Int.add_assoc]
theorem val_snoc (a : List Int) (d : Int) : val (a ++ [d]) = val a + bp a.length * d := by rw [val_append]; simp [val]
theorem take_succ_of_lt {a : List Int} {k : Nat} (h : k < a.length) : a.take (k + 1) = a.take k ++ [a.getD k 0] := by
  rw [List.take_succ_eq_append_getElem h, List.getD_eq_getElem?_getD, List.getElem?_eq_getElem h]; rfl
theorem val_take_succ (a : List Int) (k : Nat) : val (a.take (k + 1)) = val (a.take k) + bp k * a.getD k 0 := by
  rcases Nat.lt_or_ge k a.length with h | h
  · rw [take_succ_of_lt h, val_snoc, List.length_take, Nat.min_eq_left (by omega)]
  · rw [List.take_of_length_le (by omega), List.take_of_length_le h, List.getD_eq_getElem?_getD, List.getElem?_eq_none h]; simp
theorem val_take_all {a : List Int} {k : Nat} (h : a.length ≤ k) : val (a.take k) = val a := by rw [List.take_of_length_le h]
theorem val_take_lt {a : List Int} (h : InR a) (k : Nat) : 0 ≤ val (a.take k) ∧ val (a.take k) < bp k :=
  ⟨val_nonneg (h.take k), Int.lt_of_lt_of_le (val_lt (h.take k)) (bp_mono (List.length_take_le _ _))⟩
theorem val_rep (n : Nat) : val (List.replicate n 0) = 0 := by
  induction n with
  | zero => rfl
  | succ n ih => simp [List.replicate_succ, val, ih]
theorem val_set (a : List Int) (k : Nat) (d : Int) (h : k < a.length) : val (a.set k d) = val a + bp k * (d - a.getD k 0) := by
  induction a generalizing k with
  | nil => simp at h
  | cons x t ih =>
    cases k with
    | zero => simp [val, bp]; omega
    | succ k =>
      have := ih k (by simpa using h)
      simp only [List.set_cons_succ, val, this, bp, Int.mul_add, Int.mul_assoc, List.getD_cons_succ]
      omega

/-- The digits of a number. -/
def digs (n : Nat) : List Int := if h : n = 0 then [] else ((n % 65536 : Nat) : Int) :: digs (n / 65536)
termination_by n
decreasing_by omega

theorem digs_zero : digs 0 = [] := by rw [digs]; simp
theorem digs_pos {n : Nat} (h : 0 < n) : digs n = ((n % 65536 : Nat) : Int) :: digs (n / 65536) := by rw [digs]; rw [dif_neg (by omega)]
theorem digs_inR (n : Nat) : InR (digs n) := by
  induction n using Nat.strongRecOn with
  | ind n ih =>
    rcases Nat.eq_zero_or_pos n with rfl | h
    · rw [digs_zero]; exact InR.nil
    · rw [digs_pos h]; exact InR.cons (by omega) (by omega) (ih _ (by omega))
theorem val_digs (n : Nat) : val (digs n) = n := by
  induction n using Nat.strongRecOn with
  | ind n ih =>
    rcases Nat.eq_zero_or_pos n with rfl | h
    · rw [digs_zero]; rfl
    · rw [digs_pos h, val, ih _ (by omega)]; omega
theorem digs_nil_iff (n : Nat) : (digs n).length = 0 ↔ n = 0 := by
  rcases Nat.eq_zero_or_pos n with rfl | h
  · simp [digs_zero]
  · rw [digs_pos h]; simp; omega
/-- No nought stands at the top. -/
theorem digs_top (n : Nat) (h : 0 < n) : (digs n).getD ((digs n).length - 1) 0 ≠ 0 := by
  induction n using Nat.strongRecOn with
  | ind n ih =>
    rw [digs_pos h]
    rcases Nat.eq_zero_or_pos (n / 65536) with h0 | h0
    · rw [h0, digs_zero]; simp; omega
    · have := ih _ (by omega) h0
      have hl : 0 < (digs (n / 65536)).length := by have := digs_nil_iff (n / 65536); omega
      obtain ⟨m, hm⟩ : ∃ m, (digs (n / 65536)).length = m + 1 := ⟨_, (Nat.succ_pred_eq_of_pos hl).symm⟩
      rw [hm] at this
      simp only [List.length_cons, hm, Nat.add_sub_cancel, List.getD_cons_succ] at this ⊢
      exact this
/-- A list of digits without a nought at the top is the number's. -/
theorem digs_of {ds : List Int} (h : InR ds) (ht : ds.length = 0 ∨ ds.getD (ds.length - 1) 0 ≠ 0) : ds = digs (val ds).toNat := by
  induction ds with
  | nil => rw [show (val []).toNat = 0 from rfl, digs_zero]
  | cons d t ih =>
    have hv := val_nonneg h.tail
    have hd := h.head
    have ht' : d ≠ 0 ∨ t.length ≠ 0 := by
      rcases Nat.eq_zero_or_pos t.length with h0 | h0
      · left; rcases ht with ht | ht
        · simp at ht
        · have : t = [] := List.eq_nil_of_length_eq_zero h0
          subst this; simpa using ht
      · right; omega
    have ih' : t = digs (val t).toNat := by
      apply ih h.tail
      rcases Nat.eq_zero_or_pos t.length with h0 | h0
      · left; exact h0
      · right; rcases ht with ht | ht
        · simp at ht
        · obtain ⟨m, hm⟩ : ∃ m, t.length = m + 1 := ⟨_, (Nat.succ_pred_eq_of_pos h0).symm⟩
          simp only [List.length_cons, hm, Nat.add_sub_cancel, List.getD_cons_succ] at ht ⊢
          exact ht
    have hpos : 0 < val (d :: t) := by
      simp only [val]
      rcases ht' with h1 | h1
      · omega
      · have : (val t).toNat ≠ 0 := fun e => by
          rw [e, digs_zero] at ih'
          rw [ih'] at h1; simp at h1
        omega
    rw [digs_pos (by omega)]
    have e1 : (((val (d :: t)).toNat % 65536 : Nat) : Int) = d := by simp only [val]; omega
    have e2 : (val (d :: t)).toNat / 65536 = (val t).toNat := by simp only [val]; omega
    rw [e1, e2, ← ih']
/-- Noughts at the top cut off: where all from k on is nought. -/
theorem val_take_of_noughts {ds : List Int} {k : Nat} (h : ∀ i, k ≤ i → ds.getD i 0 = 0) : val (ds.take k) = val ds := by
  have : ∀ n, val (ds.take (k + n)) = val (ds.take k) := by
    intro n
    induction n with
    | zero => rfl
    | succ n ih => rw [show k + (n + 1) = (k + n) + 1 by omega, val_take_succ, h _ (by omega), ih]; simp
  have h1 := this ds.length
  rw [val_take_all (by omega)] at h1
  exact h1.symm
theorem getD_take (ds : List Int) (k i : Nat) : (ds.take k).getD i 0 = if i < k then ds.getD i 0 else 0 := by
  simp only [List.getD_eq_getElem?_getD, List.getElem?_take]
  split <;> rfl
theorem strip_eq {ds : List Int} (hr : InR ds) {k : Nat} (hk : k ≤ ds.length) (h : ∀ i, k ≤ i → ds.getD i 0 = 0) (ht : k = 0 ∨ ds.getD (k - 1) 0 ≠ 0) : ds.take k = digs (val ds).toNat := by
  have hl : (ds.take k).length = k := by rw [List.length_take]; omega
  rw [← val_take_of_noughts h]
  apply digs_of (hr.take k)
  rw [hl, getD_take]
  rcases Nat.eq_zero_or_pos k with h0 | h0
  · left; exact h0
  · right; rw [if_pos (by omega)]
    rcases ht with ht | ht
    · omega
    · exact ht

theorem digs_lt_of_len {m n : Nat} (h : (digs m).length < (digs n).length) : m < n := by
  have h1 := val_lt (digs_inR m)
  have hn : 0 < n := by
    rcases Nat.eq_zero_or_pos n with rfl | hn
    · rw [digs_zero] at h; simp at h
    · exact hn
  have ht := digs_top n hn
  have hr := (digs_inR n).getD ((digs n).length - 1)
  have hs := val_take_succ (digs n) ((digs n).length - 1)
  rw [val_take_all (by omega)] at hs
  have h0 := val_nonneg ((digs_inR n).take ((digs n).length - 1))
  have hb := bp_mono (show (digs m).length ≤ (digs n).length - 1 by omega)
  have hp := bp_pos ((digs n).length - 1)
  have hm : bp ((digs n).length - 1) * 1 ≤ bp ((digs n).length - 1) * (digs n).getD ((digs n).length - 1) 0 := Int.mul_le_mul_of_nonneg_left (by omega) (by omega)
  rw [val_digs] at h1 hs
  omega
/-- Of two lists whose digits above k are the same the one with the lower digit at k is the lower. -/
theorem val_lt_of_digit {a b : List Int} (ha : InR a) (hb : InR b) (hl : a.length = b.length) {k : Nat} (_hk : k < a.length) (hs : ∀ i, k < i → a.getD i 0 = b.getD i 0) (hd : a.getD k 0 < b.getD k 0) : val a < val b := by
  have up : ∀ n, val (a.take (k + 1 + n)) - val (b.take (k + 1 + n)) = val (a.take (k + 1)) - val (b.take (k + 1)) := by
    intro n
    induction n with
    | zero => rfl
    | succ n ih => rw [show k + 1 + (n + 1) = (k + 1 + n) + 1 by omega, val_take_succ, val_take_succ b, hs _ (by omega)]; omega
  have h1 := up a.length
  rw [val_take_all (by omega), val_take_all (by omega), val_take_succ, val_take_succ] at h1
  have h2 := val_take_lt ha k
  have h3 := val_take_lt hb k
  have h4 : bp k * (a.getD k 0 + 1) ≤ bp k * b.getD k 0 := Int.mul_le_mul_of_nonneg_left (by omega) (by have := bp_pos k; omega)
  rw [Int.mul_add] at h4
  omega
theorem val_eq_of_digits {a b : List Int} (hs : ∀ i, a.getD i 0 = b.getD i 0) : val a = val b := by
  have : ∀ n, val (a.take n) = val (b.take n) := by
    intro n
    induction n with
    | zero => rfl
    | succ n ih => rw [val_take_succ, val_take_succ, ih, hs]
  have h := this (a.length + b.length)
  rwa [val_take_all (by omega), val_take_all (by omega)] at h

/-- Which is less. -/
def cmpN (m n : Nat) : Int := if m < n then -1 else if n < m then 1 else 0
def cmpI (m n : Int) : Int := if m < n then -1 else if n < m then 1 else 0
end Go.Proofs.YtkoihpfgleboiaaDoor
namespace Go.Proofs.YtkoihpfgleboiaaDoor
open Go.RowKit
/-- The value reads as the document's number z: its digits without noughts at the top. -/
def NumIs (w : World) (v : Value) (z : Int) : Prop := ∃ A n c, v = .agg #[.bool (decide (z < 0)), .slice A n c] ∧ Digs w (.slice A n c) (digs z.natAbs)

set_option maxHeartbeats 400000 in
theorem clean_any (w : World) (neg : Bool) (A : Option Addr) (n c : Nat) (ds : List Int) (h : Digs w (.slice A n c) ds) :
    Calls Tryd.prog 15 #[.agg #[.bool neg, .slice A n c]] w fun e w' =>
      ∃ k, k ≤ n ∧ (∀ i, k ≤ i → ds.getD i 0 = 0) ∧ (k = 0 ∨ ds.getD (k - 1) 0 ≠ 0) ∧ e = .returned (.agg #[.bool (neg && !(k == 0)), .slice A k c]) ∧ Below w.heap.size w w' := by
  obtain ⟨hn, hc, hm⟩ := h.len
  have hm' : n ≤ 9223372036854775807 := by unfold maxLen at hm; omega
  have H := Lib.hid h
  have HN := Lib.hid hn
  clear h hn hm
  go_enter Tryd.func15, Tryd.ntmps15
  go_wp2
  go_loopg [] n (fun (g : Nat) wx => ((w.alloc (.cells #[.bool neg, .slice A g c] 26)).alloc (.cells #[.bool false, .slice none 0 0] 26)) = wx ∧ g ≤ n ∧ Hid (∀ i, g ≤ i → ds.getD i 0 = 0))
  case atStart => exact ⟨rfl, Nat.le_refl _, fun i hi => by rw [List.getD_eq_getElem?_getD, List.getElem?_eq_none (by have := HN.out; omega)]; rfl⟩
  case round =>
    obtain ⟨rfl, hg, hz⟩ := hrel
    rcases gk with _ | k
    · go_wp2
      exact bodyPost_ret (v := .agg #[.bool false, .slice A 0 c]) (by simp [results, Tryd.results15, go_sem]) rfl ⟨0, Nat.zero_le _, hz.out, .inl rfl, by simp, ((Below.refl _ _).alloc (Nat.le_refl _) _).alloc (by simp) _⟩
    · obtain ⟨G, rfl, hGw, hcell⟩ := H.out.some (by omega)
      obtain ⟨d, hd⟩ : ∃ d, d = ds.getD k 0 := ⟨_, rfl⟩
      have hck := hcell k (by omega)
      rw [← hd] at hck
      
      have HD := Lib.hid hd
      clear hd hcell
      by_cases h0 : d = 0
      · subst h0
        go_wp2
        go_roundg k
        case measure => omega
        case rel => exact ⟨rfl, by omega, fun i hi => by
          rcases Nat.eq_or_lt_of_le hi with rfl | hi
          · exact HD.out.symm
          · exact hz.out i hi⟩
      · go_wp2
        exact bodyPost_ret (v := .agg #[.bool neg, .slice (some ⟨G, 0, none⟩) (k + 1) c]) (by simp [results, Tryd.results15, go_sem]) rfl ⟨k + 1, hg, hz.out, .inr (by rw [Nat.add_sub_cancel, ← HD.out]; exact h0), by simp, ((Below.refl _ _).alloc (Nat.le_refl _) _).alloc (by simp) _⟩

/-- The same, as a number. -/
theorem clean_num (w : World) (neg : Bool) (s : Value) (ds : List Int) (z : Int) (h : Digs w s ds) (hr : InR ds) (hz : z = if neg then - val ds else val ds) :
    Calls Tryd.prog 15 #[.agg #[.bool neg, s]] w fun e w' => ∃ v, e = .returned v ∧ NumIs w' v z ∧ Below w.heap.size w w' := by
  obtain ⟨A, n, c, rfl⟩ : ∃ A n c, s = .slice A n c := by obtain ⟨A, c, hv, _⟩ := h; exact ⟨A, _, c, hv⟩
  refine (clean_any w neg A n c ds h).mono ?_
  rintro e w' ⟨k, hk, hz1, ht, rfl, hb⟩
  have hn := h.len.1
  have hs := strip_eq hr (by omega) hz1 ht
  have hv := val_nonneg hr
  have hab : z.natAbs = (val ds).toNat := by subst hz; cases neg <;> simp <;> omega
  refine ⟨_, rfl, ⟨A, k, c, ?_, ?_⟩, hb⟩
  · have hk0 : k = 0 ↔ val ds = 0 := by
      have h1 := digs_nil_iff (val ds).toNat
      rw [← hs, List.length_take] at h1
      omega
    have : (neg && !(k == 0)) = decide (z < 0) := by
      subst hz
      cases neg
      · simp; omega
      · show (true && !(k == 0)) = decide (- val ds < 0)
        by_cases h0 : k = 0
        · have := hk0.1 h0; rw [this]; simp [h0]
        · have := mt hk0.2 h0; rw [decide_eq_true (show - val ds < 0 by omega)]; simp [h0]
    rw [this]
  · rw [hab, ← hs]
    exact (h.below hb (Nat.le_refl _)).take hk
end Go.Proofs.YtkoihpfgleboiaaDoor
namespace Go.Proofs.YtkoihpfgleboiaaDoor
open Go.RowKit
theorem cmpN_lt {m n : Nat} (h : m < n) : cmpN m n = -1 := by simp [cmpN, h]
theorem cmpN_gt {m n : Nat} (h : n < m) : cmpN m n = 1 := by unfold cmpN; rw [if_neg (by omega), if_pos h]
theorem cmpN_eq (m : Nat) : cmpN m m = 0 := by simp [cmpN]

set_option maxHeartbeats 1000000 in
theorem size_any (w : World) (u v : Value) (x y : Nat) (h : Digs w u (digs x)) (h' : Digs w v (digs y)) :
    Calls Tryd.prog 16 #[u, v] w fun e w' => e = .returned (.int .i64 (cmpN x y)) ∧ ∃ n, w' = w.drewN n := by
  obtain ⟨A, n, c, rfl⟩ : ∃ A n c, u = .slice A n c := by obtain ⟨A, c, hv, _⟩ := h; exact ⟨A, _, c, hv⟩
  obtain ⟨A', n', c', rfl⟩ : ∃ A n c, v = .slice A n c := by obtain ⟨A, c, hv, _⟩ := h'; exact ⟨A, _, c, hv⟩
  obtain ⟨hn, hc, hm⟩ := h.len
  obtain ⟨hn', hc', hm'⟩ := h'.len
  have hb : n ≤ 9223372036854775807 := by unfold maxLen at hm; omega
  have hb' : n' ≤ 9223372036854775807 := by unfold maxLen at hm'; omega
  rcases Nat.lt_trichotomy n n' with hlt | heq | hgt
  · rw [cmpN_lt (digs_lt_of_len (by omega))]
    have hne : ((n : Int) == n') = false := by simp; omega
    have hne' : ((n : Int) != n') = true := by simp; omega
    clear hm hm' h h' hn hn' hc hc'
    go_enter Tryd.func16, Tryd.ntmps16
    go_wp2
    go_ret
    exact ⟨rfl, 0, rfl⟩
  · subst heq
    have H := Lib.hid h
    have H' := Lib.hid h'
    have HN := Lib.hid hn
    have HN' := Lib.hid hn'
    clear h h' hn hn' hm hm'
    go_enter Tryd.func16, Tryd.ntmps16
    go_wp2
    go_loopg [5] n (fun (g : Nat) i wx => ∃ m, w.drewN m = wx ∧ i = .int .i64 ((g : Int) - 1) ∧ g ≤ n ∧ Hid (∀ j, g ≤ j → (digs x).getD j 0 = (digs y).getD j 0))
    case atStart => exact ⟨0, rfl, rfl, Nat.le_refl _, fun j hj => by
      have e1 := HN.out
      have e2 := HN'.out
      rw [List.getD_eq_getElem?_getD, List.getElem?_eq_none (by omega), List.getD_eq_getElem?_getD, List.getElem?_eq_none (by omega)]⟩
    case round =>
      obtain ⟨m, rfl, rfl, hg, hz⟩ := hrel
      rcases gk with _ | k
      · have hres : Hid (cmpN x y = 0) := by
          have := val_eq_of_digits (a := digs x) (b := digs y) (fun i => hz.out i (Nat.zero_le _))
          rw [val_digs, val_digs] at this
          have : x = y := by omega
          rw [this]; exact cmpN_eq y
        go_wp2
        go_ret
        exact ⟨ret_int hres.out.symm, _, by first | rfl | (simp only [World.drewN_drewN]; rfl)⟩
      · obtain ⟨G, rfl, _, hcell⟩ := H.out.some (by omega)
        obtain ⟨G', rfl, _, hcell'⟩ := H'.out.some (by omega)
        obtain ⟨d, hd⟩ : ∃ d, d = (digs x).getD k 0 := ⟨_, rfl⟩
        obtain ⟨d', hd'⟩ : ∃ d, d = (digs y).getD k 0 := ⟨_, rfl⟩
        have hck := hcell k (by omega)
        have hck' := hcell' k (by omega)
        rw [← hd] at hck
        rw [← hd'] at hck'
        have HD := Lib.hid hd
        have HD' := Lib.hid hd'
        clear hd hd' hcell hcell'
        have key := fun (a b : List Int) (ha : InR a) (hb : InR b) (hl : a.length = b.length) (h1 : k < a.length) (hs : ∀ i, k < i → a.getD i 0 = b.getD i 0) (hd : a.getD k 0 < b.getD k 0) => val_lt_of_digit ha hb hl h1 hs hd
        rcases Int.lt_trichotomy d d' with hl | he | hg'
        · have hres : Hid (cmpN x y = -1) := cmpN_lt (by
            have := key _ _ (digs_inR x) (digs_inR y) (by rw [← HN.out, ← HN'.out]) (by rw [← HN.out]; omega) (fun i hi => hz.out i hi) (by rw [← HD.out, ← HD'.out]; exact hl)
            rw [val_digs, val_digs] at this; omega)
          clear key
          go_wp2
          go_quiet (fail)
          go_wp2
          go_ret
          exact ⟨ret_int hres.out.symm, _, by first | rfl | (simp only [World.drewN_drewN]; rfl)⟩
        · clear key
          subst he
          go_wp2
          go_quiet (fail)
          go_wp2
          go_quiet (fail)
          go_wp2
          go_roundg k
          case measure => omega
          case rel => exact ⟨_, by first | rfl | (simp only [World.drewN_drewN]; rfl), rfl, by omega, fun j hj => by
            rcases Nat.eq_or_lt_of_le hj with rfl | hj
            · rw [← HD.out, ← HD'.out]
            · exact hz.out j hj⟩
        · have hres : Hid (cmpN x y = 1) := cmpN_gt (by
            have := key _ _ (digs_inR y) (digs_inR x) (by rw [← HN.out, ← HN'.out]) (by rw [← HN'.out]; omega) (fun i hi => (hz.out i hi).symm) (by rw [← HD.out, ← HD'.out]; exact hg')
            rw [val_digs, val_digs] at this; omega)
          clear key
          have hnl : ¬ d < d' := by omega
          go_wp2
          go_quiet (fail)
          go_wp2
          go_quiet (fail)
          go_wp2
          go_ret
          exact ⟨ret_int hres.out.symm, _, by first | rfl | (simp only [World.drewN_drewN]; rfl)⟩
  · rw [cmpN_gt (digs_lt_of_len (by omega))]
    have hne : ((n : Int) == n') = false := by simp; omega
    have hne' : ((n : Int) != n') = true := by simp; omega
    clear hm hm' h h' hn hn' hc hc'
    go_enter Tryd.func16, Tryd.ntmps16
    go_wp2
    go_ret
    exact ⟨rfl, 0, rfl⟩
end Go.Proofs.YtkoihpfgleboiaaDoor
namespace Go.Proofs.YtkoihpfgleboiaaDoor
open Go.RowKit
theorem NumIs.keep {w w' : World} {v : Value} {z : Int} (h : NumIs w v z) (hk : IntKept w w') : NumIs w' v z := by
  obtain ⟨A, n, c, hv, hd⟩ := h
  exact ⟨A, n, c, hv, hd.keep hk⟩
theorem NumIs.below {w w' : World} {v : Value} {z : Int} (h : NumIs w v z) {B : Nat} (hb : Below B w w') (hB : w.heap.size ≤ B) : NumIs w' v z := h.keep (IntKept.of_below hb hB)
theorem NumIs.alloc {w : World} {v : Value} {z : Int} (h : NumIs w v z) (o : Obj) : NumIs (w.alloc o) v z := h.keep ((IntKept.refl w).alloc o)
theorem NumIs.drew {w : World} {v : Value} {z : Int} (h : NumIs w v z) : NumIs w.drew v z := h
theorem NumIs.drewN {w : World} {v : Value} {z : Int} (h : NumIs w v z) (n : Nat) : NumIs (w.drewN n) v z := h
theorem NumIs.zero (w : World) : NumIs w (.agg #[.bool false, .slice none 0 0]) 0 := ⟨_, _, _, rfl, by rw [show (0 : Int).natAbs = 0 from rfl, digs_zero]; exact Digs.nil w⟩

theorem cmpN_bd (m n : Nat) : -1 ≤ cmpN m n ∧ cmpN m n ≤ 1 := by unfold cmpN; split <;> (try split) <;> omega
theorem cmpI_bd (m n : Int) : -1 ≤ cmpI m n ∧ cmpI m n ≤ 1 := by unfold cmpI; split <;> (try split) <;> omega

set_option maxHeartbeats 1000000 in
theorem compare_any (w : World) (u v : Value) (x y : Int) (h : NumIs w u x) (h' : NumIs w v y) :
    Calls Tryd.prog 11 #[u, v] w fun e w' => e = .returned (.int .i64 (cmpI x y)) ∧ Below w.heap.size w w' := by
  obtain ⟨A, n, c, rfl, hd⟩ := h
  obtain ⟨A', n', c', rfl, hd'⟩ := h'
  have hd1 := Lib.hid hd
  have hd1' := Lib.hid hd'
  clear hd hd'
  by_cases hx : x < 0 <;> by_cases hy : y < 0
  · have e1 : decide (x < 0) = true := by simpa using hx
    have e2 : decide (y < 0) = true := by simpa using hy
    obtain ⟨c, hc⟩ : ∃ c, c = cmpN x.natAbs y.natAbs := ⟨_, rfl⟩
    have hb := cmpN_bd x.natAbs y.natAbs
    rw [← hc] at hb
    obtain ⟨hb1, hb2⟩ := hb
    have HC := Lib.hid hc
    clear hc
    rw [e1, e2]
    clear e1 e2
    have hres : Hid (cmpI x y = -c) := by
      show cmpI x y = -c
      rw [HC.out]; unfold cmpI cmpN; split <;> split <;> (try split) <;> (try split) <;> omega
    clear hx hy
    go_enter Tryd.func11, Tryd.ntmps11
    go_wp2_with (go_at_call 16; refine (size_any _ _ _ _ _ ((hd1.out.alloc _).alloc _) ((hd1'.out.alloc _).alloc _)).mono ?_; rw [← HC.out]; rintro e w' ⟨rfl, n, rfl⟩)
    go_ret
    exact ⟨ret_int hres.out.symm, below_drewN (((Below.refl _ _).alloc (Nat.le_refl _) _).alloc (by simp) _) _⟩
  · have e1 : decide (x < 0) = true := by simpa using hx
    have e2 : decide (y < 0) = false := by simpa using hy
    rw [e1, e2]
    clear e1 e2
    have hres : Hid (cmpI x y = -1) := by show cmpI x y = -1; unfold cmpI; rw [if_pos (by omega)]
    clear hx hy
    go_enter Tryd.func11, Tryd.ntmps11
    go_wp2
    go_ret
    exact ⟨ret_int hres.out.symm, ((Below.refl _ _).alloc (Nat.le_refl _) _).alloc (by simp) _⟩
  · have e1 : decide (x < 0) = false := by simpa using hx
    have e2 : decide (y < 0) = true := by simpa using hy
    rw [e1, e2]
    clear e1 e2
    have hres : Hid (cmpI x y = 1) := by show cmpI x y = 1; unfold cmpI; rw [if_neg (by omega), if_pos (by omega)]
    clear hx hy
    go_enter Tryd.func11, Tryd.ntmps11
    go_wp2
    go_ret
    exact ⟨ret_int hres.out.symm, ((Below.refl _ _).alloc (Nat.le_refl _) _).alloc (by simp) _⟩
  · have e1 : decide (x < 0) = false := by simpa using hx
    have e2 : decide (y < 0) = false := by simpa using hy
    obtain ⟨c, hc⟩ : ∃ c, c = cmpN x.natAbs y.natAbs := ⟨_, rfl⟩
    have hb := cmpN_bd x.natAbs y.natAbs
    rw [← hc] at hb
    obtain ⟨hb1, hb2⟩ := hb
    have HC := Lib.hid hc
    clear hc
    rw [e1, e2]
    clear e1 e2
    have hres : Hid (cmpI x y = c) := by
      show cmpI x y = c
      rw [HC.out]; unfold cmpI cmpN; split <;> split <;> (try split) <;> (try split) <;> omega
    clear hx hy
    go_enter Tryd.func11, Tryd.ntmps11
    go_wp2_with (go_at_call 16; refine (size_any _ _ _ _ _ ((hd1.out.alloc _).alloc _) ((hd1'.out.alloc _).alloc _)).mono ?_; rw [← HC.out]; rintro e w' ⟨rfl, n, rfl⟩)
    go_ret
    exact ⟨ret_int hres.out.symm, below_drewN (((Below.refl _ _).alloc (Nat.le_refl _) _).alloc (by simp) _) _⟩

/-- A number that was stored into a struct's block reads there still. -/
theorem num_stored {w : World} {v : Value} {z : Int} {b : Nat} {cs : Array Value} {fr : Nat × Nat} (h : NumIs w v z) (hb : w.heap[b]? = some (.cells cs 26 fr)) (x y : Value) :
    NumIs ((w.setCell ⟨b, 0, none⟩ x).setCell ⟨b, 1, none⟩ y) v z := by
  have h1 : (w.setCell ⟨b, 0, none⟩ x).heap[b]? = some (.cells (cs.setIfInBounds 0 x) 26 fr) := by
    simp only [World.setCell, Array.getElem?_modify, if_true]
    rw [hb]; rfl
  exact h.keep (((IntKept.refl w).setCell (p := ⟨b, 0, none⟩) hb (by decide) x).setCell (p := ⟨b, 1, none⟩) h1 (by decide) y)
theorem below_stored {B : Nat} {W w : World} {b : Nat} (h : Below B W w) (hB : B ≤ b) (x y : Value) : Below B W ((w.setCell ⟨b, 0, none⟩ x).setCell ⟨b, 1, none⟩ y) :=
  (h.setCell (p := ⟨b, 0, none⟩) hB x).setCell (p := ⟨b, 1, none⟩) hB y
end Go.Proofs.YtkoihpfgleboiaaDoor
namespace Go.Proofs.YtkoihpfgleboiaaDoor
open Go.RowKit
theorem info_int : (Tryd.prog.info? 3).map (fun i => (i.zero, i.size, i.bytes)) = some (some (.int .i64 0), 1, 8) := by kernel_rfl

/-- The words of a number, the lowest first. -/
def wds : Nat → Int → List Int
  | 0, _ => []
  | k + 1, a => a % 65536 :: wds k (a / 65536)
theorem wds_len (k : Nat) (a : Int) : (wds k a).length = k := by
  induction k generalizing a with
  | zero => rfl
  | succ k ih => simp [wds, ih]
theorem wds_inR (k : Nat) (a : Int) : InR (wds k a) := by
  induction k generalizing a with
  | zero => exact InR.nil
  | succ k ih => exact InR.cons (by omega) (by omega) (ih _)
theorem val_wds (k : Nat) (a : Int) : 0 ≤ a → a < bp k → val (wds k a) = a := by
  induction k generalizing a with
  | zero => intro h0 h1; simp only [bp] at h1; simp only [wds, val]; omega
  | succ k ih => intro h0 h1; simp only [bp] at h1; simp only [wds, val]; rw [ih _ (by omega) (by omega)]; omega

theorem ints_snoc (os : List Int) (d : Int) : ints os ++ [Value.int .i64 d] = ints (os ++ [d]) := by simp [ints]

set_option maxHeartbeats 1000000 in
theorem words_any (w : World) (a0 : Int) (n : Nat) (h0 : 0 ≤ a0) (h1 : a0 ≤ 18446744073709551615) (hn : n ≤ 1000) :
    Calls Tryd.prog 30 #[.int .u64 a0, .int .i64 (n : Int)] w fun e w' => ∃ v, e = .returned v ∧ w'.ownsRow w.heap.size 3 1 v n (ints (wds n a0)) ∧ Below w.heap.size w w' := by
  obtain ⟨i0, hi, hz0, hz1, hz2⟩ := info_parts info_int
  go_enter Tryd.func30, Tryd.ntmps30
  go_wp2
  go_loopg [0, 5, 6] n (fun (g : Nat) sa sl si wx => ∃ (k : Nat) (a : Int) (os : List Int), g = n - k ∧ k ≤ n ∧ sa = .int .u64 a ∧ 0 ≤ a ∧ a ≤ 18446744073709551615 ∧ si = .int .i64 (k : Int) ∧
      wx.ownsRow w.heap.size 3 1 sl k (ints os) ∧ Below w.heap.size w wx ∧ Hid (os ++ wds (n - k) a = wds n a0))
  case atStart => exact ⟨0, a0, [], rfl, Nat.zero_le _, rfl, h0, h1, rfl, World.ownsRow_nil _ _ _ _, Below.refl _ _, rfl⟩
  case round =>
    obtain ⟨k, a, os, rfl, hk, rfl, ha0, ha1, rfl, hown, hbel, hl⟩ := hrel
    have hsz := hbel.size
    by_cases hlt : k < n
    · go_wp2_with (at_builtin; refine wpList_append_own _ rfl (.tmp 12) (.tmp 16) 24 rfl w.heap.size 3 i0 (.int .i64 0) 1 8 Tryd.underlying24 hi hz0 hz1 hz2 rfl (by decide) _ _ _ rfl (hown.alloc _) ⟨wr.heap.size, 0, none⟩ 1 1 [.int .i64 (a % 65536)] rfl rfl (cell_one_new _ _ _) (by intro u hu; simp at hu; subst hu; rfl) (by unfold maxLen; omega) (by omega) (by simp; omega) ?_; intro v' w1 hown' hgrow _)
      have hl2 : os ++ [a % 65536] ++ wds (n - (k + 1)) (a / 65536) = wds n a0 := by
        have h := hl.out
        rw [show n - k = (n - (k + 1)) + 1 by omega] at h
        rw [List.append_assoc]; exact h
      have hbel2 : Below w.heap.size w w1 := (hbel.alloc hsz _).grown hgrow (by simp; omega) (fun b hb => (hown.lt b hb).1)
      rw [ints_snoc] at hown'
      clear hgrow hown hbel hl
      go_roundg (n - (k + 1))
      case measure => omega
      case rel => exact ⟨k + 1, a / 65536, os ++ [a % 65536], rfl, by omega, rfl, by omega, by omega, by go_num, hown', hbel2, hl2⟩
    · have : k = n := by omega
      subst this
      have hl2 : os = wds k a0 := by have h := hl.out; rw [Nat.sub_self] at h; simpa [wds] using h
      rw [hl2] at hown
      clear hl hl2
      go_wp2
      go_ret
      exact ⟨_, rfl, hown, hbel⟩
end Go.Proofs.YtkoihpfgleboiaaDoor
namespace Go.Proofs.YtkoihpfgleboiaaDoor
open Go.RowKit
/-- Block b is the struct 'neg, the digits os', and the digits lie in rows of the call's own behind b. -/
def OutAt (w : World) (b : Nat) (neg : Bool) (os : List Int) (A : Option Addr) (c : Nat) : Prop :=
  w.heap[b]? = some (.cells #[.bool neg, .slice A os.length c] 26 (0, 0)) ∧ w.ownsRow (b + 1) 3 1 (.slice A os.length c) os.length (ints os)

theorem blk2 {w : World} {b : Nat} {x y : Value} {t : TypeId} (h : w.heap[b]? = some (.cells #[x, y] t (0, 0))) :
    w.cell? ⟨b, 0, none⟩ = some x ∧ w.cell? ⟨b, 1, none⟩ = some y ∧ w.frozen? ⟨b, 0, none⟩ = false ∧ w.frozen? ⟨b, 1, none⟩ = false :=
  ⟨by rw [cell_of_row w b 0 _ _ _ h]; rfl, by rw [cell_of_row w b 1 _ _ _ h]; rfl, by simp [World.frozen?, h], by simp [World.frozen?, h]⟩

theorem OutAt.digs {w : World} {b : Nat} {neg : Bool} {os : List Int} {A : Option Addr} {c : Nat} (h : OutAt w b neg os A c) : Digs w (.slice A os.length c) os := Digs.of_owns h.2

/-- Behind an append: what is in the block is there still; the new slice's shape. -/
theorem OutAt.grown {w w1 : World} {b : Nat} {neg : Bool} {os : List Int} {A : Option Addr} {c : Nat} {o : Obj} {d : Int} {v' : Value} (h : OutAt w b neg os A c)
    (hg : (w.alloc o).grownBy w1 (Value.slice A os.length c).ownBlock) (hown : w1.ownsRow (b + 1) 3 1 v' (os.length + 1) (ints os ++ [.int .i64 d])) :
    w1.heap[b]? = some (.cells #[.bool neg, .slice A os.length c] 26 (0, 0)) ∧ ∃ A' c', v' = .slice A' (os.length + 1) c' := by
  constructor
  · rw [hg.block b (by have := (Array.getElem?_eq_some_iff.1 h.1).1; simp; omega) (fun e => by have := (h.2.lt b e.symm).1; omega), Below.heap_alloc w o b (Array.getElem?_eq_some_iff.1 h.1).1]
    exact h.1
  · rcases hown.2 with ⟨_, h0⟩ | ⟨g, cap, cur, hv, _⟩
    · omega
    · exact ⟨some ⟨g, 0, none⟩, cap, hv⟩

/-- Behind the store of the new slice. -/
theorem OutAt.stored {w1 : World} {b : Nat} {neg : Bool} {os : List Int} {d : Int} {A' : Option Addr} {c' : Nat} {y : Value}
    (hb : w1.heap[b]? = some (.cells #[.bool neg, y] 26 (0, 0))) (hown : w1.ownsRow (b + 1) 3 1 (.slice A' (os.length + 1) c') (os.length + 1) (ints os ++ [.int .i64 d])) :
    OutAt (w1.setCell ⟨b, 1, none⟩ (.slice A' (os.length + 1) c')) b neg (os ++ [d]) A' c' := by
  have el : (os ++ [d]).length = os.length + 1 := by simp
  unfold OutAt
  rw [el]
  constructor
  · simp only [World.setCell, Array.getElem?_modify, if_true]
    rw [hb]; rfl
  · rw [ints_snoc] at hown
    exact ownsRow_setCell_below hown (a := ⟨b, 1, none⟩) (by show b < b + 1; omega) _
end Go.Proofs.YtkoihpfgleboiaaDoor
namespace Go.Proofs.YtkoihpfgleboiaaDoor
open Go.RowKit
/-- The number in two's complement. -/
def twos (ws : List Int) : Int := if ws.getD (ws.length - 1) 0 ≥ 32768 then val ws - bp ws.length else val ws

theorem bellowB {B : Nat} {W w1 : World} (hb : Below B W w1) : (∀ b o, b < B → w1.cell? ⟨b, o, none⟩ = W.cell? ⟨b, o, none⟩) ∧ (∀ b o, b < B → w1.frozen? ⟨b, o, none⟩ = W.frozen? ⟨b, o, none⟩) :=
  ⟨fun b o h => hb.cell (p := ⟨b, o, none⟩) h, fun b o h => hb.frozen (p := ⟨b, o, none⟩) h⟩

theorem block_kept {W w' : World} {b : Nat} {o : Obj} (hb : W.heap[b]? = some o) (hcl : Below W.heap.size W w') : w'.heap[b]? = some o :=
  (hcl.block b (Array.getElem?_eq_some_iff.1 hb).1).trans hb
theorem block_new (w : World) (o : Obj) : (w.alloc o).heap[w.heap.size]? = some o := heap_alloc_new w o
theorem block_old {w : World} {b : Nat} {x : Obj} (h : w.heap[b]? = some x) (o : Obj) : (w.alloc o).heap[b]? = some x := by
  rw [Below.heap_alloc w o b (Array.getElem?_eq_some_iff.1 h).1]; exact h
theorem block_grown {w w1 : World} {b : Nat} {x o : Obj} {row : Option Nat} (h : w.heap[b]? = some x) (hg : (w.alloc o).grownBy w1 row) (hne : some b ≠ row) : w1.heap[b]? = some x := by
  rw [hg.block b (by have := (Array.getElem?_eq_some_iff.1 h).1; simp; omega) hne, Below.heap_alloc w o b (Array.getElem?_eq_some_iff.1 h).1]
  exact h
theorem block_set {w : World} {b : Nat} {x : Obj} (h : w.heap[b]? = some x) {p : Addr} (hne : b ≠ p.block) (u : Value) : (w.setCell p u).heap[b]? = some x :=
  (Below.heap_setCell w p u b hne).trans h

set_option maxRecDepth 100000 in
set_option maxHeartbeats 4000000 in
theorem bits_any (w : World) (v : Value) (ws : List Int) (h : Digs w v ws) (hr : InR ws) (hl0 : 0 < ws.length) (hl1 : ws.length ≤ 1000) :
    Calls Tryd.prog 29 #[v] w fun e w' => ∃ u, e = .returned u ∧ NumIs w' u (twos ws) ∧ Below w.heap.size w w' := by
  obtain ⟨A, n, c, rfl⟩ := h.form
  obtain ⟨hn, hc, hm⟩ := h.len
  have hm' : n ≤ 1000 := by omega
  have hn0 : 0 < n := by omega
  obtain ⟨G, rfl, hG, hcell⟩ := h.some hn0
  have HN := Lib.hid hn
  obtain ⟨top, htop⟩ : ∃ d, d = ws.getD (n - 1) 0 := ⟨_, rfl⟩
  have hct := hcell (n - 1) (by omega)
  rw [← htop] at hct
  have HT := Lib.hid htop
  have HC := Lib.hid hcell
  have HR := Lib.hid hr
  clear h hn hm hl0 hl1 htop hcell hr
  obtain ⟨i0, hi, hz0, hz1, hz2⟩ := info_parts info_int
  by_cases ht : 32768 ≤ top
  · go_enter Tryd.func29, Tryd.ntmps29
    go_wp2
    obtain ⟨W0, hW0⟩ : ∃ W0, W0 = (w.alloc (.cells #[.bool false, .slice none 0 0] 26)).alloc (.cells #[.bool true, .slice none 0 0] 26) := ⟨_, rfl⟩
    have hres0 : W0.heap[w.heap.size]? = some (.cells #[.bool false, .slice none 0 0] 26 (0, 0)) := by rw [hW0]; exact block_old (block_new _ _) _
    have hout0 : W0.heap[w.heap.size + 1]? = some (.cells #[.bool true, .slice none 0 0] 26 (0, 0)) := by rw [hW0]; simpa using block_new (w.alloc (.cells #[.bool false, .slice none 0 0] 26)) (.cells #[.bool true, .slice none 0 0] 26)
    have hb0 : Below w.heap.size w W0 := by rw [hW0]; exact ((Below.refl _ _).alloc (Nat.le_refl _) _).alloc (by simp) _
    have hs0 : w.heap.size + 1 < W0.heap.size := by rw [hW0]; simp
    rw [← hW0]
    clear hW0
    have HRES := Lib.hid hres0
    clear hres0
    go_loopg [4, 5] n (fun g sm si wx => ∃ (k : Nat) (m : Int) (os : List Int) (A : Option Addr) (c : Nat), g = n - k ∧ k ≤ n ∧ sm = .int .i64 m ∧ 0 ≤ m ∧ m ≤ 1 ∧ si = .int .i64 (k : Int) ∧
        OutAt wx (w.heap.size + 1) true os A c ∧ Below (w.heap.size + 1) W0 wx ∧ Hid (os.length = k ∧ InR os ∧ val os + bp k * m = bp k - val (ws.take k)))
    case atStart => exact ⟨0, 1, [], none, 0, rfl, Nat.zero_le _, rfl, by decide, by decide, rfl, ⟨hout0, World.ownsRow_nil _ _ _ _⟩, Below.refl _ _, rfl, InR.nil, by simp [val, bp]⟩
    case round =>
      obtain ⟨k, m, os, A, c', rfl, hk, rfl, hm0, hm1, rfl, hout, hbel, hinv⟩ := hrel
      have hsz := hbel.size
      obtain ⟨c0, c1, f0, f1⟩ := blk2 hout.1
      have HO := Lib.hid hout
      have hol : os.length ≤ 1000 := by have := hinv.out.1; omega
      by_cases hlt : k < n
      · obtain ⟨d, hd⟩ : ∃ d, d = ws.getD k 0 := ⟨_, rfl⟩
        have hck : wr.cell? ⟨G, k, none⟩ = some (.int .i64 d) := by
          rw [(bellowB hbel).1 G k (by omega), (bellowB hb0).1 G k hG, HC.out k hlt, ← hd]
        have hdr := HR.out.getD k
        rw [← hd] at hdr
        obtain ⟨hd0, hd1⟩ := hdr
        have HD := Lib.hid hd
        clear hd hout
        go_wp2_with (at_builtin; refine wpList_append_own _ rfl (.tmp 36) (.tmp 38) 24 rfl (w.heap.size + 1 + 1) 3 i0 (.int .i64 0) 1 8 Tryd.underlying24 hi hz0 hz1 hz2 rfl (by decide) _ _ _ rfl (HO.out.2.alloc _) ⟨wr.heap.size, 0, none⟩ 1 1 [.int .i64 ((65535 - d + m) % 65536)] rfl rfl (cell_one_new _ _ _) (by intro u hu; simp at hu; subst hu; rfl) (by unfold maxLen; omega) (by omega) (by simp; omega) ?_; intro v' w1 hown' hgrow _; obtain ⟨hb1, A', c1', rfl⟩ := HO.out.grown hgrow hown'; obtain ⟨cc0, cc1, ff0, ff1⟩ := blk2 hb1)
        have hbel2 : Below (w.heap.size + 1) W0 w1 := (hbel.alloc (by omega) _).grown hgrow (by simp; omega) (fun b hb => by have := (HO.out.2.lt b hb).1; omega)
        have hnew := OutAt.stored hb1 hown'
        have hinv2 : (os ++ [(65535 - d + m) % 65536]).length = k + 1 ∧ InR (os ++ [(65535 - d + m) % 65536]) ∧ (val (os ++ [(65535 - d + m) % 65536]) + bp (k + 1) * ((65535 - d + m) / 65536) = bp (k + 1) - val (ws.take (k + 1))) := by
          obtain ⟨h1, h2, h3⟩ := hinv.out
          refine ⟨by simp [h1], h2.snoc (by omega) (by omega), ?_⟩
          rw [val_snoc, h1, val_take_succ, ← HD.out]
          simp only [bp]
          have e : (65535 - d + m) % 65536 + 65536 * ((65535 - d + m) / 65536) = 65535 - d + m := by omega
          have e2 : bp k * (65535 - d + m) = bp k * ((65535 - d + m) % 65536) + bp k * (65536 * ((65535 - d + m) / 65536)) := by rw [← Int.mul_add, e]
          simp only [Int.mul_add, Int.mul_sub] at e2 h3 ⊢
          have e3 : bp k * 65535 = 65535 * bp k := Int.mul_comm _ _
          have e4 : bp k * (65536 * ((65535 - d + m) / 65536)) = 65536 * bp k * ((65535 - d + m) / 65536) := by rw [← Int.mul_assoc, Int.mul_comm (bp k) 65536]
          omega
        clear hgrow hown' cc0 cc1 ff0 ff1 c0 c1 f0 f1 hb1
        go_roundg (n - (k + 1))
        case measure => omega
        case rel => exact ⟨k + 1, (65535 - d + m) / 65536, os ++ [(65535 - d + m) % 65536], A', c1', rfl, by omega, rfl, by omega, by omega, by go_num, hnew, hbel2.setCell (p := ⟨w.heap.size + 1, 1, none⟩) (Nat.le_refl _) _, hinv2⟩
      · have hkn : k = n := by omega
        subst hkn
        clear hout hk
        have hdig := HO.out.digs
        have hres1 : wr.heap[w.heap.size]? = some (.cells #[.bool false, .slice none 0 0] 26 (0, 0)) := (hbel.block _ (by omega)).trans HRES.out
        have hm2 : m = 0 ∨ m = 1 := by omega
        rcases hm2 with rfl | rfl
        · have hz : Hid (twos ws = if true = true then - val os else val os) := by
            obtain ⟨h1, h2, h3⟩ := hinv.out
            have e1 := HN.out
            rw [val_take_all (by omega)] at h3
            show twos ws = - val os
            unfold twos; rw [← e1, ← HT.out, if_pos ht]; omega
          go_wp2_with (go_at_call 15; refine (clean_num _ _ _ os _ hdig hinv.out.2.1 hz.out).mono ?_; rintro e w' ⟨u, rfl, ⟨A', n', c2', rfl, hdig2⟩, hbel2⟩; have hres2 := block_kept hres1 hbel2; obtain ⟨cc0, cc1, ff0, ff1⟩ := blk2 hres2)
          refine bodyPost_ret (v := .agg #[.bool (decide (twos ws < 0)), .slice A' n' c2']) (by simp [results, Tryd.results29, go_sem, cc0, cc1]) rfl ⟨_, rfl, num_stored ⟨_, _, _, rfl, hdig2⟩ hres2 _ _, ?_⟩
          exact below_stored ((hb0.trans (hbel.mono (by omega))).trans (hbel2.mono (by omega))) (by omega) _ _
        · have hz : Hid (twos ws = if true = true then - val (os ++ [1]) else val (os ++ [1])) := by
            obtain ⟨h1, h2, h3⟩ := hinv.out
            have e1 := HN.out
            rw [val_take_all (by omega)] at h3
            show twos ws = - val (os ++ [1])
            rw [val_snoc, h1]
            unfold twos; rw [← e1, ← HT.out, if_pos ht]; omega
          have hr1 : InR (os ++ [1]) := hinv.out.2.1.snoc (by decide) (by decide)
          go_wp2_with (first | (at_builtin; refine wpList_append_own _ rfl (.tmp 48) (.tmp 50) 24 rfl (w.heap.size + 1 + 1) 3 i0 (.int .i64 0) 1 8 Tryd.underlying24 hi hz0 hz1 hz2 rfl (by decide) _ _ _ rfl (HO.out.2.alloc _) ⟨wr.heap.size, 0, none⟩ 1 1 [.int .i64 1] rfl rfl (cell_one_new _ _ _) (by intro u hu; simp at hu; subst hu; rfl) (by unfold maxLen; omega) (by omega) (by simp; omega) ?_; intro v' w1 hown' hgrow _; obtain ⟨hb1, A', c1', rfl⟩ := HO.out.grown hgrow hown'; obtain ⟨cc0, cc1, ff0, ff1⟩ := blk2 hb1; have hnew := Lib.hid (OutAt.stored hb1 hown'); have hnd := hnew.out.digs; rw [List.length_append, List.length_singleton] at hnd; have hres2 := Lib.hid (block_set (block_grown hres1 hgrow (fun e => by have := (HO.out.2.lt _ e.symm).1; omega)) (p := ⟨w.heap.size + 1, 1, none⟩) (by simp) (.slice A' (os.length + 1) c1'))) | (go_at_call 15; refine (clean_num _ _ _ (os ++ [1]) _ hnd hr1 hz.out).mono ?_; rintro e w' ⟨u, rfl, ⟨A2, n', c2', rfl, hdig2⟩, hbel2⟩; have hres3 := block_kept hres2.out hbel2; obtain ⟨dd0, dd1, gg0, gg1⟩ := blk2 hres3))
          refine bodyPost_ret (v := .agg #[.bool (decide (twos ws < 0)), .slice A2 n' c2']) (by simp [results, Tryd.results29, go_sem, dd0, dd1]) rfl ⟨_, rfl, num_stored ⟨_, _, _, rfl, hdig2⟩ hres3 _ _, ?_⟩
          have hbel3 : Below (w.heap.size + 1) W0 w1 := (hbel.alloc (by omega) _).grown hgrow (by simp; omega) (fun b hb => by have := (HO.out.2.lt b hb).1; omega)
          have hbel4 := hbel3.setCell (p := ⟨w.heap.size + 1, 1, none⟩) (Nat.le_refl _) (.slice A' (os.length + 1) c1')
          exact below_stored ((hb0.trans (hbel4.mono (by omega))).trans (hbel2.mono (by have := hbel4.size; omega))) (by omega) _ _

  · go_enter Tryd.func29, Tryd.ntmps29
    go_wp2
    obtain ⟨W0, hW0⟩ : ∃ W0, W0 = (w.alloc (.cells #[.bool false, .slice none 0 0] 26)).alloc (.cells #[.bool false, .slice none 0 0] 26) := ⟨_, rfl⟩
    have hres0 : W0.heap[w.heap.size]? = some (.cells #[.bool false, .slice none 0 0] 26 (0, 0)) := by rw [hW0]; exact block_old (block_new _ _) _
    have hout0 : W0.heap[w.heap.size + 1]? = some (.cells #[.bool false, .slice none 0 0] 26 (0, 0)) := by rw [hW0]; simpa using block_new (w.alloc (.cells #[.bool false, .slice none 0 0] 26)) (.cells #[.bool false, .slice none 0 0] 26)
    have hb0 : Below w.heap.size w W0 := by rw [hW0]; exact ((Below.refl _ _).alloc (Nat.le_refl _) _).alloc (by simp) _
    have hs0 : w.heap.size + 1 < W0.heap.size := by rw [hW0]; simp
    rw [← hW0]
    clear hW0
    have HRES := Lib.hid hres0
    clear hres0
    go_loopg [4, 5] n (fun g sm si wx => ∃ (k : Nat) (m : Int) (os : List Int) (A : Option Addr) (c : Nat), g = n - k ∧ k ≤ n ∧ sm = .int .i64 m ∧ 0 ≤ m ∧ m ≤ 1 ∧ si = .int .i64 (k : Int) ∧
        OutAt wx (w.heap.size + 1) false os A c ∧ Below (w.heap.size + 1) W0 wx ∧ Hid (os.length = k ∧ InR os ∧ m = 1 ∧ val os = val (ws.take k)))
    case atStart => exact ⟨0, 1, [], none, 0, rfl, Nat.zero_le _, rfl, by decide, by decide, rfl, ⟨hout0, World.ownsRow_nil _ _ _ _⟩, Below.refl _ _, rfl, InR.nil, by simp [val]⟩
    case round =>
      obtain ⟨k, m, os, A, c', rfl, hk, rfl, hm0, hm1, rfl, hout, hbel, hinv⟩ := hrel
      have hsz := hbel.size
      obtain ⟨c0, c1, f0, f1⟩ := blk2 hout.1
      have HO := Lib.hid hout
      have hol : os.length ≤ 1000 := by have := hinv.out.1; omega
      by_cases hlt : k < n
      · obtain ⟨d, hd⟩ : ∃ d, d = ws.getD k 0 := ⟨_, rfl⟩
        have hck : wr.cell? ⟨G, k, none⟩ = some (.int .i64 d) := by
          rw [(bellowB hbel).1 G k (by omega), (bellowB hb0).1 G k hG, HC.out k hlt, ← hd]
        have hdr := HR.out.getD k
        rw [← hd] at hdr
        obtain ⟨hd0, hd1⟩ := hdr
        have HD := Lib.hid hd
        clear hd hout
        go_wp2_with (at_builtin; refine wpList_append_own _ rfl (.tmp 36) (.tmp 38) 24 rfl (w.heap.size + 1 + 1) 3 i0 (.int .i64 0) 1 8 Tryd.underlying24 hi hz0 hz1 hz2 rfl (by decide) _ _ _ rfl (HO.out.2.alloc _) ⟨wr.heap.size, 0, none⟩ 1 1 [.int .i64 (d)] rfl rfl (cell_one_new _ _ _) (by intro u hu; simp at hu; subst hu; rfl) (by unfold maxLen; omega) (by omega) (by simp; omega) ?_; intro v' w1 hown' hgrow _; obtain ⟨hb1, A', c1', rfl⟩ := HO.out.grown hgrow hown'; obtain ⟨cc0, cc1, ff0, ff1⟩ := blk2 hb1)
        have hbel2 : Below (w.heap.size + 1) W0 w1 := (hbel.alloc (by omega) _).grown hgrow (by simp; omega) (fun b hb => by have := (HO.out.2.lt b hb).1; omega)
        have hnew := OutAt.stored hb1 hown'
        have hinv2 : (os ++ [d]).length = k + 1 ∧ InR (os ++ [d]) ∧ (m = 1 ∧ val (os ++ [d]) = val (ws.take (k + 1))) := by
          obtain ⟨h1, h2, h3⟩ := hinv.out
          refine ⟨by simp [h1], h2.snoc (by omega) (by omega), ?_⟩
          rw [val_snoc, h1, val_take_succ, ← HD.out]
          have e3 : m = 1 := by have := h3.1; omega
          subst e3
          obtain ⟨_, h3⟩ := h3
          omega
        clear hgrow hown' cc0 cc1 ff0 ff1 c0 c1 f0 f1 hb1
        go_roundg (n - (k + 1))
        case measure => omega
        case rel => exact ⟨k + 1, m, os ++ [d], A', c1', rfl, by omega, rfl, by omega, by omega, by go_num, hnew, hbel2.setCell (p := ⟨w.heap.size + 1, 1, none⟩) (Nat.le_refl _) _, hinv2⟩
      · have hkn : k = n := by omega
        subst hkn
        clear hout hk
        have hdig := HO.out.digs
        have hres1 : wr.heap[w.heap.size]? = some (.cells #[.bool false, .slice none 0 0] 26 (0, 0)) := (hbel.block _ (by omega)).trans HRES.out
        have hz : Hid (twos ws = if false = true then - val os else val os) := by
          obtain ⟨h1, h2, h3, h4⟩ := hinv.out
          have e1 := HN.out
          rw [val_take_all (by omega)] at h4
          show twos ws = val os
          unfold twos; rw [← e1, ← HT.out, if_neg (by omega)]; omega
        go_wp2_with (go_at_call 15; refine (clean_num _ _ _ os _ hdig hinv.out.2.1 hz.out).mono ?_; rintro e w' ⟨u, rfl, ⟨A', n', c2', rfl, hdig2⟩, hbel2⟩; have hres2 := block_kept hres1 hbel2; obtain ⟨cc0, cc1, ff0, ff1⟩ := blk2 hres2)
        refine bodyPost_ret (v := .agg #[.bool (decide (twos ws < 0)), .slice A' n' c2']) (by simp [results, Tryd.results29, go_sem, cc0, cc1]) rfl ⟨_, rfl, num_stored ⟨_, _, _, rfl, hdig2⟩ hres2 _ _, ?_⟩
        exact below_stored ((hb0.trans (hbel.mono (by omega))).trans (hbel2.mono (by omega))) (by omega) _ _

end Go.Proofs.YtkoihpfgleboiaaDoor
namespace Go.Proofs.YtkoihpfgleboiaaDoor
open Go.RowKit
theorem add64 (x y c : Int) (hx : 0 ≤ x) (hy : 0 ≤ y) (_hx1 : x ≤ 18446744073709551615) (_hy1 : y ≤ 18446744073709551615) (hc0 : 0 ≤ c) (hc : c ≤ 1) (w : World) : (callFunc 32 #[.int .u64 x, .int .u64 y, .int .u64 c]).run Tryd.prog w =
    .ok (.value (.tuple #[.int .u64 ((x + y + c) % 18446744073709551616), .int .u64 ((x + y + c) / 18446744073709551616)])) w := by
  rw [run_callFunc_extern Tryd.func32 (by kernel_rfl) (by kernel_rfl) (by kernel_rfl) (e := add64Entry) (by kernel_rfl), run_add64 x y c hx hy hc0 hc]
  rfl
def bor (x y : Int) : Int := if x < y then 1 else 0
theorem bor_01 (x y : Int) : 0 ≤ bor x y ∧ bor x y ≤ 1 := by unfold bor; split <;> decide
theorem sub64 (x y b : Int) (hx : 0 ≤ x) (hy : 0 ≤ y) (hx1 : x ≤ 18446744073709551615) (hy1 : y ≤ 18446744073709551615) (hb0 : 0 ≤ b) (hb : b ≤ 1) (w : World) : (callFunc 75 #[.int .u64 x, .int .u64 y, .int .u64 b]).run Tryd.prog w =
    .ok (.value (.tuple #[.int .u64 ((x - y - b) % 18446744073709551616), .int .u64 (bor x (y + b))])) w := by
  obtain ⟨x, rfl⟩ := Int.eq_ofNat_of_zero_le hx
  obtain ⟨y, rfl⟩ := Int.eq_ofNat_of_zero_le hy
  obtain ⟨b, rfl⟩ := Int.eq_ofNat_of_zero_le hb0
  have e1 : (((x + 18446744073709551616 - y - b) % 18446744073709551616 : Nat) : Int) = ((x : Int) - y - b) % 18446744073709551616 := by omega
  have e2 : ((if x < y + b then 1 else 0 : Nat) : Int) = bor x (y + b) := by unfold bor; split <;> split <;> omega
  rw [run_callFunc_extern Tryd.func75 (by kernel_rfl) (by kernel_rfl) (by kernel_rfl) (e := sub64Entry) (by kernel_rfl), run_sub64 x y b (by omega)]
  simp only [Result.andThen]
  rw [e1, e2]
theorem mul64 (x y : Int) (hx : 0 ≤ x) (hy : 0 ≤ y) (hx1 : x ≤ 18446744073709551615) (hy1 : y ≤ 18446744073709551615) (w : World) :
    Calls Tryd.prog 42 #[.int .u64 x, .int .u64 y] w fun e w' => e = .returned (.tuple #[.int .u64 (x * y / 18446744073709551616), .int .u64 (x * y % 18446744073709551616)]) ∧ w = w' := by
  obtain ⟨x, rfl⟩ := Int.eq_ofNat_of_zero_le hx
  obtain ⟨y, rfl⟩ := Int.eq_ofNat_of_zero_le hy
  exact (Tryd.bits_Mul64 x y (by omega) (by omega) w).mono fun e w' ⟨he, hw⟩ => ⟨by rw [he]; exact ret_two (by simp) (by simp), hw.symm⟩

/-- The low and the high word of a difference, of a sum; the number of two words; its range. -/
def wv (h l : Int) : Int := 18446744073709551616 * h + l
def WOk (h l : Int) : Prop := -9223372036854775808 ≤ h ∧ h ≤ 9223372036854775807 ∧ 0 ≤ l ∧ l ≤ 18446744073709551615
/-- A number brought to 128 bits. -/
def w128 (n : Int) : Int := (n + 170141183460469231731687303715884105728) % 340282366920938463463374607431768211456 - 170141183460469231731687303715884105728
theorem i64_wrap (n : Int) : IntKind.i64.wrap n = (n + 9223372036854775808) % 18446744073709551616 - 9223372036854775808 := IntKind.wrap_i64 n

set_option maxRecDepth 100000 in
set_option maxHeartbeats 1000000 in
theorem part_any (w : World) (a b c d : Int) (h1 : WOk a b) (h2 : WOk c d) :
    Calls Tryd.prog 66 #[.agg #[.int .i64 a, .int .u64 b], .agg #[.int .i64 c, .int .u64 d]] w fun e w' =>
      ∃ h l, e = .returned (.agg #[.int .i64 h, .int .u64 l]) ∧ Hid (WOk h l ∧ wv h l = w128 (wv a b - wv c d)) ∧ Below w.heap.size w w' := by
  obtain ⟨a0, a1, b0, b1⟩ := h1
  obtain ⟨c0, c1, d0, d1⟩ := h2
  obtain ⟨ua, hua⟩ : ∃ x, x = a % 18446744073709551616 := ⟨_, rfl⟩
  obtain ⟨uc, huc⟩ : ∃ x, x = c % 18446744073709551616 := ⟨_, rfl⟩
  have wa : IntKind.u64.wrap a = ua := by rw [u64_wrap, hua]
  have wc : IntKind.u64.wrap c = uc := by rw [u64_wrap, huc]
  obtain ⟨l, hl⟩ : ∃ x, x = (b - d) % 18446744073709551616 := ⟨_, rfl⟩
  obtain ⟨br, hbr⟩ : ∃ x, x = bor b d := ⟨_, rfl⟩
  have hbr2 : 0 ≤ br ∧ br ≤ 1 := by rw [hbr]; exact bor_01 b d
  obtain ⟨br0, br1⟩ := hbr2
  obtain ⟨hx, hhx⟩ : ∃ x, x = (ua - uc - br) % 18446744073709551616 := ⟨_, rfl⟩
  obtain ⟨bx, hbx⟩ : ∃ x, x = bor ua (uc + br) := ⟨_, rfl⟩
  obtain ⟨h, hh⟩ : ∃ x, x = (hx + 9223372036854775808) % 18446744073709551616 - 9223372036854775808 := ⟨_, rfl⟩
  have wh : IntKind.i64.wrap hx = h := by rw [i64_wrap, hh]
  have s0 : ∀ w, (callFunc 75 #[.int .u64 b, .int .u64 d, .int .u64 0]).run Tryd.prog w = .ok (.value (.tuple #[.int .u64 l, .int .u64 br])) w := by
    intro w
    have := sub64 b d 0 b0 d0 b1 d1 (by decide) (by decide) w
    rw [show b - d - 0 = b - d by omega, show d + 0 = d by omega, ← hl, ← hbr] at this
    exact this
  have s1 : ∀ w, (callFunc 75 #[.int .u64 ua, .int .u64 uc, .int .u64 br]).run Tryd.prog w = .ok (.value (.tuple #[.int .u64 hx, .int .u64 bx])) w := by
    intro w
    have := sub64 ua uc br (by omega) (by omega) (by omega) (by omega) br0 br1 w
    rw [← hhx, ← hbx] at this
    exact this
  have hx0 : 0 ≤ hx := by omega
  have hx1 : hx ≤ 18446744073709551615 := by omega
  have spec : Hid (WOk h l ∧ wv h l = w128 (wv a b - wv c d)) := by
    show _ ∧ _
    have hbc : (b < d ∧ br = 1) ∨ (¬ b < d ∧ br = 0) := by rw [hbr]; unfold bor; by_cases h : b < d <;> simp [h]
    unfold WOk wv w128
    omega
  clear hbr hbx hl hhx hh hua huc
  go_enter Tryd.func66, Tryd.ntmps66
  go_wp2_with (first | simp only [s0] | simp only [s1])
  refine bodyPost_ret (v := .agg #[.int .i64 h, .int .u64 l]) (by simp [results, Tryd.results66, go_sem]) rfl ⟨_, _, rfl, spec, ?_⟩
  exact ((((Below.refl _ _).alloc (Nat.le_refl _) _).alloc (by simp) _).alloc (by simp; omega) _)

end Go.Proofs.YtkoihpfgleboiaaDoor
namespace Go.Proofs.YtkoihpfgleboiaaDoor
open Go.RowKit
set_option maxRecDepth 100000 in
set_option maxHeartbeats 1000000 in
theorem of_any (w : World) (a h l : Int) (_a0 : -9223372036854775808 ≤ a) (_a1 : a ≤ 9223372036854775807) (hh : a / 9223372036854775808 = h) (hl : a % 18446744073709551616 = l) :
    Calls Tryd.prog 58 #[.int .i64 a] w fun e w' => e = .returned (.agg #[.int .i64 h, .int .u64 l]) ∧ Below w.heap.size w w' := by
  have wl : IntKind.u64.wrap a = l := by rw [u64_wrap, hl]
  clear hl
  go_enter Tryd.func58, Tryd.ntmps58
  go_wp2
  refine bodyPost_ret (v := .agg #[.int .i64 h, .int .u64 l]) (by simp [results, Tryd.results58, go_sem]) rfl ⟨rfl, ?_⟩
  exact (Below.refl _ _).alloc (Nat.le_refl _) _
/-- Two words of a distance. -/
def SOk (p q : Int) : Prop := 0 ≤ p ∧ p ≤ 18446744073709551615 ∧ 0 ≤ q ∧ q ≤ 18446744073709551615

end Go.Proofs.YtkoihpfgleboiaaDoor
namespace Go.Proofs.YtkoihpfgleboiaaDoor
open Go.RowKit
theorem twos4 (a : Int) (h0 : -9223372036854775808 ≤ a) (h1 : a ≤ 9223372036854775807) : twos (wds 4 (a % 18446744073709551616)) = a := by
  unfold twos
  rw [wds_len, val_wds 4 _ (by omega) (by simp only [bp]; omega)]
  simp only [wds, bp, List.getD_cons_succ, List.getD_cons_zero]
  split <;> omega
theorem twos8 (hi lo : Int) (h0 : -9223372036854775808 ≤ hi) (h1 : hi ≤ 9223372036854775807) (h2 : 0 ≤ lo) (h3 : lo ≤ 18446744073709551615) :
    twos (wds 4 lo ++ wds 4 (hi % 18446744073709551616)) = 18446744073709551616 * hi + lo := by
  unfold twos
  rw [List.length_append, wds_len, wds_len, val_append, wds_len, val_wds 4 _ h2 (by simp only [bp]; omega), val_wds 4 _ (by omega) (by simp only [bp]; omega)]
  simp only [wds, bp, List.cons_append, List.nil_append, List.getD_cons_succ, List.getD_cons_zero]
  split <;> omega

theorem owns_form {w : World} {base : Nat} {e : TypeId} {v : Value} {n : Nat} {xs : List Value} (h : w.ownsRow base e 1 v n xs) (hn : 0 < n) :
    ∃ g c, v = .slice (some ⟨g, 0, none⟩) n c ∧ base ≤ g ∧ g < w.heap.size := by
  rcases h.2 with ⟨_, h0⟩ | ⟨g, cap, cur, hv, hb, hg, _⟩
  · omega
  · exact ⟨g, cap, hv, hb, (Array.getElem?_eq_some_iff.1 hg).1⟩

set_option maxRecDepth 100000 in
set_option maxHeartbeats 1000000 in
theorem narrow_any (w : World) (a : Int) (h0 : -9223372036854775808 ≤ a) (h1 : a ≤ 9223372036854775807) :
    Calls Tryd.prog 18 #[.int .i64 a] w fun e w' => ∃ u, e = .returned u ∧ NumIs w' u a ∧ Below w.heap.size w w' := by
  have ht := Lib.hid (twos4 a h0 h1)
  go_enter Tryd.func18, Tryd.ntmps18
  go_wp2_with (first | (go_at_call 30; refine (words_any _ (a % 18446744073709551616) 4 (by omega) (by omega) (by decide)).mono ?_; rintro e w' ⟨v, rfl, hown, hbel⟩; have hd := Digs.of_owns hown) | (go_at_call 29; refine (bits_any _ _ _ hd (wds_inR _ _) (by rw [wds_len]; decide) (by rw [wds_len]; decide)).mono ?_; rw [ht.out]; rintro e w2 ⟨u, rfl, ⟨A2, n2, c2, rfl, hdig2⟩, hbel2⟩; have hres := block_kept (block_kept (block_new w _) hbel) hbel2; obtain ⟨dd0, dd1, gg0, gg1⟩ := blk2 hres))
  refine bodyPost_ret (v := .agg #[.bool (decide (a < 0)), .slice A2 n2 c2]) (by simp [results, Tryd.results18, go_sem, dd0, dd1]) rfl ⟨_, rfl, num_stored ⟨_, _, _, rfl, hdig2⟩ hres _ _, ?_⟩
  exact below_stored ((((Below.refl _ _).alloc (Nat.le_refl _) _).trans (hbel.mono (by simp))).trans (hbel2.mono (by have := hbel.size; simp at this; omega))) (Nat.le_refl _) _ _

theorem ints_len (ds : List Int) : (ints ds).length = ds.length := by simp [ints]
theorem ints_one (ds : List Int) : ∀ u ∈ ints ds, u.oneCell' = true := by
  intro u hu
  simp only [ints, List.mem_map] at hu
  obtain ⟨d, _, rfl⟩ := hu
  rfl
theorem ints_append (a b : List Int) : ints a ++ ints b = ints (a ++ b) := by simp [ints]
set_option maxRecDepth 100000 in
set_option maxHeartbeats 1000000 in
theorem wide_any (w : World) (a b : Int) (h0 : -9223372036854775808 ≤ a) (h1 : a ≤ 9223372036854775807) (h2 : 0 ≤ b) (h3 : b ≤ 18446744073709551615) :
    Calls Tryd.prog 25 #[.int .i64 a, .int .u64 b] w fun e w' => ∃ u, e = .returned u ∧ NumIs w' u (18446744073709551616 * a + b) ∧ Below w.heap.size w w' := by
  have ht := Lib.hid (twos8 a b h0 h1 h2 h3)
  obtain ⟨z, hz⟩ : ∃ z, z = 18446744073709551616 * a + b := ⟨_, rfl⟩
  rw [← hz] at ht ⊢
  clear hz
  obtain ⟨i0, hi, hz0, hz1, hz2⟩ := info_parts info_int
  go_enter Tryd.func25, Tryd.ntmps25
  go_wp2_with fail
  refine (words_any _ b 4 (by omega) (by omega) (by decide)).mono ?_
  rintro e w1 ⟨v, rfl, hown, hbel⟩
  have hsz0 : (w.alloc (.cells #[.bool false, .slice none 0 0] 26)).heap.size = w.heap.size + 1 := by simp
  rw [hsz0] at hown
  go_wp2_with fail
  refine (words_any _ (a % 18446744073709551616) 4 (by omega) (by omega) (by decide)).mono ?_
  rintro e w2 ⟨v', rfl, hown', hbel'⟩
  have hs1 : w.heap.size + 1 ≤ w1.heap.size := by rw [← hsz0]; exact hbel.size
  have hs2 := hbel'.size
  have hown2 : w2.ownsRow (w.heap.size + 1) 3 1 v 4 (ints (wds 4 b)) := by
    refine (hown.kept (row := none) ⟨hbel'.os, hbel'.tape, hbel'.output, hbel'.size, fun k hk _ => hbel'.block k hk⟩ ?_)
    cases hv : v.ownBlock <;> simp
  obtain ⟨g, c, rfl, hg0, hg1⟩ := owns_form hown' (by decide)
  have hcells : ∀ j u, (ints (wds 4 (a % 18446744073709551616)))[j]? = some u → w2.cell? ((⟨g, 0, none⟩ : Addr).add j) = some u := hown'.cells (g := g) rfl
  have HC := Lib.hid hcells
  have HO := Lib.hid hown2
  have hol := (hown2.lt)
  have HL := Lib.hid hol
  have hblk := Lib.hid (block_kept (block_kept (block_new w (.cells #[.bool false, .slice none 0 0] 26)) hbel) hbel')
  clear hcells hown hown' hown2 hol
  go_wp2_with (first | (at_builtin; refine wpList_append_own _ rfl (.tmp 6) (.tmp 9) 24 rfl (w.heap.size + 1) 3 i0 (.int .i64 0) 1 8 Tryd.underlying24 hi hz0 hz1 hz2 rfl (by decide) _ _ _ rfl HO.out ⟨g, 0, none⟩ 4 c _ rfl (by rw [ints_len, wds_len]) HC.out (ints_one _) (by decide) (by decide) (by omega) ?_; intro v3 w3 hown3 hgrow _; rw [ints_append] at hown3; have hd := Digs.of_owns hown3; have hb3 := Lib.hid (hgrow.block w.heap.size (by omega) (fun e => by have := (HL.out _ e.symm).1; omega))) | (go_at_call 29; refine (bits_any _ _ _ hd ((wds_inR _ _).append (wds_inR _ _)) (by simp [wds_len]) (by simp [wds_len])).mono ?_; rw [ht.out]; rintro e w4 ⟨u, rfl, ⟨A2, n2, c2, rfl, hdig2⟩, hbel2⟩; have hres := block_kept (hb3.out.trans hblk.out) hbel2; obtain ⟨dd0, dd1, gg0, gg1⟩ := blk2 hres))
  refine bodyPost_ret (v := .agg #[.bool (decide (z < 0)), .slice A2 n2 c2]) (by simp [results, Tryd.results25, go_sem, dd0, dd1]) rfl ⟨_, rfl, num_stored ⟨_, _, _, rfl, hdig2⟩ hres _ _, ?_⟩
  have k1 : Below w.heap.size w w2 := (((Below.refl _ _).alloc (Nat.le_refl _) _).trans (hbel.mono (by simp))).trans (hbel'.mono (by omega))
  have k2 : Below w.heap.size w w3 := k1.grown hgrow (by omega) (fun b hb => by have := (HL.out b hb).1; omega)
  exact below_stored (k2.trans (hbel2.mono k2.size)) (Nat.le_refl _) _ _
end Go.Proofs.YtkoihpfgleboiaaDoor
namespace Go.Proofs.YtkoihpfgleboiaaDoor
open Go.RowKit
theorem small_dig (w : World) (o1 o2 : Obj) (d0 d1 d2 : Int) :
    Digs (((w.alloc o1).alloc o2).alloc (.cells #[.int .i64 d0, .int .i64 d1, .int .i64 d2] 3)) (.slice (some ⟨w.heap.size + 1 + 1, 0, none⟩) 3 3) [d0, d1, d2] := by
  have h := block_new ((w.alloc o1).alloc o2) (.cells #[.int .i64 d0, .int .i64 d1, .int .i64 d2] 3)
  rw [show ((w.alloc o1).alloc o2).heap.size = w.heap.size + 1 + 1 by simp] at h
  exact Digs.of_row (ds := [d0, d1, d2]) h (by simp [ints]) (Nat.le_refl _) (by decide)

set_option maxRecDepth 100000 in
set_option maxHeartbeats 1000000 in
theorem small_any (w : World) (a : Int) (h0 : -1000000 ≤ a) (h1 : a ≤ 1000000) :
    Calls Tryd.prog 23 #[.int .i64 a] w fun e w' => ∃ u, e = .returned u ∧ NumIs w' u a ∧ Below w.heap.size w w' := by
  by_cases hs : a < 0
  · obtain ⟨p, hp⟩ : ∃ p, a = -p := ⟨-a, by omega⟩
    subst hp
    have hp0 : 0 ≤ p := by omega
    have hp1 : p ≤ 1000000 := by omega
    go_enter Tryd.func23, Tryd.ntmps23
    go_wp2_with fail
    refine (clean_num _ _ _ [p % 65536, p / 65536 % 65536, p / 65536 / 65536] (-p) (small_dig _ _ _ _ _ _) (InR.cons (by omega) (by omega) (InR.cons (by omega) (by omega) (InR.cons (by omega) (by omega) InR.nil))) (by show (-p : Int) = - val _; simp only [val]; omega)).mono ?_
    rintro e w2 ⟨u, rfl, ⟨A2, n2, c2, rfl, hdig2⟩, hbel2⟩
    have hres := block_kept (block_old (block_old (block_new w (.cells #[.bool false, .slice none 0 0] 26)) _) _) hbel2
    obtain ⟨dd0, dd1, gg0, gg1⟩ := blk2 hres
    have HD := Lib.hid hdig2
    clear hdig2
    obtain ⟨bz, hbz⟩ : ∃ b, b = decide (-p < 0) := ⟨_, rfl⟩
    rw [← hbz]
    have HB := Lib.hid hbz
    clear hbz
    go_wp2
    refine bodyPost_ret (v := .agg #[.bool bz, .slice A2 n2 c2]) (by simp [results, Tryd.results23, go_sem, dd0, dd1]) rfl ⟨_, rfl, num_stored ⟨_, _, _, by rw [HB.out], HD.out⟩ hres _ _, ?_⟩
    exact below_stored (((((Below.refl _ _).alloc (Nat.le_refl _) _).alloc (by simp) _).alloc (by simp; omega) _).trans (hbel2.mono (by simp; omega))) (Nat.le_refl _) _ _
  · go_enter Tryd.func23, Tryd.ntmps23
    go_wp2_with fail
    refine (clean_num _ _ _ [a % 65536, a / 65536 % 65536, a / 65536 / 65536] a (small_dig _ _ _ _ _ _) (InR.cons (by omega) (by omega) (InR.cons (by omega) (by omega) (InR.cons (by omega) (by omega) InR.nil))) (by show (a : Int) = val _; simp only [val]; omega)).mono ?_
    rintro e w2 ⟨u, rfl, ⟨A2, n2, c2, rfl, hdig2⟩, hbel2⟩
    have hres := block_kept (block_old (block_old (block_new w (.cells #[.bool false, .slice none 0 0] 26)) _) _) hbel2
    obtain ⟨dd0, dd1, gg0, gg1⟩ := blk2 hres
    have HD := Lib.hid hdig2
    clear hdig2
    obtain ⟨bz, hbz⟩ : ∃ b, b = decide (a < 0) := ⟨_, rfl⟩
    rw [← hbz]
    have HB := Lib.hid hbz
    clear hbz
    go_wp2
    refine bodyPost_ret (v := .agg #[.bool bz, .slice A2 n2 c2]) (by simp [results, Tryd.results23, go_sem, dd0, dd1]) rfl ⟨_, rfl, num_stored ⟨_, _, _, by rw [HB.out], HD.out⟩ hres _ _, ?_⟩
    exact below_stored (((((Below.refl _ _).alloc (Nat.le_refl _) _).alloc (by simp) _).alloc (by simp; omega) _).trans (hbel2.mono (by simp; omega))) (Nat.le_refl _) _ _
end Go.Proofs.YtkoihpfgleboiaaDoor
namespace Go.Proofs.YtkoihpfgleboiaaDoor
open Go.RowKit
set_option maxHeartbeats 400000 in
theorem at_any (w : World) (v : Value) (ds : List Int) (i : Nat) (h : Digs w v ds) :
    Calls Tryd.prog 14 #[v, .int .i64 (i : Int)] w fun e w' => e = .returned (.int .i64 (ds.getD i 0)) ∧ w = w' := by
  obtain ⟨A, n, c, rfl⟩ : ∃ A n c, v = .slice A n c := by obtain ⟨A, c, hv, _⟩ := h; exact ⟨A, _, c, hv⟩
  obtain ⟨hn, hc, hm⟩ := h.len
  by_cases hlt : i < n
  · obtain ⟨g, rfl, _, hcell⟩ := h.some (by omega)
    have hci := hcell i hlt
    clear h hn hcell
    unfold maxLen at hm
    go_enter Tryd.func14, Tryd.ntmps14
    go_wp2
    go_ret
    exact ⟨rfl, rfl⟩
  · have e : ds.getD i 0 = 0 := by rw [List.getD_eq_getElem?_getD, List.getElem?_eq_none (by omega)]; rfl
    rw [e]
    clear h hn e
    go_enter Tryd.func14, Tryd.ntmps14
    go_wp2
    go_ret
    exact ⟨rfl, rfl⟩
end Go.Proofs.YtkoihpfgleboiaaDoor
namespace Go.Proofs.YtkoihpfgleboiaaDoor
open Go.RowKit
theorem at_is {w : World} {v : Value} {ds : List Int} (h : Digs w v ds) (i : Nat) {d : Int} (hd : Hid (d = ds.getD i 0)) :
    Calls Tryd.prog 14 #[v, .int .i64 (i : Int)] w fun e w' => e = .returned (.int .i64 d) ∧ w' = w :=
  (at_any w v ds i h).mono fun _ _ ⟨he, hw⟩ => ⟨by rw [he, hd.out], hw.symm⟩

theorem OutAt.drewN {w : World} {b : Nat} {neg : Bool} {os : List Int} {A : Option Addr} {c : Nat} (h : OutAt w b neg os A c) (n : Nat) : OutAt (w.drewN n) b neg os A c := h

/-- Few enough digits. -/
def Few (x : Int) : Prop := (digs x.natAbs).length ≤ 1000

end Go.Proofs.YtkoihpfgleboiaaDoor
namespace Go.Proofs.YtkoihpfgleboiaaDoor
open Go.RowKit
/-- Three new blocks, and draws. -/
theorem three_new (w : World) (o1 o2 o3 : Obj) (n : Nat) :
    ((((w.alloc o1).alloc o2).alloc o3).drewN n).heap[w.heap.size]? = some o1 ∧ ((((w.alloc o1).alloc o2).alloc o3).drewN n).heap[w.heap.size + 1]? = some o2 ∧
    ((((w.alloc o1).alloc o2).alloc o3).drewN n).heap[w.heap.size + 1 + 1]? = some o3 ∧ ((((w.alloc o1).alloc o2).alloc o3).drewN n).heap.size = w.heap.size + 1 + 1 + 1 ∧
    Below w.heap.size w ((((w.alloc o1).alloc o2).alloc o3).drewN n) ∧ True := by
  have e1 : (w.alloc o1).heap.size = w.heap.size + 1 := by simp
  have e2 : ((w.alloc o1).alloc o2).heap.size = w.heap.size + 1 + 1 := by simp
  refine ⟨?_, ?_, ?_, ?_, ?_, trivial⟩
  · show (((w.alloc o1).alloc o2).alloc o3).heap[w.heap.size]? = some o1
    exact block_old (block_old (block_new _ _) _) _
  · show (((w.alloc o1).alloc o2).alloc o3).heap[w.heap.size + 1]? = some o2
    rw [← e1]; exact block_old (block_new _ _) _
  · show (((w.alloc o1).alloc o2).alloc o3).heap[w.heap.size + 1 + 1]? = some o3
    rw [← e2]; exact block_new _ _
  · show (((w.alloc o1).alloc o2).alloc o3).heap.size = _
    simp
  · exact below_drewN ((((Below.refl _ _).alloc (Nat.le_refl _) _).alloc (by simp) _).alloc (by simp; omega) _) _
theorem blk_store2 {w : World} {b : Nat} {x y : Value} {t : TypeId} (h : w.heap[b]? = some (.cells #[x, y] t (0, 0))) (u v : Value) :
    ((w.setCell ⟨b, 0, none⟩ u).setCell ⟨b, 1, none⟩ v).heap[b]? = some (.cells #[u, v] t (0, 0)) := by
  have h1 : (w.setCell ⟨b, 0, none⟩ u).heap[b]? = some (.cells #[u, y] t (0, 0)) := by
    simp only [World.setCell, Array.getElem?_modify, if_true]; rw [h]; rfl
  simp only [World.setCell, Array.getElem?_modify, if_true] at h1 ⊢
  rw [h1]; rfl
end Go.Proofs.YtkoihpfgleboiaaDoor
namespace Go.Proofs.YtkoihpfgleboiaaDoor
open Go.RowKit
end Go.Proofs.YtkoihpfgleboiaaDoor
namespace Go.Proofs.YtkoihpfgleboiaaDoor
open Go.RowKit
/-- What signed must tell of the distance n, above or below nought. -/
def Signed (n : Int) (b : Bool) (h l er : Int) : Prop :=
  (-170141183460469231731687303715884105728 ≤ (if b then -n else n) ∧ (if b then -n else n) < 170141183460469231731687303715884105728 ∧ er = 0 ∧ WOk h l ∧ wv h l = (if b then -n else n)) ∨
  (¬ (-170141183460469231731687303715884105728 ≤ (if b then -n else n) ∧ (if b then -n else n) < 170141183460469231731687303715884105728) ∧ er = 4 ∧ h = 0 ∧ l = 0)

set_option maxRecDepth 100000 in
set_option maxHeartbeats 2000000 in
theorem signed_any (w : World) (p q : Int) (b : Bool) (k : SOk p q) :
    Calls Tryd.prog 57 #[.agg #[.int .u64 p, .int .u64 q], .bool b] w fun e w' => ∃ h l er, e = .returned (.tuple #[.agg #[.int .i64 h, .int .u64 l], .int .i64 er]) ∧
      Hid (Signed (wv p q) b h l er) ∧ Below w.heap.size w w' := by
  obtain ⟨k0, k1, k2, k3⟩ := k
  obtain ⟨ip, hip⟩ : ∃ x, x = (p + 9223372036854775808) % 18446744073709551616 - 9223372036854775808 := ⟨_, rfl⟩
  have wi : IntKind.i64.wrap p = ip := by rw [i64_wrap, hip]
  have HIP := Lib.hid hip
  have i0 : -9223372036854775808 ≤ ip := by omega
  have i1 : ip ≤ 9223372036854775807 := by omega
  have e1 : (w.alloc (.cells #[.int .u64 p, .int .u64 q] 91)).heap.size = w.heap.size + 1 := by simp
  have e2 : ((w.alloc (.cells #[.int .u64 p, .int .u64 q] 91)).alloc (.cells #[.int .i64 0, .int .u64 0] 35)).heap.size = w.heap.size + 1 + 1 := by simp
  have E1 := Lib.hid e1
  have E2 := Lib.hid e2
  clear hip e1 e2
  cases b
  · rcases (by omega : (0 = ip ∧ 0 = q) ∨ 0 < ip ∨ (0 = ip ∧ 0 < q) ∨ ip < 0) with ⟨rfl, rfl⟩ | hp | ⟨rfl, hq⟩ | hp
    · have spec : Hid (Signed (wv p 0) false 0 0 0) := by
        show Signed _ _ _ _ _
        have hip := HIP.out
        unfold Signed WOk wv
        simp only [Bool.false_eq_true, if_false]
        left
        exact ⟨by omega, by omega, by first | rfl | trivial, ⟨by omega, by omega, by omega, by omega⟩, by omega⟩
      clear HIP 
      go_enter Tryd.func57, Tryd.ntmps57
      go_wp2
      refine bodyPost_ret (v := .tuple #[.agg #[.int .i64 0, .int .u64 0], .int .i64 0]) (by simp [results, Tryd.results57, go_sem]) rfl ⟨_, _, _, rfl, spec, ?_⟩
      exact (((Below.refl _ _).alloc (Nat.le_refl _) _).alloc (by simp) _).alloc (by simp; omega) _
    · have z1 : (ip == 0) = false := by simp; omega
      have z3 : ¬ ip < 0 := by omega
      have z4 : decide (ip < 0) = false := by simp; omega
      have spec : Hid (Signed (wv p q) false ip q 0) := by
        show Signed _ _ _ _ _
        have hip := HIP.out
        unfold Signed WOk wv
        simp only [Bool.false_eq_true, if_false]
        left
        exact ⟨by omega, by omega, by first | rfl | trivial, ⟨by omega, by omega, by omega, by omega⟩, by omega⟩
      clear HIP 
      go_enter Tryd.func57, Tryd.ntmps57
      go_wp2
      refine bodyPost_ret (v := .tuple #[.agg #[.int .i64 ip, .int .u64 q], .int .i64 0]) (by simp [results, Tryd.results57, go_sem]) rfl ⟨_, _, _, rfl, spec, ?_⟩
      exact (((Below.refl _ _).alloc (Nat.le_refl _) _).alloc (by simp) _).alloc (by simp; omega) _
    · have z2 : (q == 0) = false := by simp; omega
      have spec : Hid (Signed (wv p q) false 0 q 0) := by
        show Signed _ _ _ _ _
        have hip := HIP.out
        unfold Signed WOk wv
        simp only [Bool.false_eq_true, if_false]
        left
        exact ⟨by omega, by omega, by first | rfl | trivial, ⟨by omega, by omega, by omega, by omega⟩, by omega⟩
      clear HIP 
      go_enter Tryd.func57, Tryd.ntmps57
      go_wp2
      refine bodyPost_ret (v := .tuple #[.agg #[.int .i64 0, .int .u64 q], .int .i64 0]) (by simp [results, Tryd.results57, go_sem]) rfl ⟨_, _, _, rfl, spec, ?_⟩
      exact (((Below.refl _ _).alloc (Nat.le_refl _) _).alloc (by simp) _).alloc (by simp; omega) _
    · have z1 : (ip == 0) = false := by simp; omega
      have z4 : decide (ip < 0) = true := by simp; omega
      have spec : Hid (Signed (wv p q) false 0 0 4) := by
        show Signed _ _ _ _ _
        have hip := HIP.out
        unfold Signed WOk wv
        simp only [Bool.false_eq_true, if_false]
        right
        exact ⟨by omega, by first | rfl | trivial, by first | rfl | trivial, by first | rfl | trivial⟩
      clear HIP 
      go_enter Tryd.func57, Tryd.ntmps57
      go_wp2
      refine bodyPost_ret (v := .tuple #[.agg #[.int .i64 0, .int .u64 0], .int .i64 4]) (by simp [results, Tryd.results57, go_sem]) rfl ⟨_, _, _, rfl, spec, ?_⟩
      exact (((Below.refl _ _).alloc (Nat.le_refl _) _).alloc (by simp) _).alloc (by simp; omega) _
  · go_enter Tryd.func57, Tryd.ntmps57
    go_wp2_with fail
    refine (part_any _ 0 0 ip q ⟨by decide, by decide, by decide, by decide⟩ ⟨i0, i1, k2, k3⟩).mono ?_
    rintro e w1 ⟨h, l, rfl, HS, hb⟩
    have hbb : Below w.heap.size w w1 := ((((Below.refl _ _).alloc (Nat.le_refl _) _).alloc (by rw [E1.out]; omega) _).alloc (by rw [E2.out]; omega) _).trans (hb.mono (by simp; omega))
    have kR := Lib.hid (block_kept (block_old (block_new (w.alloc (.cells #[.int .u64 p, .int .u64 q] 91)) (.cells #[.int .i64 0, .int .u64 0] 35)) (.cells #[.int .i64 ip, .int .u64 q] 35)) hb)
    have kA := Lib.hid (block_kept (block_new ((w.alloc (.cells #[.int .u64 p, .int .u64 q] 91)).alloc (.cells #[.int .i64 0, .int .u64 0] 35)) (.cells #[.int .i64 ip, .int .u64 q] 35)) hb)
    rw [E1.out] at kR
    rw [E2.out] at kA
    obtain ⟨r0, r1, rf0, rf1⟩ := blk2 kR.out
    obtain ⟨a0, a1, af0, af1⟩ := blk2 kA.out
    clear kR kA hb
    have hl0 := HS.out.1.2.2.1
    rcases (by omega : (0 = h ∧ 0 = l) ∨ 0 < h ∨ (0 = h ∧ 0 < l) ∨ h < 0) with ⟨rfl, rfl⟩ | hp | ⟨rfl, hq⟩ | hp
    · have spec : Hid (Signed (wv p q) true 0 0 0) := by
        show Signed _ _ _ _ _
        have hip := HIP.out
        have hs := HS.out
        unfold Signed WOk wv
        unfold WOk wv w128 at hs
        simp only [if_true]
        left
        exact ⟨by omega, by omega, by first | rfl | trivial, ⟨by omega, by omega, by omega, by omega⟩, by omega⟩
      clear HIP HS
      go_wp2
      refine bodyPost_ret (v := .tuple #[.agg #[.int .i64 0, .int .u64 0], .int .i64 0]) (by simp [results, Tryd.results57, go_sem, r0, r1]) rfl ⟨_, _, _, rfl, spec, ?_⟩
      exact below_stored (below_stored hbb (by omega) _ _) (by omega) _ _
    · have z1 : (h == 0) = false := by simp; omega
      have z3 : ¬ h < 0 := by omega
      have z4 : decide (h < 0) = false := by simp; omega
      have spec : Hid (Signed (wv p q) true 0 0 4) := by
        show Signed _ _ _ _ _
        have hip := HIP.out
        have hs := HS.out
        unfold Signed WOk wv
        unfold WOk wv w128 at hs
        simp only [if_true]
        right
        exact ⟨by omega, by first | rfl | trivial, by first | rfl | trivial, by first | rfl | trivial⟩
      clear HIP HS
      go_wp2
      refine bodyPost_ret (v := .tuple #[.agg #[.int .i64 0, .int .u64 0], .int .i64 4]) (by simp [results, Tryd.results57, go_sem, r0, r1]) rfl ⟨_, _, _, rfl, spec, ?_⟩
      exact below_stored (below_stored hbb (by omega) _ _) (by omega) _ _
    · have z2 : (l == 0) = false := by simp; omega
      have spec : Hid (Signed (wv p q) true 0 0 4) := by
        show Signed _ _ _ _ _
        have hip := HIP.out
        have hs := HS.out
        unfold Signed WOk wv
        unfold WOk wv w128 at hs
        simp only [if_true]
        right
        exact ⟨by omega, by first | rfl | trivial, by first | rfl | trivial, by first | rfl | trivial⟩
      clear HIP HS
      go_wp2
      refine bodyPost_ret (v := .tuple #[.agg #[.int .i64 0, .int .u64 0], .int .i64 4]) (by simp [results, Tryd.results57, go_sem, r0, r1]) rfl ⟨_, _, _, rfl, spec, ?_⟩
      exact below_stored (below_stored hbb (by omega) _ _) (by omega) _ _
    · have z1 : (h == 0) = false := by simp; omega
      have z4 : decide (h < 0) = true := by simp; omega
      have spec : Hid (Signed (wv p q) true h l 0) := by
        show Signed _ _ _ _ _
        have hip := HIP.out
        have hs := HS.out
        unfold Signed WOk wv
        unfold WOk wv w128 at hs
        simp only [if_true]
        left
        exact ⟨by omega, by omega, by first | rfl | trivial, ⟨by omega, by omega, by omega, by omega⟩, by omega⟩
      clear HIP HS
      go_wp2
      refine bodyPost_ret (v := .tuple #[.agg #[.int .i64 h, .int .u64 l], .int .i64 0]) (by simp [results, Tryd.results57, go_sem, r0, r1]) rfl ⟨_, _, _, rfl, spec, ?_⟩
      exact below_stored (below_stored hbb (by omega) _ _) (by omega) _ _
end Go.Proofs.YtkoihpfgleboiaaDoor
namespace Go.Proofs.YtkoihpfgleboiaaDoor
open Go.RowKit
end Go.Proofs.YtkoihpfgleboiaaDoor
namespace Go.Proofs.YtkoihpfgleboiaaDoor
open Go.RowKit
end Go.Proofs.YtkoihpfgleboiaaDoor
namespace Go.Proofs.YtkoihpfgleboiaaDoor
open Go.RowKit
set_option maxRecDepth 100000 in
set_option maxHeartbeats 1000000 in
theorem int_yes (w : World) (h l : Int) (k : WOk h l) (f0 : -9223372036854775808 ≤ wv h l) (f1 : wv h l ≤ 9223372036854775807) :
    Calls Tryd.prog 45 #[.agg #[.int .i64 h, .int .u64 l]] w fun e w' => e = .returned (.tuple #[.int .i64 (wv h l), .int .i64 0]) ∧ Below w.heap.size w w' := by
  obtain ⟨k0, k1, k2, k3⟩ := k
  obtain ⟨n, hn⟩ : ∃ n, n = wv h l := ⟨_, rfl⟩
  rw [← hn] at f0 f1 ⊢
  have wl : IntKind.i64.wrap l = n := by rw [i64_wrap]; unfold wv at hn; omega
  have o1 : n / 9223372036854775808 = h := by unfold wv at hn; omega
  have o2 : n % 18446744073709551616 = l := by unfold wv at hn; omega
  have O1 := Lib.hid o1
  have O2 := Lib.hid o2
  clear hn o1 o2
  go_enter Tryd.func45, Tryd.ntmps45
  go_wp2
  go_region_held3 (fun w' => w'.cell? ⟨w.heap.size, 0, none⟩ = some (.int .i64 h) ∧ w'.cell? ⟨w.heap.size, 1, none⟩ = some (.int .u64 l)) (first | assumption | (simp [go_sem]; done))
    (first
      | (go_at_call 58; refine (of_any _ n h l f0 f1 O1.out O2.out).mono ?_; rintro e w1 ⟨rfl, hb⟩; have hs1 : w1.cell? ⟨w.heap.size, 0, none⟩ = some (.int .i64 h) ∧ w1.cell? ⟨w.heap.size, 1, none⟩ = some (.int .u64 l) := ⟨(hb.cell (p := ⟨w.heap.size, 0, none⟩) (by simp)).trans (by simp [go_sem]), (hb.cell (p := ⟨w.heap.size, 1, none⟩) (by simp)).trans (by simp [go_sem])⟩; have HB := Lib.hid hb; clear hb))
  go_wp2
  go_ret2
  exact ⟨ret_two rfl rfl, (((Below.refl _ _).alloc (Nat.le_refl _) _).drew).trans (HB.out.mono (by simp))⟩

end Go.Proofs.YtkoihpfgleboiaaDoor
namespace Go.Proofs.YtkoihpfgleboiaaDoor
open Go.RowKit
/-- The number of digits. -/
def numOf (cs : List Int) : Int := cs.foldl (fun a c => a * 10 + (c - 48)) 0
theorem numOf_snoc (cs : List Int) (c : Int) : numOf (cs ++ [c]) = numOf cs * 10 + (c - 48) := by simp [numOf]
/-- All are digits. -/
def AllDig (cs : List Int) : Prop := ∀ c ∈ cs, 48 ≤ c ∧ c ≤ 57
theorem AllDig.snoc {cs : List Int} {c : Int} (h : AllDig cs) (h0 : 48 ≤ c) (h1 : c ≤ 57) : AllDig (cs ++ [c]) := fun x hx => by
  rcases List.mem_append.1 hx with hx | hx
  · exact h x hx
  · simp at hx; omega
end Go.Proofs.YtkoihpfgleboiaaDoor
namespace Go.Proofs.YtkoihpfgleboiaaDoor
open Go.RowKit
end Go.Proofs.YtkoihpfgleboiaaDoor
namespace Go.Proofs.YtkoihpfgleboiaaDoor
open Go.RowKit
/-- A string's bytes as numbers. -/
def sb (s : ByteArray) : List Int := s.data.toList.map fun b => (b.toNat : Int)
theorem sb_len (s : ByteArray) : (sb s).length = s.size := by simp [sb]
theorem sb_range (s : ByteArray) (k : Nat) : 0 ≤ (sb s).getD k 0 ∧ (sb s).getD k 0 ≤ 255 := by
  rw [List.getD_eq_getElem?_getD]
  rcases Nat.lt_or_ge k (sb s).length with h | h
  · rw [List.getElem?_eq_getElem h]
    simp only [sb, List.getElem_map, Option.getD_some]
    have := UInt8.toNat_lt (s.data.toList[k]'(by simpa [sb] using h))
    omega
  · rw [List.getElem?_eq_none h]; exact ⟨by decide, by decide⟩

theorem sb_toList (s : ByteArray) : sb s = s.toList.map fun b => (b.toNat : Int) := by rw [sb, ByteArray.toList_eq]
theorem sb_eq_48 (s : ByteArray) : s.toList = [48] ↔ sb s = [48] := by
  rw [sb_toList]
  constructor
  · intro h; rw [h]; rfl
  · intro h
    match hl : s.toList, h with
    | [a], h =>
      simp only [List.map_cons, List.map_nil, List.cons.injEq, and_true] at h
      have : a = 48 := UInt8.toNat_inj.1 (by have : a.toNat = 48 := by omega
                                             simpa using this)
      rw [this]
    | a :: b :: t, h => simp at h
theorem sb_head (s : ByteArray) (h : 0 < s.size) : (sb s).head? = some ((s[0]'h).toNat : Int) := by
  rw [sb, List.head?_map, List.head?_eq_getElem?, List.getElem?_eq_getElem (by simpa using h)]
  rfl

/-- Is it digits, without noughts ahead? -/
def plainB (bs : List Int) : Bool := bs.all (fun c => decide (48 ≤ c) && decide (c ≤ 57)) && (bs == [48] || (bs.head?.isSome && !(bs.head? == some 48)))

/-- A string's bytes laid in memory. -/
theorem str_bytes (s : ByteArray) : ∃ (cv : World → Nat) (cw : World → World), (∀ W, (convert 9 85 (.string s)).run Tryd.prog W = .ok (.slice (some ⟨W.heap.size, 0, none⟩) s.size (cv W)) (cw W)) ∧
    (∀ W, Below W.heap.size W (cw W) ∧ W.heap.size < (cw W).heap.size ∧ ∀ i, i < s.size → (cw W).cell? ⟨W.heap.size, i, none⟩ = some (.int .u8 ((sb s).getD i 0))) := by
  refine ⟨_, _, fun W => run_bytes_of_string (P := Tryd.prog) W 9 85 5 s Tryd.underlying9 Tryd.underlying85 Tryd.underlying5, fun W => ⟨((Below.refl _ _).drew).alloc (Nat.le_refl _) _, ?_, ?_⟩⟩
  · simp
  · intro i hi
    have h1 := heap_alloc_new W.drew (.cells (bytesRow s (grownCap W s.size 0 5)) 5 ((bytesRow s (grownCap W s.size 0 5)).size, (bytesRow s (grownCap W s.size 0 5)).size + 1))
    rw [cell_of_row _ W.heap.size i _ _ _ h1]
    have hi2 : i < s.data.size := hi
    simp only [bytesRow, sb, List.getD_eq_getElem?_getD, List.getElem?_map]
    rw [Array.getElem?_append_left (by simpa using hi2)]
    simp only [Array.getElem?_map, Array.getElem?_toList]
    rw [Array.getElem?_eq_getElem hi2]
    rfl

set_option maxRecDepth 100000 in
set_option maxHeartbeats 1000000 in
theorem plain_any (w : World) (s : ByteArray) (hs : s.size ≤ 1000) :
    Calls Tryd.prog 55 #[.string s] w fun e w' => e = .returned (.bool (plainB (sb s))) ∧ Below w.heap.size w w' := by
  obtain ⟨cv, cw, hcv, hcp⟩ := str_bytes s
  have HCP := Lib.hid (hcp w)
  clear hcp
  go_enter Tryd.func55, Tryd.ntmps55
  go_wp2
  obtain ⟨W0, hW0⟩ : ∃ W0, W0 = cw w := ⟨_, rfl⟩
  rw [← hW0] at HCP ⊢
  clear hW0 hcv
  go_loopg [8] s.size (fun (g : Nat) si wx => W0 = wx ∧ ∃ k : Nat, g = s.size - k ∧ k ≤ s.size ∧ si = .int .i64 (k : Int) ∧ Hid (∀ i, i < k → 48 ≤ (sb s).getD i 0 ∧ (sb s).getD i 0 ≤ 57))
  case atStart => exact ⟨rfl, 0, rfl, Nat.zero_le _, rfl, fun i hi => by omega⟩
  case round =>
    obtain ⟨rfl, k, rfl, hk, rfl, hall⟩ := hrel
    by_cases hlt : k < s.size
    · obtain ⟨d, hd⟩ : ∃ d, d = (sb s).getD k 0 := ⟨_, rfl⟩
      have hc := HCP.out.2.2 k hlt
      have hr := sb_range s k
      rw [← hd] at hc hr
      obtain ⟨r0, r1⟩ := hr
      have HD := Lib.hid hd
      clear hd
      have hbad : Hid ((d < 48 ∨ 57 < d) → plainB (sb s) = false) := by
        intro hb
        have hm : d ∈ sb s := by
          rw [HD.out, List.getD_eq_getElem?_getD, List.getElem?_eq_getElem (by rw [sb_len]; exact hlt)]
          exact List.getElem_mem _
        unfold plainB
        have : (sb s).all (fun c => decide (48 ≤ c) && decide (c ≤ 57)) = false := by
          rw [List.all_eq_false]
          exact ⟨d, hm, by simp; omega⟩
        rw [this]; rfl
      rcases (by omega : d < 48 ∨ (¬ d < 48 ∧ 57 < d) ∨ (¬ d < 48 ∧ ¬ 57 < d)) with h1 | ⟨h1, h2⟩ | ⟨h1, h2⟩
      · go_wp2
        go_ret
        exact ⟨ret_bool (hbad.out (.inl h1)).symm, HCP.out.1⟩
      · go_wp2
        go_ret
        exact ⟨ret_bool (hbad.out (.inr h2)).symm, HCP.out.1⟩
      · go_wp2
        go_roundg (s.size - (k + 1))
        case measure => omega
        case rel => exact ⟨rfl, k + 1, rfl, by omega, by go_num, fun i hi => by
          rcases Nat.lt_or_ge i k with h | h
          · exact hall.out i h
          · have : i = k := by omega
            subst this
            rw [← HD.out]; omega⟩
    · have hks : k = s.size := by omega
      have hgood : Hid ((sb s).all (fun c => decide (48 ≤ c) && decide (c ≤ 57)) = true) := by
        show _ = _
        rw [List.all_eq_true]
        intro c hc
        obtain ⟨i, hi, rfl⟩ := List.getElem_of_mem hc
        have h := hall.out i (by rw [hks, ← sb_len]; exact hi)
        rw [List.getD_eq_getElem?_getD, List.getElem?_eq_getElem hi] at h
        simpa using h
      by_cases h48 : s.toList = [48]
      · have hres : Hid (plainB (sb s) = true) := by
          have := (sb_eq_48 s).1 h48
          show _ = _
          unfold plainB
          rw [hgood.out, this]; rfl
        go_wp2
        go_ret
        exact ⟨ret_bool hres.out.symm, HCP.out.1⟩
      · have n48 : (s.toList == [48]) = false := by simpa using h48
        have hb48 : Hid ((sb s == [48]) = false) := by
          show _ = _
          rw [beq_eq_false_iff_ne]
          exact fun h => h48 ((sb_eq_48 s).2 h)
        by_cases he : s.toList = []
        · have hres : Hid (plainB (sb s) = false) := by
            show _ = _
            have e : sb s = [] := by rw [sb_toList, he]; rfl
            unfold plainB
            rw [e]; rfl
          have n0 : s.toList.isEmpty = true := by rw [he]; rfl
          clear h48
          go_wp2
          all_goals go_ret
          all_goals exact ⟨ret_bool hres.out.symm, HCP.out.1⟩
        · have n0 : s.toList.isEmpty = false := by simpa using he
          have hp : 0 < s.size := by
            rcases Nat.eq_zero_or_pos s.size with h | h
            · exact absurd (by rw [ByteArray.toList_eq]; exact List.eq_nil_of_length_eq_zero (by simpa using h)) he
            · exact h
          have hres : Hid (plainB (sb s) = (((s[0]'hp).toNat : Int) != 48)) := by
            show _ = _
            unfold plainB
            rw [hgood.out, hb48.out, sb_head s hp]
            simp [bne]
          clear h48 he
          go_wp2
          go_ret
          exact ⟨ret_bool hres.out.symm, HCP.out.1⟩

set_option maxRecDepth 100000 in
set_option maxHeartbeats 1000000 in
theorem shift_any (w : World) (p q d : Int) (k : SOk p q) (hp : p < 1152921504606846976) (d0 : 0 ≤ d) (d1 : d ≤ 9) :
    Calls Tryd.prog 56 #[.agg #[.int .u64 p, .int .u64 q], .int .u8 d] w fun e w' => ∃ p' q', e = .returned (.agg #[.int .u64 p', .int .u64 q']) ∧
      Hid (SOk p' q' ∧ wv p' q' = wv p q * 10 + d) ∧ Below w.heap.size w w' := by
  obtain ⟨k0, k1, k2, k3⟩ := k
  obtain ⟨ov, hov⟩ : ∃ x, x = q * 10 / 18446744073709551616 := ⟨_, rfl⟩
  obtain ⟨l1, hl1⟩ : ∃ x, x = q * 10 % 18446744073709551616 := ⟨_, rfl⟩
  obtain ⟨l2, hl2⟩ : ∃ x, x = (l1 + d) % 18446744073709551616 := ⟨_, rfl⟩
  obtain ⟨cr, hcr⟩ : ∃ x, x = (l1 + d) / 18446744073709551616 := ⟨_, rfl⟩
  have c1 : ∀ w, Calls Tryd.prog 42 #[.int .u64 q, .int .u64 10] w fun e w' => e = .returned (.tuple #[.int .u64 ov, .int .u64 l1]) ∧ w = w' := by
    intro w; rw [hov, hl1]; exact mul64 q 10 k2 (by decide) k3 (by decide) w
  have s0 : ∀ w, (callFunc 32 #[.int .u64 l1, .int .u64 d, .int .u64 0]).run Tryd.prog w = .ok (.value (.tuple #[.int .u64 l2, .int .u64 cr])) w := by
    intro w
    have := add64 l1 d 0 (by omega) d0 (by omega) (by omega) (by decide) (by decide) w
    rw [show l1 + d + 0 = l1 + d by omega, ← hl2, ← hcr] at this
    exact this
  have o0 : 0 ≤ ov := by omega
  have o1 : ov ≤ 9 := by omega
  have cr0 : 0 ≤ cr := by omega
  have cr1 : cr ≤ 1 := by omega
  have spec : Hid (SOk (p * 10 + ov + cr) l2 ∧ wv (p * 10 + ov + cr) l2 = wv p q * 10 + d) := by
    show _ ∧ _
    unfold SOk wv
    omega
  have C1 := Lib.hid c1
  clear c1 hov hl1 hl2 hcr
  go_enter Tryd.func56, Tryd.ntmps56
  go_wp2_with (first | (go_at_call 42; refine (C1.out _).mono ?_; rintro e w1 ⟨rfl, rfl⟩) | simp only)
  refine bodyPost_ret (v := .agg #[.int .u64 (p * 10 + ov + cr), .int .u64 l2]) (by simp [results, Tryd.results56, go_sem]) rfl ⟨_, _, rfl, spec, ?_⟩
  exact ((Below.refl _ _).alloc (Nat.le_refl _) _).alloc (by simp) _
end Go.Proofs.YtkoihpfgleboiaaDoor
namespace Go.Proofs.YtkoihpfgleboiaaDoor
open Go.RowKit
/-- The digits of a text, its sign cut off. -/
def negB (bs : List Int) : Bool := bs.head? == some 45
def digsOf (bs : List Int) : List Int := if negB bs then bs.tail else bs
/-- What Parse must tell of the bytes. -/
def ParseSpec (bs : List Int) (h l er : Int) : Prop :=
  ((plainB (digsOf bs) = false ∨ (negB bs = true ∧ digsOf bs = [48])) ∧ er = 3 ∧ h = 0 ∧ l = 0) ∨
  (plainB (digsOf bs) = true ∧ ¬ (negB bs = true ∧ digsOf bs = [48]) ∧ Signed (numOf (digsOf bs)) (negB bs) h l er)

theorem numOf_take_succ (ds : List Int) (k : Nat) (h : k < ds.length) : numOf (ds.take (k + 1)) = numOf (ds.take k) * 10 + (ds.getD k 0 - 48) := by rw [take_succ_of_lt h, numOf_snoc]
theorem numOf_take_le {ds : List Int} (hd : AllDig ds) (k : Nat) : 0 ≤ numOf (ds.take k) ∧ numOf (ds.take k) ≤ numOf ds := by
  have dg : ∀ j, j < ds.length → 48 ≤ ds.getD j 0 := by
    intro j hj
    rw [List.getD_eq_getElem?_getD, List.getElem?_eq_getElem hj]
    exact (hd _ (List.getElem_mem hj)).1
  have nn : ∀ j, 0 ≤ numOf (ds.take j) := by
    intro j
    induction j with
    | zero => simp [numOf]
    | succ j ih =>
      rcases Nat.lt_or_ge j ds.length with h | h
      · rw [numOf_take_succ ds j h]; have := dg j h; omega
      · have e1 : ds.take (j + 1) = ds := List.take_of_length_le (by omega)
        have e2 : ds.take j = ds := List.take_of_length_le h
        rw [e1]; rwa [e2] at ih
  refine ⟨nn k, ?_⟩
  have mono : ∀ j, numOf (ds.take k) ≤ numOf (ds.take (k + j)) := by
    intro j
    induction j with
    | zero => exact Int.le_refl _
    | succ j ih =>
      rcases Nat.lt_or_ge (k + j) ds.length with h | h
      · rw [show k + (j + 1) = (k + j) + 1 by omega, numOf_take_succ ds _ h]
        have := dg _ h
        have := nn (k + j)
        omega
      · have e1 : ds.take (k + (j + 1)) = ds := List.take_of_length_le (by omega)
        have e2 : ds.take (k + j) = ds := List.take_of_length_le h
        rw [e1]; rwa [e2] at ih
  have h := mono ds.length
  have e1 : ds.take (k + ds.length) = ds := List.take_of_length_le (by omega)
  rwa [e1] at h
theorem plain_dig {ds : List Int} (h : plainB ds = true) : AllDig ds := by
  unfold plainB at h
  rw [Bool.and_eq_true] at h
  intro c hc
  have := List.all_eq_true.1 h.1 c hc
  simpa using this

theorem sb_cut (s : ByteArray) : Lib.hasPrefix s.data.toList [45] = negB (sb s) ∧ sb ⟨(Lib.trimPrefix s.data.toList [45]).toArray⟩ = digsOf (sb s) := by
  unfold digsOf negB sb
  cases hl : s.data.toList with
  | nil => simp [Lib.hasPrefix, Lib.trimPrefix]
  | cons a t =>
    by_cases ha : a = 45
    · subst ha
      simp [Lib.hasPrefix, Lib.trimPrefix]
    · have hn : ((a.toNat : Int) == 45) = false := by
        rw [beq_eq_false_iff_ne]
        intro h
        exact ha (UInt8.toNat_inj.1 (by have : a.toNat = 45 := by omega
                                        simpa using this))
      have ha2 : ¬ (45 = a) := fun h => ha h.symm
      have hb : ([45].isPrefixOf (a :: t)) = false := by simp [List.isPrefixOf, ha2]
      simp [Lib.hasPrefix, Lib.trimPrefix, hn, ha2]
      simpa using hb

set_option maxRecDepth 100000 in
set_option maxHeartbeats 2000000 in
theorem parse_any (w : World) (s : ByteArray) (hs : s.size ≤ 1000) :
    Calls Tryd.prog 44 #[.string s] w fun e w' => ∃ h l er, e = .returned (.tuple #[.agg #[.int .i64 h, .int .u64 l], .int .i64 er]) ∧
      Hid (ParseSpec (sb s) h l er) ∧ Below w.heap.size w w' := by
  obtain ⟨t, ht⟩ : ∃ t : ByteArray, t = ⟨(Lib.trimPrefix s.data.toList [45]).toArray⟩ := ⟨_, rfl⟩
  obtain ⟨ng, hng⟩ : ∃ b : Bool, b = Lib.hasPrefix s.data.toList [45] := ⟨_, rfl⟩
  have hcut := sb_cut s
  rw [← ht, ← hng] at hcut
  obtain ⟨hc1, hc2⟩ := hcut
  have ccut : ∀ w, Calls Tryd.prog 54 #[.string s, .string { data := #[45] }] w fun e w' => e = .returned (.tuple #[.string t, .bool ng]) ∧ w = w' := by
    intro w
    rw [ht, hng]
    exact (Tryd.strings_CutPrefix s { data := #[45] } w).mono fun e w' ⟨he, hw⟩ => ⟨he, hw.symm⟩
  have htl : t.size ≤ 1000 := by
    rw [← sb_len, hc2]
    unfold digsOf
    split
    · rw [List.length_tail, sb_len]; omega
    · rw [sb_len]; exact hs
  have CC := Lib.hid ccut
  have HC1 := Lib.hid hc1
  have HC2 := Lib.hid hc2
  clear ccut ht hng hc1 hc2
  have e1 := Lib.hid (block_new w (.cells #[.int .i64 0, .int .u64 0] 35))
  go_enter Tryd.func44, Tryd.ntmps44
  go_wp2_with fail
  refine (CC.out _).mono ?_
  rintro e w1 ⟨rfl, rfl⟩
  go_wp2_with fail
  obtain ⟨pl, hpl⟩ : ∃ b, b = plainB (sb t) := ⟨_, rfl⟩
  refine (plain_any _ t htl).mono ?_
  rw [← hpl]
  rintro e w2 ⟨rfl, b2⟩
  have HPL := Lib.hid hpl
  have kR := block_kept e1.out b2
  obtain ⟨r0, r1, rf0, rf1⟩ := blk2 kR
  have KR := Lib.hid kR
  have hs2 : w.heap.size < w2.heap.size := by have := b2.size; simp only [World.size_alloc] at this; omega
  have hb2 : Below w.heap.size w w2 := ((Below.refl _ _).alloc (Nat.le_refl _) _).trans (b2.mono (by simp))
  have HB2 := Lib.hid hb2
  clear hpl kR b2 hb2 e1
  have fin : ∀ W : World, W = (w2.setCell ⟨w.heap.size, 0, none⟩ (.int .i64 0)).setCell ⟨w.heap.size, 1, none⟩ (.int .u64 0) → Below w.heap.size w W := by
    rintro W rfl
    exact below_stored HB2.out (Nat.le_refl _) _ _
  have FIN := Lib.hid fin
  clear fin
  cases pl
  · have spec : Hid (ParseSpec (sb s) 0 0 3) := .inl ⟨.inl (by rw [← HC2.out]; exact HPL.out.symm), rfl, rfl, rfl⟩
    go_wp2_with fail
    refine bodyPost_ret (v := .tuple #[.agg #[.int .i64 0, .int .u64 0], .int .i64 3]) (by simp [results, Tryd.results44, go_sem, r0, r1]) rfl ⟨_, _, _, rfl, spec, FIN.out _ rfl⟩
  by_cases hz : ng = true ∧ t.toList = [48]
  · obtain ⟨rfl, hz⟩ := hz
    have spec : Hid (ParseSpec (sb s) 0 0 3) := .inl ⟨.inr ⟨HC1.out.symm, by rw [← HC2.out]; exact (sb_eq_48 t).1 hz⟩, rfl, rfl, rfl⟩
    have n48 : (t.toList == [48]) = true := by rw [hz]; rfl
    go_wp2_with fail
    all_goals refine bodyPost_ret (v := .tuple #[.agg #[.int .i64 0, .int .u64 0], .int .i64 3]) (by simp [results, Tryd.results44, go_sem, r0, r1]) rfl ⟨_, _, _, rfl, spec, FIN.out _ rfl⟩
  have hok : Hid (plainB (digsOf (sb s)) = true ∧ ¬ (negB (sb s) = true ∧ digsOf (sb s) = [48])) := by
    refine ⟨by rw [← HC2.out]; exact HPL.out.symm, ?_⟩
    rw [← HC1.out, ← HC2.out, ← sb_eq_48]
    exact hz
  have hg : (ng && (t.toList == [48])) = false := by
    cases ng
    · rfl
    · simpa using hz
  have hg2 : ng = false ∨ (ng = true ∧ (t.toList == [48]) = false) := by
    cases ng
    · exact .inl rfl
    · exact .inr ⟨rfl, by simpa using hz⟩
  clear hz
  obtain ⟨cv, cw, hcv, hcp⟩ := str_bytes t
  have HCP := Lib.hid hcp
  clear hcp
  rcases hg2 with rfl | ⟨rfl, hn48⟩
  all_goals
    go_wp2_with fail
    obtain ⟨W0, hW0⟩ : ∃ W0, W0 = cw (w2.alloc (.cells #[.int .u64 0, .int .u64 0] 91)) := ⟨_, rfl⟩
    have hcp2 := HCP.out (w2.alloc (.cells #[.int .u64 0, .int .u64 0] 91))
    rw [← hW0, show (w2.alloc (.cells #[.int .u64 0, .int .u64 0] 91)).heap.size = w2.heap.size + 1 by simp] at hcp2
    rw [← hW0]
    obtain ⟨q1, q2, q3⟩ := hcp2
    have j0 : Hid (W0.heap[w2.heap.size]? = some (.cells #[.int .u64 0, .int .u64 0] 91 (0, 0)) ∧ W0.heap[w.heap.size]? = some (.cells #[.int .i64 0, .int .u64 0] 35 (0, 0)) ∧
        (∀ i, i < t.size → W0.cell? ⟨w2.heap.size + 1, i, none⟩ = some (.int .u8 ((sb t).getD i 0))) ∧ Below w.heap.size w W0) :=
      ⟨(q1.block _ (by omega)).trans (block_new _ _), (q1.block _ (by omega)).trans (block_old KR.out _), q3, (HB2.out.alloc (by omega) _).trans (q1.mono (by omega))⟩
    clear q1 q2 q3 hW0 hcv HCP FIN KR r0 r1 rf0 rf1 hg
    go_loopg [29] t.size (fun g si wx => ∃ (k : Nat) (p q : Int), g = t.size - k ∧ k ≤ t.size ∧ si = .int .i64 (k : Int) ∧
        Hid ((wx.heap[w2.heap.size]? = some (.cells #[.int .u64 p, .int .u64 q] 91 (0, 0)) ∧ wx.heap[w.heap.size]? = some (.cells #[.int .i64 0, .int .u64 0] 35 (0, 0)) ∧
        (∀ i, i < t.size → wx.cell? ⟨w2.heap.size + 1, i, none⟩ = some (.int .u8 ((sb t).getD i 0))) ∧ Below w.heap.size w wx) ∧ SOk p q ∧ wv p q = numOf ((digsOf (sb s)).take k)))
    case atStart => exact ⟨0, 0, 0, rfl, Nat.zero_le _, rfl, j0.out, ⟨by decide, by decide, by decide, by decide⟩, by simp [wv, numOf]⟩
    case round =>
      obtain ⟨k, p, q, rfl, hk, rfl, hinv⟩ := hrel
      obtain ⟨n0, n1, nf0, nf1⟩ := blk2 hinv.out.1.1
      obtain ⟨r0, r1, rf0, rf1⟩ := blk2 hinv.out.1.2.1
      have hdl : Hid ((digsOf (sb s)).length = t.size) := by show _ = _; rw [← HC2.out, sb_len]
      by_cases hlt : k < t.size
      · obtain ⟨d, hd⟩ : ∃ d, d = (sb t).getD k 0 := ⟨_, rfl⟩
        have hc := hinv.out.1.2.2.1 k hlt
        rw [← hd] at hc
        have hdr : 48 ≤ d ∧ d ≤ 57 := by
          rw [hd, HC2.out, List.getD_eq_getElem?_getD, List.getElem?_eq_getElem (by rw [hdl.out]; exact hlt)]
          exact plain_dig hok.out.1 _ (List.getElem_mem _)
        obtain ⟨d0, d1⟩ := hdr
        have hstep : Hid (numOf ((digsOf (sb s)).take (k + 1)) = numOf ((digsOf (sb s)).take k) * 10 + (d - 48) ∧ numOf ((digsOf (sb s)).take (k + 1)) ≤ numOf (digsOf (sb s))) := by
          refine ⟨?_, (numOf_take_le (plain_dig hok.out.1) (k + 1)).2⟩
          rw [numOf_take_succ _ _ (by rw [hdl.out]; exact hlt), hd, HC2.out]
        clear hd
        by_cases hbig : 1152921504606846976 ≤ p
        · have spec : Hid (ParseSpec (sb s) 0 0 4) := by
            refine .inr ⟨hok.out.1, hok.out.2, .inr ⟨?_, rfl, rfl, rfl⟩⟩
            obtain ⟨h1, h2⟩ := hstep.out
            obtain ⟨h3, h4, h5, h6⟩ := hinv.out.2.1
            rw [← hinv.out.2.2] at h1
            unfold wv at h1
            cases negB (sb s) <;> simp only [if_true, Bool.false_eq_true, if_false] <;> omega
          have hb := Lib.hid hinv.out.1.2.2.2
          clear hinv
          go_wp2_with fail
          refine bodyPost_ret (v := .tuple #[.agg #[.int .i64 0, .int .u64 0], .int .i64 4]) (by simp [results, Tryd.results44, go_sem, r0, r1]) rfl ⟨_, _, _, rfl, spec, below_stored hb.out (Nat.le_refl _) _ _⟩
        · go_wp2_with fail
          refine (shift_any _ p q (d - 48) hinv.out.2.1 (by omega) (by omega) (by omega)).mono ?_
          rintro e w3 ⟨p3, q3, rfl, hsh, b3⟩
          have k1 := block_kept hinv.out.1.1 b3
          obtain ⟨m0, m1, mf0, mf1⟩ := blk2 k1
          have hnew : Hid (∀ W, W = (w3.setCell ⟨w2.heap.size, 0, none⟩ (.int .u64 p3)).setCell ⟨w2.heap.size, 1, none⟩ (.int .u64 q3) →
              (W.heap[w2.heap.size]? = some (.cells #[.int .u64 p3, .int .u64 q3] 91 (0, 0)) ∧ W.heap[w.heap.size]? = some (.cells #[.int .i64 0, .int .u64 0] 35 (0, 0)) ∧
              (∀ i, i < t.size → W.cell? ⟨w2.heap.size + 1, i, none⟩ = some (.int .u8 ((sb t).getD i 0))) ∧ Below w.heap.size w W) ∧ SOk p3 q3 ∧ wv p3 q3 = numOf ((digsOf (sb s)).take (k + 1))) := by
            rintro W rfl
            refine ⟨⟨blk_store2 k1 _ _, block_set (block_set (block_kept hinv.out.1.2.1 b3) (p := ⟨w2.heap.size, 0, none⟩) (by show w.heap.size ≠ w2.heap.size; omega) _) (p := ⟨w2.heap.size, 1, none⟩) (by show w.heap.size ≠ w2.heap.size; omega) _, ?_, ?_⟩, hsh.out.1, ?_⟩
            · intro i hi
              rw [World.cell?_setCell_other _ _ _ _ (by intro h; injection h with h; omega), World.cell?_setCell_other _ _ _ _ (by intro h; injection h with h; omega)]
              have h1 := hinv.out.1.2.2.1 i hi
              exact (b3.cell (World.block_lt_of_cell? _ _ h1)).trans h1
            · exact below_stored (hinv.out.1.2.2.2.trans (b3.mono hinv.out.1.2.2.2.size)) (by omega) _ _
            · rw [hsh.out.2, hinv.out.2.2, hstep.out.1]
          clear hinv b3 k1 hsh n0 n1 nf0 nf1
          go_wp2_with fail
          have hn2 := hnew.out _ rfl
          go_roundg (t.size - (k + 1))
          case measure => omega
          case rel => exact ⟨k + 1, p3, q3, rfl, by omega, by go_num, hn2⟩
      · have hks : k = t.size := by omega
        go_wp2_with fail
        refine (signed_any _ p q _ hinv.out.2.1).mono ?_
        rintro e w3 ⟨h, l, er, rfl, hsg, b3⟩
        have k1 := block_kept hinv.out.1.2.1 b3
        obtain ⟨m0, m1, mf0, mf1⟩ := blk2 k1
        have spec : Hid (ParseSpec (sb s) h l er) := by
          refine .inr ⟨hok.out.1, hok.out.2, ?_⟩
          have h1 := hsg.out
          rw [hinv.out.2.2, List.take_of_length_le (by rw [hdl.out]; omega)] at h1
          rw [← HC1.out]; exact h1
        have hb : Hid (Below w.heap.size w w3) := hinv.out.1.2.2.2.trans (b3.mono hinv.out.1.2.2.2.size)
        clear hsg b3 hinv n0 n1 nf0 nf1 r0 r1 rf0 rf1
        go_wp2_with fail
        refine bodyPost_ret (v := .tuple #[.agg #[.int .i64 h, .int .u64 l], .int .i64 er]) (by simp [results, Tryd.results44, go_sem, m0, m1]) rfl ⟨_, _, _, rfl, spec, below_stored hb.out (Nat.le_refl _) _ _⟩
end Go.Proofs.YtkoihpfgleboiaaDoor
namespace Go.Proofs.YtkoihpfgleboiaaDoor
open Go.RowKit
end Go.Proofs.YtkoihpfgleboiaaDoor
namespace Go.Proofs.YtkoihpfgleboiaaDoor
open Go.RowKit
theorem few_of_lt {x : Int} {k : Nat} (hk : k ≤ 1000) (h : (x.natAbs : Int) < bp k) : Few x := by
  unfold Few
  rcases Nat.lt_or_ge 1000 (digs x.natAbs).length with h1 | h1
  · have hpos : 0 < x.natAbs := by
      rcases Nat.eq_zero_or_pos x.natAbs with h0 | h0
      · rw [h0, digs_zero] at h1; simp at h1
      · exact h0
    have ht := digs_top _ hpos
    have hr := (digs_inR x.natAbs).getD ((digs x.natAbs).length - 1)
    have hs := val_take_succ (digs x.natAbs) ((digs x.natAbs).length - 1)
    rw [val_take_all (by omega), val_digs] at hs
    have h0 := val_nonneg ((digs_inR x.natAbs).take ((digs x.natAbs).length - 1))
    have hb := bp_mono (show k ≤ (digs x.natAbs).length - 1 by omega)
    have hp := bp_pos ((digs x.natAbs).length - 1)
    have hm : bp ((digs x.natAbs).length - 1) * 1 ≤ bp ((digs x.natAbs).length - 1) * (digs x.natAbs).getD ((digs x.natAbs).length - 1) 0 := Int.mul_le_mul_of_nonneg_left (by omega) (by omega)
    omega
  · exact h1

end Go.Proofs.YtkoihpfgleboiaaDoor
namespace Go.Proofs.YtkoihpfgleboiaaDoor
open Go.RowKit
theorem mul_step (V T P K ai bk X o m s p : Int) (hs : s = o + p + m) (hp : p = ai * bk) (h : V + P * K * m = T + P * (ai * X)) :
    V + P * K * (s % 65536 - o) + 65536 * (P * K) * (s / 65536) = T + P * (ai * (X + K * bk)) := by
  have e : s = s % 65536 + 65536 * (s / 65536) := by omega
  have e1 : P * K * s = P * K * (s % 65536) + P * K * (65536 * (s / 65536)) := by rw [← Int.mul_add, ← e]
  have e2 : P * K * s = P * K * o + P * K * p + P * K * m := by rw [hs, Int.mul_add, Int.mul_add]
  have e3 : P * K * (65536 * (s / 65536)) = 65536 * (P * K) * (s / 65536) := by rw [← Int.mul_assoc, Int.mul_comm (P * K) 65536]
  have e4 : P * (ai * (X + K * bk)) = P * (ai * X) + P * K * p := by
    rw [hp, Int.mul_add, Int.mul_add]
    congr 1
    rw [Int.mul_assoc P K, Int.mul_left_comm K ai bk]
  rw [e4, Int.mul_sub]
  omega
theorem mul_all {da db : List Int} {i k : Nat} {V m ai : Int} (hai : ai = da.getD i 0) (hk : db.length ≤ k)
    (h : V + bp i * bp k * m = val (da.take i) * val db + bp i * (ai * val (db.take k))) : V + bp i * bp k * m = val (da.take (i + 1)) * val db := by
  rw [val_take_all hk] at h
  rw [h, val_take_succ, ← hai, Int.add_mul, Int.mul_assoc]
theorem mul_done {da db : List Int} {i : Nat} {V m ai : Int} (ha : InR da) (hb : InR db) (hai : ai = da.getD i 0) (hV : 0 ≤ V) (hm : 0 ≤ m)
    (h : V + bp i * bp (db.length + 1) * m = val (da.take i) * val db + bp i * (ai * val (db.take (db.length + 1)))) : m = 0 := by
  have h1 := mul_all hai (by omega) h
  have hx := val_take_lt ha (i + 1)
  have hy := val_lt hb
  have hy0 := val_nonneg hb
  have hQ := bp_pos db.length
  have hP := bp_pos i
  have e1 : val (da.take (i + 1)) * val db ≤ val (da.take (i + 1)) * bp db.length := Int.mul_le_mul_of_nonneg_left (by omega) hx.1
  have e2 : val (da.take (i + 1)) * bp db.length < bp (i + 1) * bp db.length := Int.mul_lt_mul_of_pos_right hx.2 hQ
  have e3 : bp (i + 1) * bp db.length = bp i * bp (db.length + 1) := by
    simp only [bp]; rw [Int.mul_comm 65536 (bp i), Int.mul_assoc]
  have hPQ : 0 < bp i * bp (db.length + 1) := Int.mul_pos hP (bp_pos _)
  rcases Int.lt_or_le 0 m with h2 | h2
  · have : bp i * bp (db.length + 1) * 1 ≤ bp i * bp (db.length + 1) * m := Int.mul_le_mul_of_nonneg_left (by omega) (by omega)
    omega
  · omega
theorem mul_sign (x y : Int) : x * y = if (!(decide (x < 0) == decide (y < 0))) = true then - ((x.natAbs : Int) * y.natAbs) else (x.natAbs : Int) * y.natAbs := by
  have cx : (x < 0 ∧ (x.natAbs : Int) = -x) ∨ (¬ x < 0 ∧ (x.natAbs : Int) = x) := by omega
  have cy : (y < 0 ∧ (y.natAbs : Int) = -y) ∨ (¬ y < 0 ∧ (y.natAbs : Int) = y) := by omega
  rcases cx with ⟨hx, ex⟩ | ⟨hx, ex⟩ <;> rcases cy with ⟨hy, ey⟩ | ⟨hy, ey⟩ <;> rw [ex, ey] <;> simp [hx, hy, Int.neg_mul, Int.mul_neg]
theorem prod_bound {d e : Int} (h0 : 0 ≤ d) (h1 : d < 65536) (h2 : 0 ≤ e) (h3 : e < 65536) : 0 ≤ d * e ∧ d * e ≤ 4294836225 := by
  refine ⟨Int.mul_nonneg h0 h2, ?_⟩
  have := Int.mul_le_mul (show d ≤ 65535 by omega) (show e ≤ 65535 by omega) h2 (by omega)
  omega

theorem made_zero (n : Nat) : madeCells #[Value.int .i64 0] n = (ints (List.replicate n 0)).toArray := by
  apply Array.ext
  · simp [madeCells, ints]
  · intro i h1 h2
    simp [madeCells, ints, Nat.mod_one]
theorem ints_set (os : List Int) (j : Nat) (d : Int) : (ints os).toArray.setIfInBounds j (.int .i64 d) = (ints (os.set j d)).toArray := by
  simp [ints, List.map_set]
theorem row_cell {w : World} {g : Nat} {os : List Int} (h : w.heap[g]? = some (.cells (ints os).toArray 3 (0, 0))) (j : Nat) (hj : j < os.length) :
    w.cell? ⟨g, j, none⟩ = some (.int .i64 (os.getD j 0)) ∧ w.frozen? ⟨g, j, none⟩ = false := by
  refine ⟨?_, by simp [World.frozen?, h]⟩
  rw [cell_of_row w g j _ _ _ h]
  simp only [ints, List.getElem?_toArray, List.getElem?_map, List.getD_eq_getElem?_getD, List.getElem?_eq_getElem hj]
  rfl
theorem row_set {w : World} {g : Nat} {os : List Int} (h : w.heap[g]? = some (.cells (ints os).toArray 3 (0, 0))) (j : Nat) (d : Int) :
    (w.setCell ⟨g, j, none⟩ (.int .i64 d)).heap[g]? = some (.cells (ints (os.set j d)).toArray 3 (0, 0)) := by
  simp only [World.setCell, Array.getElem?_modify, if_true]
  rw [h, ← ints_set]; rfl

/-- The world within Mul: the two arguments' structs, the result's, the product's and its row of digits. -/
def MulW (w wx : World) (b g : Nat) (b1 b2 : Bool) (A A' : Option Addr) (n n' c c' : Nat) (os : List Int) : Prop :=
  wx.heap[b]? = some (.cells #[.bool (!(b1 == b2)), .slice (some ⟨g, 0, none⟩) (n + n' + 1) (n + n' + 1)] 26 (0, 0)) ∧ wx.heap[g]? = some (.cells (ints os).toArray 3 (0, 0)) ∧
      wx.heap[w.heap.size]? = some (.cells #[.bool b1, .slice A n c] 26 (0, 0)) ∧ wx.heap[w.heap.size + 1]? = some (.cells #[.bool b2, .slice A' n' c'] 26 (0, 0)) ∧ wx.heap[w.heap.size + 1 + 1]? = some (.cells #[.bool false, .slice none 0 0] 26 (0, 0)) ∧ Below w.heap.size w wx
theorem MulW.set_ {w wx : World} {b g : Nat} {b1 b2 : Bool} {A A' : Option Addr} {n n' c c' : Nat} {os : List Int} (h : MulW w wx b g b1 b2 A A' n n' c c' os) (hb : b ≠ g) (hg : w.heap.size + 1 + 1 < g) (j : Nat) (d : Int) :
    MulW w (wx.setCell ⟨g, j, none⟩ (.int .i64 d)) b g b1 b2 A A' n n' c c' (os.set j d) := by
  obtain ⟨h1, h2, h3, h4, h5, h6⟩ := h
  exact ⟨block_set h1 hb _, row_set h2 j d, block_set h3 (p := ⟨g, j, none⟩) (by show w.heap.size ≠ g; omega) _, block_set h4 (p := ⟨g, j, none⟩) (by show w.heap.size + 1 ≠ g; omega) _, block_set h5 (p := ⟨g, j, none⟩) (by show w.heap.size + 1 + 1 ≠ g; omega) _, h6.setCell (p := ⟨g, j, none⟩) (by show w.heap.size ≤ g; omega) _⟩
theorem MulW.drewN {w wx : World} {b g : Nat} {b1 b2 : Bool} {A A' : Option Addr} {n n' c c' : Nat} {os : List Int} (h : MulW w wx b g b1 b2 A A' n n' c c' os) (k : Nat) : MulW w (wx.drewN k) b g b1 b2 A A' n n' c c' os :=
  ⟨h.1, h.2.1, h.2.2.1, h.2.2.2.1, h.2.2.2.2.1, below_drewN h.2.2.2.2.2 k⟩

/-- Five new blocks. -/
theorem five_new (w : World) (o1 o2 o3 o4 o5 : Obj) :
    (((((w.alloc o1).alloc o2).alloc o3).alloc o4).alloc o5).drew.heap[w.heap.size]? = some o1 ∧ (((((w.alloc o1).alloc o2).alloc o3).alloc o4).alloc o5).drew.heap[w.heap.size + 1]? = some o2 ∧
    (((((w.alloc o1).alloc o2).alloc o3).alloc o4).alloc o5).drew.heap[w.heap.size + 1 + 1]? = some o3 ∧ (((((w.alloc o1).alloc o2).alloc o3).alloc o4).alloc o5).drew.heap[w.heap.size + 1 + 1 + 1]? = some o4 ∧
    (((((w.alloc o1).alloc o2).alloc o3).alloc o4).alloc o5).drew.heap[w.heap.size + 1 + 1 + 1 + 1]? = some o5 ∧ Below w.heap.size w (((((w.alloc o1).alloc o2).alloc o3).alloc o4).alloc o5).drew := by
  have e1 : (w.alloc o1).heap.size = w.heap.size + 1 := by simp
  have e2 : ((w.alloc o1).alloc o2).heap.size = w.heap.size + 1 + 1 := by simp
  have e3 : (((w.alloc o1).alloc o2).alloc o3).heap.size = w.heap.size + 1 + 1 + 1 := by simp
  have e4 : ((((w.alloc o1).alloc o2).alloc o3).alloc o4).heap.size = w.heap.size + 1 + 1 + 1 + 1 := by simp
  have hd : (((((w.alloc o1).alloc o2).alloc o3).alloc o4).alloc o5).drew.heap = (((((w.alloc o1).alloc o2).alloc o3).alloc o4).alloc o5).heap := rfl
  rw [hd]
  refine ⟨?_, ?_, ?_, ?_, ?_, ?_⟩
  · exact block_old (block_old (block_old (block_old (block_new _ _) _) _) _) _
  · rw [← e1]; exact block_old (block_old (block_old (block_new _ _) _) _) _
  · rw [← e2]; exact block_old (block_old (block_new _ _) _) _
  · rw [← e3]; exact block_old (block_new _ _) _
  · rw [← e4]; exact block_new _ _
  · exact ((((((Below.refl _ _).alloc (Nat.le_refl _) _).alloc (by rw [e1]; omega) _).alloc (by rw [e2]; omega) _).alloc (by rw [e3]; omega) _).alloc (by rw [e4]; omega) _).drew

set_option maxRecDepth 100000 in
set_option maxHeartbeats 2000000 in
theorem mul_any (w : World) (u v : Value) (x y : Int) (h : NumIs w u x) (h' : NumIs w v y) (hf : Few x) (hf' : Few y) :
    Calls Tryd.prog 17 #[u, v] w fun e w' => ∃ u, e = .returned u ∧ NumIs w' u (x * y) ∧ Below w.heap.size w w' := by
  obtain ⟨A, n, c, rfl, hd⟩ := h
  obtain ⟨A', n', c', rfl, hd'⟩ := h'
  have HL := Lib.hid hd.len.1
  have HL' := Lib.hid hd'.len.1
  have hn : n ≤ 1000 := by have := HL.out; unfold Few at hf; omega
  have hn' : n' ≤ 1000 := by have := HL'.out; unfold Few at hf'; omega
  have H := Lib.hid hd
  have H' := Lib.hid hd'
  clear hd hd' hf hf'
  obtain ⟨b1, hb1⟩ : ∃ b, b = decide (x < 0) := ⟨_, rfl⟩
  obtain ⟨b2, hb2⟩ : ∃ b, b = decide (y < 0) := ⟨_, rfl⟩
  rw [← hb1, ← hb2]
  have HB1 := Lib.hid hb1
  have HB2 := Lib.hid hb2
  clear hb1 hb2
  have hmk : ∀ W : World, (Instr.makeSlice 24 (.int .i64 ((n : Int) + n' + 1)) (.int .i64 ((n : Int) + n' + 1))).run Tryd.prog W = .ok (.slice (some ⟨W.heap.size, 0, none⟩) (n + n' + 1) (n + n' + 1)) (W.alloc (.cells (ints (List.replicate (n + n' + 1) 0)).toArray 3)) := by
    intro W
    have h := run_make_row' (P := Tryd.prog) 24 3 (.int .i64 0) 8 Tryd.underlying24 info_int rfl .i64 .i64 (n + n' + 1) (by omega) (by omega) W
    rw [made_zero] at h
    simpa using h
  go_enter Tryd.func17, Tryd.ntmps17
  go_wp2
  go_cut [5] from 10 (fun s5 wx => ∃ (b g : Nat), s5 = .pointer (some ⟨b, 0, none⟩) ∧ w.heap.size + 1 + 1 < b ∧ w.heap.size + 1 + 1 < g ∧ b ≠ g ∧ Hid (MulW w wx b g b1 b2 A A' n n' c c' (List.replicate (n + n' + 1) 0)))
  case first =>
    go_region
    · go_wp2
      go_meet
      case rel =>
        obtain ⟨h1, h2, h3, h4, h5, h6⟩ := five_new w (.cells #[.bool b1, .slice A n c] 26) (.cells #[.bool b2, .slice A' n' c'] 26) (.cells #[.bool false, .slice none 0 0] 26) (.cells (ints (List.replicate (n + n' + 1) 0)).toArray 3) (.cells #[.bool (!(b1 == b2)), .slice (some ⟨w.heap.size + 1 + 1 + 1, 0, none⟩) (n + n' + 1) (n + n' + 1)] 26)
        exact ⟨w.heap.size + 1 + 1 + 1 + 1, w.heap.size + 1 + 1 + 1, rfl, by omega, by omega, by omega, h5, h4, h1, h2, h3, h6⟩
    · go_wp2
      go_meet
      case rel =>
        obtain ⟨h1, h2, h3, h4, h5, h6⟩ := five_new w (.cells #[.bool b1, .slice A n c] 26) (.cells #[.bool b2, .slice A' n' c'] 26) (.cells #[.bool false, .slice none 0 0] 26) (.cells #[.bool (!(b1 == b2)), .slice (some ⟨w.heap.size + 1 + 1 + 1 + 1, 0, none⟩) (n + n' + 1) (n + n' + 1)] 26) (.cells (ints (List.replicate (n + n' + 1) 0)).toArray 3)
        exact ⟨w.heap.size + 1 + 1 + 1, w.heap.size + 1 + 1 + 1 + 1, rfl, by omega, by omega, by omega, h4, h5, h1, h2, h3, h6⟩
  case rest =>
    obtain ⟨b, g, rfl, hb, hg, hbg, hW⟩ := hcut
    go_wp2
    go_loopg [6] n (fun gh si wx => ∃ (i : Nat) (os : List Int), gh = n - i ∧ i ≤ n ∧ si = .int .i64 (i : Int) ∧ os.length = n + n' + 1 ∧ Hid (MulW w wx b g b1 b2 A A' n n' c c' os ∧ InR os ∧ val os = val ((digs x.natAbs).take i) * val (digs y.natAbs)))
    case atStart => exact ⟨0, _, rfl, Nat.zero_le _, rfl, by simp, hW, InR.rep _, by rw [val_rep]; simp [val]⟩
    case round =>
      obtain ⟨i, os, rfl, hi, rfl, hol, hinv⟩ := hrel
      obtain ⟨a0, a1, _, _⟩ := blk2 hinv.out.1.2.2.1
      by_cases hlt : i < n
      · obtain ⟨G, rfl, hG, hcell⟩ := H.out.some (by omega)
        obtain ⟨ai, hai⟩ : ∃ d, d = (digs x.natAbs).getD i 0 := ⟨_, rfl⟩
        have hair := (digs_inR x.natAbs).getD i
        rw [← hai] at hair
        obtain ⟨hai0, hai1⟩ := hair
        have hci := hcell i hlt
        rw [← hai] at hci
        have HAI := Lib.hid hai
        clear hai hcell
        obtain ⟨wo, rfl⟩ : ∃ wo : World, wo = wr := ⟨_, rfl⟩
        go_wp2
        go_loopg [7, 8] (n' + 2) (fun gh sm sk wx => ∃ (k : Nat) (m : Int) (os2 : List Int), gh = n' + 2 - k ∧ k ≤ n' + 1 ∧ sm = .int .i64 m ∧ 0 ≤ m ∧ m ≤ 65535 ∧ sk = .int .i64 (k : Int) ∧ os2.length = n + n' + 1 ∧
            Hid (MulW w wx b g b1 b2 (some ⟨G, 0, none⟩) A' n n' c c' os2 ∧ InR os2 ∧ val os2 + bp i * bp k * m = val ((digs x.natAbs).take i) * val (digs y.natAbs) + bp i * (ai * val ((digs y.natAbs).take k))))
        case atStart => exact ⟨0, 0, os, rfl, by omega, rfl, by decide, by decide, rfl, hol, hinv.out.1, hinv.out.2.1, by rw [hinv.out.2.2]; simp [val]⟩
        case round =>
          obtain ⟨k, m, os2, rfl, hk, rfl, hm0, hm1, rfl, hol2, hinv2⟩ := hrel
          obtain ⟨a0, a1, _, _⟩ := blk2 hinv2.out.1.2.2.1
          obtain ⟨b0, b1', _, _⟩ := blk2 hinv2.out.1.2.2.2.1
          obtain ⟨o0, o1, _, _⟩ := blk2 hinv2.out.1.1
          have hbw := Lib.hid hinv2.out.1.2.2.2.2.2
          have hmore : k = n' + 1 → m = 0 := by
            intro hkk
            obtain ⟨_, h2, h3⟩ := hinv2.out
            rw [hkk, HL'.out] at h3
            exact mul_done (digs_inR _) (digs_inR _) HAI.out (val_nonneg h2) hm0 h3
          have hck : wr.cell? ⟨G, i, none⟩ = some (.int .i64 ai) := by rw [hbw.out.cell (p := ⟨G, i, none⟩) hG]; exact hci
          by_cases hlk : k < n' ∨ 0 < m
          · have hkn : k ≤ n' := by
              rcases Nat.lt_or_ge n' k with h | h
              · have := hmore (by omega); omega
              · exact h
            obtain ⟨bk, hbk⟩ : ∃ d, d = (digs y.natAbs).getD k 0 := ⟨_, rfl⟩
            have hbkr := (digs_inR y.natAbs).getD k
            rw [← hbk] at hbkr
            obtain ⟨hbk0, hbk1⟩ := hbkr
            have HBK := Lib.hid hbk
            obtain ⟨o, ho⟩ : ∃ d, d = os2.getD (i + k) 0 := ⟨_, rfl⟩
            have hor := (hinv2.out.2.1).getD (i + k)
            rw [← ho] at hor
            obtain ⟨ho0, ho1⟩ := hor
            obtain ⟨hco, hfo⟩ := row_cell hinv2.out.1.2.1 (i + k) (by omega)
            rw [← ho] at hco
            have HOO := Lib.hid ho
            have hp := prod_bound hai0 hai1 hbk0 hbk1
            obtain ⟨p, hpp⟩ : ∃ p, p = ai * bk := ⟨_, rfl⟩
            rw [← hpp] at hp
            obtain ⟨hp0, hp1⟩ := hp
            have HdB := Lib.hid (H'.out.below hbw.out (Nat.le_refl _))
            have HP := Lib.hid hpp
            clear hbk ho hmore
            have hx1 : (0 : Int) ≤ (i : Int) + k := by omega
            have hx2 : (i : Int) + k < (n : Int) + n' + 1 := by omega
            have hw0 : IntKind.i64.wrap ((i : Int) + k) = (i : Int) + k := IntWalk.i64_in _ (by omega)
            have hw1 : IntKind.i64.wrap (ai * bk) = p := by rw [← hpp]; exact IntWalk.i64_in _ (by omega)
            have hw2 : IntKind.i64.wrap (o + p) = o + p := IntWalk.i64_in _ (by omega)
            have hw3 : IntKind.i64.wrap (o + p + m) = o + p + m := IntWalk.i64_in _ (by omega)
            have hw4 : ((i : Int) + k).toNat = i + k := by omega
            clear hpp
            rcases (by omega : k < n' ∨ (¬ k < n' ∧ 0 < m)) with hka | ⟨hka, hkb⟩
            all_goals
              go_wp2
              go_quiet ((go_at_call 14; with_reducible exact Calls.quiet_of_same (at_is (HdB.out.drewN _) _ HBK)))
              obtain ⟨wq, hwq⟩ : ∃ wq, wq = wr.drewN nq := ⟨_, rfl⟩
              rw [← hwq]
              have hinv3 : Hid (MulW w wq b g b1 b2 (some ⟨G, 0, none⟩) A' n n' c c' os2) := by rw [hwq]; exact hinv2.out.1.drewN _
              clear hwq hco hfo o0 o1 a0 a1 b0 b1' hck hw1 hw2 hw3 hbw
              obtain ⟨hco, hfo⟩ := row_cell hinv3.out.2.1 (i + k) (by omega)
              obtain ⟨o0, o1, _, _⟩ := blk2 hinv3.out.1
              obtain ⟨s, hs⟩ : ∃ s, s = o + p + m := ⟨_, rfl⟩
              rw [← hs]
              have hs0 : 0 ≤ s := by omega
              have hs1 : s ≤ 4294967295 := by omega
              have HS := Lib.hid hs
              clear hs
              go_wp2
              have hnew := hinv3.out.set_ hbg hg (i + k) (s % 65536)
              have hr2 : InR (os2.set (i + k) (s % 65536)) := hinv2.out.2.1.set _ (by omega) (by omega)
              have hv2 : val (os2.set (i + k) (s % 65536)) + bp i * bp (k + 1) * (s / 65536) = val ((digs x.natAbs).take i) * val (digs y.natAbs) + bp i * (ai * val ((digs y.natAbs).take (k + 1))) := by
                rw [val_set _ _ _ (by omega), ← HOO.out, val_take_succ, ← HBK.out, bp_add]
                have h5 := mul_step (val os2) _ (bp i) (bp k) ai bk _ o m s p HS.out HP.out hinv2.out.2.2
                have e3 : bp i * bp (k + 1) = 65536 * (bp i * bp k) := by simp only [bp]; rw [Int.mul_left_comm]
                rw [e3]; exact h5
              clear hco hfo o0 o1
              go_roundg (n' + 2 - (k + 1))
              case measure => omega
              case rel => exact ⟨k + 1, s / 65536, os2.set (i + k) (s % 65536), rfl, by omega, rfl, by omega, by omega, by go_num, by simpa using hol2, hnew, hr2, hv2⟩
          · have hm2 : m = 0 := by omega
            have hkn : ¬ k < n' := by omega
            have hv := mul_all HAI.out (by have := HL'.out; omega) hinv2.out.2.2
            subst hm2
            have hinv4 : Hid (MulW w wr b g b1 b2 (some ⟨G, 0, none⟩) A' n n' c c' os2 ∧ InR os2 ∧ val os2 = val ((digs x.natAbs).take (i + 1)) * val (digs y.natAbs)) := ⟨hinv2.out.1, hinv2.out.2.1, by rw [Int.mul_zero, Int.add_zero] at hv; exact hv⟩
            clear hmore hck hlk hv hinv2
            go_wp2
            go_roundg (n - (i + 1))
            case measure => omega
            case rel => exact ⟨i + 1, os2, rfl, by omega, by go_num, hol2, hinv4⟩
      · have hin : i = n := by omega
        have hz : Hid (x * y = if (!(b1 == b2)) = true then - val os else val os) := by
          have h3 := hinv.out.2.2
          rw [val_take_all (by have := HL.out; omega), val_digs, val_digs] at h3
          show x * y = _
          rw [h3, HB1.out, HB2.out]
          exact mul_sign x y
        have hdig : Digs wr (.slice (some ⟨g, 0, none⟩) (n + n' + 1) (n + n' + 1)) os := by
          rw [← hol]
          exact Digs.of_row hinv.out.1.2.1 (by rw [List.take_of_length_le (by simp [ints])]) (Nat.le_refl _) (by rw [hol]; unfold maxLen; omega)
        obtain ⟨o0, o1, _, _⟩ := blk2 hinv.out.1.1
        have HD := Lib.hid hdig
        clear hdig
        go_wp2_with (go_at_call 15; refine (clean_num _ _ _ os _ HD.out hinv.out.2.1 hz.out).mono ?_; rintro e w' ⟨u, rfl, ⟨A2, n2, c2', rfl, hdig2⟩, hbel2⟩; have hres3 := block_kept hinv.out.1.2.2.2.2.1 hbel2; obtain ⟨dd0, dd1, gg0, gg1⟩ := blk2 hres3)
        refine bodyPost_ret (v := .agg #[.bool (decide (x * y < 0)), .slice A2 n2 c2']) (by simp [results, Tryd.results17, go_sem, dd0, dd1]) rfl ⟨_, rfl, num_stored ⟨_, _, _, rfl, hdig2⟩ hres3 _ _, ?_⟩
        exact below_stored (hinv.out.1.2.2.2.2.2.trans (hbel2.mono hinv.out.1.2.2.2.2.2.size)) (by omega) _ _
end Go.Proofs.YtkoihpfgleboiaaDoor
namespace Go.Proofs.YtkoihpfgleboiaaDoor
open Go.RowKit
end Go.Proofs.YtkoihpfgleboiaaDoor
namespace Go.Proofs.YtkoihpfgleboiaaDoor
open Go.RowKit
end Go.Proofs.YtkoihpfgleboiaaDoor
namespace Go.Proofs.YtkoihpfgleboiaaDoor
open Go.RowKit
set_option maxRecDepth 100000 in
set_option maxHeartbeats 1000000 in
theorem num_any (w : World) (h l : Int) (k : WOk h l) :
    Calls Tryd.prog 12 #[.agg #[.int .i64 h, .int .u64 l]] w fun e w' => ∃ u, e = .returned u ∧ NumIs w' u (wv h l) ∧ Below w.heap.size w w' := by
  obtain ⟨k0, k1, k2, k3⟩ := k
  have e1 := Lib.hid (show (w.alloc (.cells #[.int .i64 h, .int .u64 l] 35)).heap.size = w.heap.size + 1 by simp)
  obtain ⟨z, hz⟩ : ∃ z, z = wv h l := ⟨_, rfl⟩
  have HZ := Lib.hid hz
  rw [← hz]
  clear hz
  go_enter Tryd.func12, Tryd.ntmps12
  go_wp2_with fail
  refine (wide_any _ h l k0 k1 k2 k3).mono ?_
  rintro e w1 ⟨u, rfl, hu, b1⟩
  rw [show 18446744073709551616 * h + l = z from HZ.out.symm] at hu
  obtain ⟨A, n, c, rfl, hd⟩ := hu
  have kR := block_kept (block_new (w.alloc (.cells #[.int .i64 h, .int .u64 l] 35)) (.cells #[.bool false, .slice none 0 0] 26)) b1
  rw [e1.out] at kR
  obtain ⟨r0, r1, rf0, rf1⟩ := blk2 kR
  have KR := Lib.hid kR
  have HD := Lib.hid hd
  have hb : Hid (Below w.heap.size w w1) := (((Below.refl _ _).alloc (Nat.le_refl _) _).alloc (by rw [e1.out]; omega) _).trans (b1.mono (by simp only [World.size_alloc]; omega))
  clear kR hd b1
  go_wp2_with fail
  refine bodyPost_ret (v := .agg #[.bool (decide (z < 0)), .slice A n c]) (by simp [results, Tryd.results12, go_sem, r0, r1]) rfl ⟨_, rfl, num_stored ⟨_, _, _, rfl, HD.out⟩ KR.out _ _, below_stored hb.out (Nat.le_succ _) _ _⟩

/-- A number in a struct's block. -/
def NumAt (w : World) (b : Nat) (z : Int) : Prop := ∃ A n c, w.heap[b]? = some (.cells #[.bool (decide (z < 0)), .slice A n c] 26 (0, 0)) ∧ NumIs w (.agg #[.bool (decide (z < 0)), .slice A n c]) z
end Go.Proofs.YtkoihpfgleboiaaDoor
namespace Go.Proofs.YtkoihpfgleboiaaDoor
open Go.RowKit
theorem NumAt.below {w w' : World} {b : Nat} {z : Int} (h : NumAt w b z) (hb : Below w.heap.size w w') : NumAt w' b z := by
  obtain ⟨A, n, c, h1, h2⟩ := h
  exact ⟨A, n, c, block_kept h1 hb, h2.below hb (Nat.le_refl _)⟩
/-- Nine digits at most. -/
def Bd (x : Int) : Prop := (x.natAbs : Int) < bp 9
theorem Bd.few {x : Int} (h : Bd x) : Few x := few_of_lt (k := 9) (by decide) h
theorem Bd.neg {x : Int} (h : Bd x) : Bd (-x) := by unfold Bd at *; rw [Int.natAbs_neg]; exact h
end Go.Proofs.YtkoihpfgleboiaaDoor
namespace Go.Proofs.YtkoihpfgleboiaaDoor
open Go.RowKit
end Go.Proofs.YtkoihpfgleboiaaDoor
namespace Go.Proofs.YtkoihpfgleboiaaDoor
open Go.RowKit
end Go.Proofs.YtkoihpfgleboiaaDoor
namespace Go.Proofs.YtkoihpfgleboiaaDoor
open Go.RowKit
end Go.Proofs.YtkoihpfgleboiaaDoor
namespace Go.Proofs.YtkoihpfgleboiaaDoor
open Go.RowKit
end Go.Proofs.YtkoihpfgleboiaaDoor
namespace Go.Proofs.YtkoihpfgleboiaaDoor
open Go.RowKit
end Go.Proofs.YtkoihpfgleboiaaDoor
namespace Go.Proofs.YtkoihpfgleboiaaDoor
open Go.RowKit
theorem num_is (w : World) (h l : Int) (k : WOk h l) {z : Int} (hz : Hid (z = wv h l)) :
    Calls Tryd.prog 12 #[.agg #[.int .i64 h, .int .u64 l]] w fun e w' => ∃ u, e = .returned u ∧ NumIs w' u z ∧ Below w.heap.size w w' := by
  rw [hz.out]
  exact num_any w h l k
theorem bd_of {z : Int} (h : -170141183460469231731687303715884105729 ≤ z ∧ z < 170141183460469231731687303715884105728) : Bd z := by
  unfold Bd; rw [show bp 9 = 22300745198530623141535718272648361505980416 by decide]; omega

end Go.Proofs.YtkoihpfgleboiaaDoor
namespace Go.Proofs.YtkoihpfgleboiaaDoor
open Go.RowKit
end Go.Proofs.YtkoihpfgleboiaaDoor
namespace Go.Proofs.YtkoihpfgleboiaaDoor
open Go.RowKit
theorem times_bound {a b : Int} (a0 : -9223372036854775808 ≤ a) (a1 : a ≤ 9223372036854775807) (b0 : -9223372036854775808 ≤ b) (b1 : b ≤ 9223372036854775807) :
    -85070591730234615865843651857942052864 ≤ a * b ∧ a * b ≤ 85070591730234615865843651857942052864 := by
  have h : (a * b).natAbs ≤ 9223372036854775808 * 9223372036854775808 := by
    rw [Int.natAbs_mul]
    exact Nat.mul_le_mul (by omega) (by omega)
  omega

/-- The high word, by the signs. -/
theorem times_val {a b p hi lo ua ub h : Int} (hp : p = a * b) (hua : ua = if a < 0 then a + 18446744073709551616 else a) (hub : ub = if b < 0 then b + 18446744073709551616 else b)
    (hhi : hi = ua * ub / 18446744073709551616) (hlo : lo = ua * ub % 18446744073709551616)
    (bp0 : -85070591730234615865843651857942052864 ≤ p) (bp1 : p ≤ 85070591730234615865843651857942052864)
    (hh0 : -9223372036854775808 ≤ h) (hh1 : h ≤ 9223372036854775807) (hh : (h - (hi - (if a < 0 then ub else 0) - (if b < 0 then ua else 0))) % 18446744073709551616 = 0) : WOk h lo ∧ wv h lo = p := by
  have e : ua * ub = p + 18446744073709551616 * ((if a < 0 then b else 0) + (if b < 0 then a else 0) + (if a < 0 then (if b < 0 then 18446744073709551616 else 0) else 0)) := by
    rw [hp, hua, hub]
    split <;> split <;> simp only [Int.add_mul, Int.mul_add] <;> omega
  obtain ⟨X, hX⟩ : ∃ X, X = ua * ub := ⟨_, rfl⟩
  rw [← hX] at e hhi hlo
  unfold WOk wv
  rw [hua, hub] at hh
  clear hX hp
  split at e <;> split at e <;> simp_all <;> omega

set_option maxRecDepth 100000 in
set_option maxHeartbeats 2000000 in
theorem times_any (w : World) (a b : Int) (a0 : -9223372036854775808 ≤ a) (a1 : a ≤ 9223372036854775807) (b0 : -9223372036854775808 ≤ b) (b1 : b ≤ 9223372036854775807) :
    Calls Tryd.prog 31 #[.int .i64 a, .int .i64 b] w fun e w' => ∃ h l, e = .returned (.agg #[.int .i64 h, .int .u64 l]) ∧ Hid (WOk h l ∧ wv h l = a * b) ∧ Below w.heap.size w w' := by
  obtain ⟨p, hp⟩ : ∃ p, p = a * b := ⟨_, rfl⟩
  obtain ⟨q0, q1⟩ := times_bound a0 a1 b0 b1
  rw [← hp] at q0 q1 ⊢
  obtain ⟨ua, hua⟩ : ∃ x, x = if a < 0 then a + 18446744073709551616 else a := ⟨_, rfl⟩
  obtain ⟨ub, hub⟩ : ∃ x, x = if b < 0 then b + 18446744073709551616 else b := ⟨_, rfl⟩
  have wa : IntKind.u64.wrap a = ua := by rw [u64_wrap, hua]; split <;> omega
  have wb : IntKind.u64.wrap b = ub := by rw [u64_wrap, hub]; split <;> omega
  have ua0 : 0 ≤ ua ∧ ua ≤ 18446744073709551615 := by rw [hua]; split <;> omega
  have ub0 : 0 ≤ ub ∧ ub ≤ 18446744073709551615 := by rw [hub]; split <;> omega
  have hm := fun W => mul64 ua ub ua0.1 ub0.1 ua0.2 ub0.2 W
  obtain ⟨hi, hhi⟩ : ∃ x, x = ua * ub / 18446744073709551616 := ⟨_, rfl⟩
  obtain ⟨lo, hlo⟩ : ∃ x, x = ua * ub % 18446744073709551616 := ⟨_, rfl⟩
  rw [← hhi, ← hlo] at hm
  have HM := Lib.hid hm
  have A := Lib.hid (And.intro hua hub)
  have B := Lib.hid (And.intro hhi hlo)
  have HP := Lib.hid hp
  have Q := Lib.hid (And.intro q0 q1)
  clear hm hua hub hhi hlo hp q0 q1 ua0 ub0
  by_cases sa : a < 0 <;> by_cases sb : b < 0
  · obtain ⟨x, hx⟩ : ∃ x, IntKind.u64.wrap (hi - ub) = x := ⟨_, rfl⟩
    obtain ⟨y, hy⟩ : ∃ y, IntKind.u64.wrap (x - ua) = y := ⟨_, rfl⟩
    obtain ⟨h, hh⟩ : ∃ h, IntKind.i64.wrap y = h := ⟨_, rfl⟩
    have R : Hid (WOk h lo ∧ wv h lo = p) := by
      have h1 := hx; have h2 := hy; have h3 := hh
      rw [u64_wrap] at h1 h2; rw [i64_wrap] at h3
      exact times_val HP.out A.out.1 A.out.2 B.out.1 B.out.2 Q.out.1 Q.out.2 (by omega) (by omega) (by rw [if_pos sa, if_pos sb]; omega)
    go_enter Tryd.func31, Tryd.ntmps31
    go_wp2_with (go_at_call 42; (with_reducible refine (HM.out _).mono ?_); rintro e w1 ⟨rfl, rfl⟩)
    refine bodyPost_ret (v := .agg #[.int .i64 h, .int .u64 lo]) (by simp [results, Tryd.results31, go_sem]) rfl ⟨_, _, rfl, R, (Below.refl _ _).alloc (Nat.le_refl _) _⟩
  · obtain ⟨x, hx⟩ : ∃ x, IntKind.u64.wrap (hi - ub) = x := ⟨_, rfl⟩
    obtain ⟨h, hh⟩ : ∃ h, IntKind.i64.wrap x = h := ⟨_, rfl⟩
    have R : Hid (WOk h lo ∧ wv h lo = p) := by
      have h1 := hx; have h3 := hh
      rw [u64_wrap] at h1; rw [i64_wrap] at h3
      exact times_val HP.out A.out.1 A.out.2 B.out.1 B.out.2 Q.out.1 Q.out.2 (by omega) (by omega) (by rw [if_pos sa, if_neg sb]; omega)
    go_enter Tryd.func31, Tryd.ntmps31
    go_wp2_with (go_at_call 42; (with_reducible refine (HM.out _).mono ?_); rintro e w1 ⟨rfl, rfl⟩)
    refine bodyPost_ret (v := .agg #[.int .i64 h, .int .u64 lo]) (by simp [results, Tryd.results31, go_sem]) rfl ⟨_, _, rfl, R, (Below.refl _ _).alloc (Nat.le_refl _) _⟩
  · obtain ⟨x, hx⟩ : ∃ x, IntKind.u64.wrap (hi - ua) = x := ⟨_, rfl⟩
    obtain ⟨h, hh⟩ : ∃ h, IntKind.i64.wrap x = h := ⟨_, rfl⟩
    have R : Hid (WOk h lo ∧ wv h lo = p) := by
      have h1 := hx; have h3 := hh
      rw [u64_wrap] at h1; rw [i64_wrap] at h3
      exact times_val HP.out A.out.1 A.out.2 B.out.1 B.out.2 Q.out.1 Q.out.2 (by omega) (by omega) (by rw [if_neg sa, if_pos sb]; omega)
    go_enter Tryd.func31, Tryd.ntmps31
    go_wp2_with (go_at_call 42; (with_reducible refine (HM.out _).mono ?_); rintro e w1 ⟨rfl, rfl⟩)
    refine bodyPost_ret (v := .agg #[.int .i64 h, .int .u64 lo]) (by simp [results, Tryd.results31, go_sem]) rfl ⟨_, _, rfl, R, (Below.refl _ _).alloc (Nat.le_refl _) _⟩
  · obtain ⟨h, hh⟩ : ∃ h, IntKind.i64.wrap hi = h := ⟨_, rfl⟩
    have R : Hid (WOk h lo ∧ wv h lo = p) := by
      have h3 := hh
      rw [i64_wrap] at h3
      exact times_val HP.out A.out.1 A.out.2 B.out.1 B.out.2 Q.out.1 Q.out.2 (by omega) (by omega) (by rw [if_neg sa, if_neg sb]; omega)
    go_enter Tryd.func31, Tryd.ntmps31
    go_wp2_with (go_at_call 42; (with_reducible refine (HM.out _).mono ?_); rintro e w1 ⟨rfl, rfl⟩)
    refine bodyPost_ret (v := .agg #[.int .i64 h, .int .u64 lo]) (by simp [results, Tryd.results31, go_sem]) rfl ⟨_, _, rfl, R, (Below.refl _ _).alloc (Nat.le_refl _) _⟩
end Go.Proofs.YtkoihpfgleboiaaDoor
namespace Go.Proofs.YtkoihpfgleboiaaDoor
open Go.RowKit
theorem two_new2 (w : World) (o1 o2 : Obj) : ((w.alloc o1).alloc o2).heap[w.heap.size]? = some o1 ∧ ((w.alloc o1).alloc o2).heap[w.heap.size + 1]? = some o2 ∧ Below w.heap.size w ((w.alloc o1).alloc o2) := by
  have e1 : (w.alloc o1).heap.size = w.heap.size + 1 := by simp
  refine ⟨block_old (block_new _ _) _, ?_, ((Below.refl _ _).alloc (Nat.le_refl _) _).alloc (by simp) _⟩
  rw [← e1]; exact block_new _ _

end Go.Proofs.YtkoihpfgleboiaaDoor
namespace Go.Proofs.YtkoihpfgleboiaaDoor
open Go.RowKit
theorem times_num (w : World) (a b : Int) (a0 : -9223372036854775808 ≤ a) (a1 : a ≤ 9223372036854775807) (b0 : -9223372036854775808 ≤ b) (b1 : b ≤ 9223372036854775807) {p : Int} (hp : Hid (p = a * b)) :
    Calls Tryd.prog 31 #[.int .i64 a, .int .i64 b] w fun e w' => ∃ h l, e = .returned (.agg #[.int .i64 h, .int .u64 l]) ∧ Hid (WOk h l ∧ Hid (p = wv h l)) ∧ Below w.heap.size w w' := by
  refine (times_any w a b a0 a1 b0 b1).mono ?_
  rintro e w' ⟨h, l, he, hs, hb⟩
  exact ⟨h, l, he, ⟨hs.out.1, hp.out.trans hs.out.2.symm⟩, hb⟩

/-- Numbers of 64 bits in memory. -/
def Ints (w : World) (A : Option Addr) (n : Nat) (zs : List Int) : Prop :=
  zs.length = n ∧ (∀ k, -9223372036854775808 ≤ zs.getD k 0 ∧ zs.getD k 0 ≤ 9223372036854775807) ∧
    (0 < n → ∃ b o, A = some ⟨b, o, none⟩ ∧ b < w.heap.size ∧ ∀ i, i < n → w.cell? ⟨b, o + i, none⟩ = some (.int .i64 (zs.getD i 0)))
theorem Ints.below {w w' : World} {A : Option Addr} {n : Nat} {zs : List Int} (h : Ints w A n zs) (hb : Below w.heap.size w w') : Ints w' A n zs := by
  obtain ⟨h1, h2, h3⟩ := h
  refine ⟨h1, h2, fun h0 => ?_⟩
  obtain ⟨b, o, e, hl, hc⟩ := h3 h0
  exact ⟨b, o, e, Nat.lt_of_lt_of_le hl hb.size, fun i hi => (hb.cell (p := ⟨b, o + i, none⟩) hl).trans (hc i hi)⟩
end Go.Proofs.YtkoihpfgleboiaaDoor
namespace Go.Proofs.YtkoihpfgleboiaaDoor
open Go.RowKit
end Go.Proofs.YtkoihpfgleboiaaDoor
namespace Go.Proofs.YtkoihpfgleboiaaDoor
open Go.RowKit
theorem bd_few {z : Int} (h : -170141183460469231731687303715884105729 ≤ z) (k : z < 170141183460469231731687303715884105728) : Few z := (bd_of ⟨h, k⟩).few

end Go.Proofs.YtkoihpfgleboiaaDoor
namespace Go.Proofs.YtkoihpfgleboiaaDoor
open Go.RowKit
end Go.Proofs.YtkoihpfgleboiaaDoor
namespace Go.Proofs.YtkoihpfgleboiaaDoor
open Go.RowKit
/-- Numbers of 128 bits in memory. -/
def Pairs (w : World) (A : Option Addr) (n : Nat) (ps : List (Int × Int)) : Prop :=
  ps.length = n ∧ (∀ k, WOk (ps.getD k (0, 0)).1 (ps.getD k (0, 0)).2) ∧
    (0 < n → ∃ b o, A = some ⟨b, o, none⟩ ∧ b < w.heap.size ∧ ∀ i, i < n → w.cell? ⟨b, o + i * 2, none⟩ = some (.int .i64 (ps.getD i (0, 0)).1) ∧ w.cell? ⟨b, o + i * 2 + 1, none⟩ = some (.int .u64 (ps.getD i (0, 0)).2))
theorem Pairs.below {w w' : World} {A : Option Addr} {n : Nat} {ps : List (Int × Int)} (h : Pairs w A n ps) (hb : Below w.heap.size w w') : Pairs w' A n ps := by
  obtain ⟨h1, h2, h3⟩ := h
  refine ⟨h1, h2, fun h0 => ?_⟩
  obtain ⟨b, o, e, hl, hc⟩ := h3 h0
  exact ⟨b, o, e, Nat.lt_of_lt_of_le hl hb.size, fun i hi => ⟨(hb.cell (p := ⟨b, o + i * 2, none⟩) hl).trans (hc i hi).1, (hb.cell (p := ⟨b, o + i * 2 + 1, none⟩) hl).trans (hc i hi).2⟩⟩

end Go.Proofs.YtkoihpfgleboiaaDoor
