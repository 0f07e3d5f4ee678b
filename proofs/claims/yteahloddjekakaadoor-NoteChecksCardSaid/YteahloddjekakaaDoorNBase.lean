/-
  Notes as values and as blocks; the table of kinds; the contracts of isKind, isPrice, unless, Word, Message and of the reference's What and Word. Conditions: where the table is read: it holds what the program's text lays.
-/
import Derived.Test.YteahloddjekakaaDoorYChk
import Derived.Test.YteahloddjekakaaDoorYTo
import Derived.Test.YteahloddjekakaaDoorYQuiet
namespace Go.Proofs.YteahloddjekakaaDoor.Nt
open Go.RowKit Td

abbrev Rw := ByteArray × Int
/-- A note without its rows. -/
structure Nt where
  k : Int
  p : Int
  d : Int
  t : Tr
  n : ByteArray
  a : Int
  hi : Int
  lo : Int

/-- The fourteen cells of a block. -/
theorem blk14 {w : World} {b : Nat} {x0 x1 x2 x3 x4 x5 x6 x7 x8 x9 x10 x11 x12 x13 : Value} {t : TypeId} (h : w.heap[b]? = some (.cells #[x0, x1, x2, x3, x4, x5, x6, x7, x8, x9, x10, x11, x12, x13] t (0, 0))) :
    (w.cell? ⟨b, 0, none⟩ = some x0 ∧ w.cell? ⟨b, 1, none⟩ = some x1 ∧ w.cell? ⟨b, 2, none⟩ = some x2 ∧ w.cell? ⟨b, 3, none⟩ = some x3 ∧ w.cell? ⟨b, 4, none⟩ = some x4 ∧ w.cell? ⟨b, 5, none⟩ = some x5 ∧ w.cell? ⟨b, 6, none⟩ = some x6) ∧
    w.cell? ⟨b, 7, none⟩ = some x7 ∧ w.cell? ⟨b, 8, none⟩ = some x8 ∧ w.cell? ⟨b, 9, none⟩ = some x9 ∧ w.cell? ⟨b, 10, none⟩ = some x10 ∧ w.cell? ⟨b, 11, none⟩ = some x11 ∧ w.cell? ⟨b, 12, none⟩ = some x12 ∧ w.cell? ⟨b, 13, none⟩ = some x13 :=
  ⟨⟨by rw [cell_of_row w b 0 _ _ _ h]; rfl, by rw [cell_of_row w b 1 _ _ _ h]; rfl, by rw [cell_of_row w b 2 _ _ _ h]; rfl, by rw [cell_of_row w b 3 _ _ _ h]; rfl, by rw [cell_of_row w b 4 _ _ _ h]; rfl, by rw [cell_of_row w b 5 _ _ _ h]; rfl, by rw [cell_of_row w b 6 _ _ _ h]; rfl⟩,
    by rw [cell_of_row w b 7 _ _ _ h]; rfl, by rw [cell_of_row w b 8 _ _ _ h]; rfl, by rw [cell_of_row w b 9 _ _ _ h]; rfl, by rw [cell_of_row w b 10 _ _ _ h]; rfl, by rw [cell_of_row w b 11 _ _ _ h]; rfl, by rw [cell_of_row w b 12 _ _ _ h]; rfl, by rw [cell_of_row w b 13 _ _ _ h]; rfl⟩
theorem fro14 {w : World} {b : Nat} {cs : Array Value} {t : TypeId} (h : w.heap[b]? = some (.cells cs t (0, 0))) (j : Nat) : w.frozen? ⟨b, j, none⟩ = false := by simp [World.frozen?, h]
/-- The seven cells of a block. -/
theorem blk7 {w : World} {b : Nat} {x0 x1 x2 x3 x4 x5 x6 : Value} {t : TypeId} (h : w.heap[b]? = some (.cells #[x0, x1, x2, x3, x4, x5, x6] t (0, 0))) :
    w.cell? ⟨b, 0, none⟩ = some x0 ∧ w.cell? ⟨b, 1, none⟩ = some x1 ∧ w.cell? ⟨b, 2, none⟩ = some x2 ∧ w.cell? ⟨b, 3, none⟩ = some x3 ∧ w.cell? ⟨b, 4, none⟩ = some x4 ∧ w.cell? ⟨b, 5, none⟩ = some x5 ∧ w.cell? ⟨b, 6, none⟩ = some x6 :=
  ⟨by rw [cell_of_row w b 0 _ _ _ h]; rfl, by rw [cell_of_row w b 1 _ _ _ h]; rfl, by rw [cell_of_row w b 2 _ _ _ h]; rfl, by rw [cell_of_row w b 3 _ _ _ h]; rfl, by rw [cell_of_row w b 4 _ _ _ h]; rfl, by rw [cell_of_row w b 5 _ _ _ h]; rfl, by rw [cell_of_row w b 6 _ _ _ h]; rfl⟩

/-! ### Kinds -/
def kwB : Nat → ByteArray
  | 1 => ⟨#[97, 99, 99, 101, 112, 116]⟩
  | 2 => ⟨#[99, 117, 116]⟩
  | 3 => ⟨#[112, 114, 105, 99, 101]⟩
  | 4 => ⟨#[115, 101, 116, 116, 108, 101]⟩
  | 5 => ⟨#[112, 111, 115, 116]⟩
  | 6 => ⟨#[99, 97, 108, 108]⟩
  | 7 => ⟨#[97, 110, 115, 119, 101, 114]⟩
  | 8 => ⟨#[115, 116, 111, 112]⟩
  | 9 => ⟨#[108, 101, 103]⟩
  | 10 => ⟨#[109, 97, 114, 107]⟩
  | 11 => ⟨#[114, 101, 112, 111, 114, 116]⟩
  | 12 => ⟨#[104, 97, 108, 116]⟩
  | _ => ⟨#[]⟩
/-- What a kind asks for. -/
def kp (k : Nat) : Bool := decide (8 ≤ k)
def kd (k : Nat) : Bool := decide (k = 4) || (decide (9 ≤ k) && decide (k ≤ 11))
def kt (k : Nat) : Bool := decide (k = 1) || decide (k = 9)
def kn (k : Nat) : Bool := decide (k = 3) || (decide (5 ≤ k) && decide (k ≤ 7))
def ka (k : Nat) : Bool := decide (k = 3) || (decide (5 ≤ k) && decide (k ≤ 6))
def kr (k : Nat) : Bool := decide (k = 10) || decide (k = 11)
def kc (k : Nat) : Bool := decide (k = 11)
/-- The table of kinds lies as the program's text lays it. -/
def KinC (w : World) : Prop := 0 < w.heap.size ∧ ∀ k, k ≤ 12 → w.cell? ⟨0, k * 8, none⟩ = some (.string (kwB k)) ∧ w.cell? ⟨0, k * 8 + 1, none⟩ = some (.bool (kp k)) ∧ w.cell? ⟨0, k * 8 + 2, none⟩ = some (.bool (kd k)) ∧ w.cell? ⟨0, k * 8 + 3, none⟩ = some (.bool (kt k)) ∧
  w.cell? ⟨0, k * 8 + 4, none⟩ = some (.bool (kn k)) ∧ w.cell? ⟨0, k * 8 + 5, none⟩ = some (.bool (ka k)) ∧ w.cell? ⟨0, k * 8 + 6, none⟩ = some (.bool (kr k)) ∧ w.cell? ⟨0, k * 8 + 7, none⟩ = some (.bool (kc k))
theorem KinC.block {w w' : World} (h : KinC w) (hs : w.heap.size ≤ w'.heap.size) (h0 : w'.heap[0]? = w.heap[0]?) : KinC w' := by
  have hc : ∀ j, w'.cell? ⟨0, j, none⟩ = w.cell? ⟨0, j, none⟩ := fun j => by simp only [World.cell?]; rw [h0]
  refine ⟨Nat.lt_of_lt_of_le h.1 hs, fun k hk => ?_⟩
  simp only [hc]
  exact h.2 k hk
theorem KinC.below {w w' : World} {B : Nat} (h : KinC w) (hb : Below B w w') (hB : 0 < B) : KinC w' := h.block hb.size (hb.block 0 hB)
theorem KinC.kept {w w' : World} (h : KinC w) (hb : Below w.heap.size w w') : KinC w' := h.below hb h.1
theorem KinC.drew {w : World} (h : KinC w) : KinC w.drew := h.kept (Below.refl _ _).drew
theorem KinC.alloc {w : World} (h : KinC w) (o : Obj) : KinC (w.alloc o) := h.kept ((Below.refl _ _).alloc (Nat.le_refl _) _)

/-- Is it a kind? -/
def isK (k : Int) : Bool := decide (1 ≤ k) && decide (k ≤ 12)
theorem isK_yes {k : Int} (h : isK k = true) : ∃ m : Nat, k = (m : Int) ∧ 1 ≤ m ∧ m ≤ 12 := by
  simp only [isK, Bool.and_eq_true, decide_eq_true_eq] at h
  exact ⟨k.toNat, by omega, by omega, by omega⟩
theorem isK_no {k : Int} (h : isK k = false) : k < 1 ∨ (¬ k < 1 ∧ 12 < k) := by
  simp only [isK, Bool.and_eq_false_iff, decide_eq_false_iff_not] at h
  omega
theorem isK_nat {m : Nat} (h1 : 1 ≤ m) (h2 : m ≤ 12) : isK (m : Int) = true := by
  simp only [isK, Bool.and_eq_true, decide_eq_true_eq]; omega

set_option maxRecDepth 100000 in
theorem isKind_any (w : World) (k : Int) {r : Bool} (hr : Hid (r = isK k)) : Calls Tryd.prog 25 #[.int .i64 k] w fun e w' => e = .returned (.bool r) ∧ w = w' := by
  obtain ⟨b1, h1⟩ : ∃ b, decide (1 ≤ k) = b := ⟨_, rfl⟩
  obtain ⟨b2, h2⟩ : ∃ b, decide (k ≤ 12) = b := ⟨_, rfl⟩
  have HR : Hid (r = (b1 && b2)) := by show _ = _; rw [hr.out]; unfold isK; rw [h1, h2]
  clear hr
  cases b1
  · have e1 := of_decide_eq_false h1
    obtain rfl : r = false := HR.out
    go_enter Tryd.func25, Tryd.ntmps25
    go_wp2
    go_ret
    exact ⟨rfl, rfl⟩
  · have e1 := of_decide_eq_true h1
    obtain rfl : r = b2 := HR.out
    go_enter Tryd.func25, Tryd.ntmps25
    go_wp2
    go_ret
    exact ⟨rfl, rfl⟩
/-- May it be a price? -/
def isP (n : Int) : Bool := decide (0 ≤ n) && decide (n < 2147483648)
set_option maxRecDepth 100000 in
theorem isPrice_any (w : World) (n : Int) {r : Bool} (hr : Hid (r = isP n)) : Calls Tryd.prog 59 #[.int .i64 n] w fun e w' => e = .returned (.bool r) ∧ w = w' := by
  obtain ⟨b1, h1⟩ : ∃ b, decide (0 ≤ n) = b := ⟨_, rfl⟩
  obtain ⟨b2, h2⟩ : ∃ b, decide (n < 2147483648) = b := ⟨_, rfl⟩
  have HR : Hid (r = (b1 && b2)) := by show _ = _; rw [hr.out]; unfold isP; rw [h1, h2]
  clear hr
  cases b1
  · have e1 := of_decide_eq_false h1
    obtain rfl : r = false := HR.out
    go_enter Tryd.func59, Tryd.ntmps59
    go_wp2
    go_ret
    exact ⟨rfl, rfl⟩
  · have e1 := of_decide_eq_true h1
    obtain rfl : r = b2 := HR.out
    go_enter Tryd.func59, Tryd.ntmps59
    go_wp2
    go_ret
    exact ⟨rfl, rfl⟩
def unl (b : Bool) (e : Int) : Int := if b = true then 0 else e
set_option maxRecDepth 100000 in
theorem unless_any (w : World) (b : Bool) (x : Int) {r : Int} (hr : Hid (r = unl b x)) : Calls Tryd.prog 28 #[.bool b, .int .i64 x] w fun e w' => e = .returned (.int .i64 r) ∧ w = w' := by
  cases b
  · obtain rfl : r = x := hr.out
    go_enter Tryd.func28, Tryd.ntmps28
    go_wp2
    go_ret
    exact ⟨rfl, rfl⟩
  · obtain rfl : r = 0 := hr.out
    go_enter Tryd.func28, Tryd.ntmps28
    go_wp2
    go_ret
    exact ⟨rfl, rfl⟩
/-- A kind's word. -/
def wordB (k : Int) : ByteArray := if isK k = true then kwB k.toNat else ⟨#[]⟩
set_option maxRecDepth 100000 in
theorem word_any (w : World) (hk : KinC w) (k : Int) {s : ByteArray} (hs : Hid (s = wordB k)) : Calls Tryd.prog 13 #[.int .i64 k] w fun e w' => e = .returned (.string s) ∧ w = w' := by
  cases hb : isK k
  · obtain rfl : s = ⟨#[]⟩ := by rw [hs.out]; unfold wordB; rw [hb]; rfl
    have HI := Lib.hid fun W => isKind_any W k (Lib.hid hb.symm)
    clear hb hk
    go_enter Tryd.func13, Tryd.ntmps13
    go_wp2_with (go_at_call 25; (with_reducible refine (HI.out _).mono ?_); rintro e w1 ⟨rfl, rfl⟩)
    go_ret
    exact ⟨rfl, rfl⟩
  · have HI := Lib.hid fun W => isKind_any W k (Lib.hid hb.symm)
    obtain rfl : s = kwB k.toNat := by rw [hs.out]; unfold wordB; rw [hb]; rfl
    obtain ⟨m, rfl, h1, h2⟩ := isK_yes hb
    have hc := (hk.2 m h2).1
    rw [Int.toNat_natCast]
    have h3 : (m : Int) < 13 := by omega
    have h4 : (0 : Int) ≤ (m : Int) := by omega
    clear hb hk hs
    go_enter Tryd.func13, Tryd.ntmps13
    go_wp2_with (go_at_call 25; (with_reducible refine (HI.out _).mono ?_); rintro e w1 ⟨rfl, rfl⟩)
    go_ret
    exact ⟨rfl, rfl⟩
end Go.Proofs.YteahloddjekakaaDoor.Nt
