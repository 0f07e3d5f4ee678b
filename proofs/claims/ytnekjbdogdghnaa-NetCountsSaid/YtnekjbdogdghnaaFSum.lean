/-
  The contracts of move and Sum: the check sum. Conditions: bytes.
-/
import Derived.Test.YtnekjbdogdghnaaFMath
namespace Go.Proofs.Ytnekjbdogdghnaa.Fr
open Go.RowKit

theorem bits_xor32 (a b : Nat) (ha : a < 4294967296) (hb : b < 4294967296) : bits .xor .u32 (a : Int) (b : Int) = ((a ^^^ b : Nat) : Int) := by
  show IntKind.u32.wrap ((BitVec.ofInt 32 (a : Int) ^^^ BitVec.ofInt 32 (b : Int)).toNat : Int) = _
  have := lt_xor ha hb
  have e1 : (BitVec.ofInt 32 (a : Int)).toNat = a := by rw [BitVec.toNat_ofInt]; omega
  have e2 : (BitVec.ofInt 32 (b : Int)).toNat = b := by rw [BitVec.toNat_ofInt]; omega
  rw [BitVec.toNat_xor, e1, e2]
  simp [IntKind.wrap, IntKind.bits, IntKind.signed]
  omega
/-- The slice v holds slices that hold the bytes ls. -/
def PAt (w : World) (v : Value) (ls : List (List Int)) : Prop :=
  ∃ A cap, v = .slice A ls.length cap ∧ ls.length ≤ cap ∧ (0 < ls.length → ∃ g o, A = some ⟨g, o, none⟩ ∧ g < w.heap.size ∧ ∀ i, i < ls.length → ∃ u, w.cell? ⟨g, o + i, none⟩ = some u ∧ BAt w u (ls.getD i []))
theorem PAt.one {w : World} {u : Value} {l : List Int} (h : BAt w u l) : PAt (w.alloc (.cells #[u] 37)) (.slice (some ⟨w.heap.size, 0, none⟩) 1 1) [l] :=
  ⟨_, 1, rfl, Nat.le_refl _, fun _ => ⟨w.heap.size, 0, rfl, by simp, fun i hi => by
    obtain rfl : i = 0 := by simp at hi; omega
    exact ⟨u, (block_cell (block_new w _)).1, h.kept ((Below.refl _ w).alloc (Nat.le_refl _) _)⟩⟩⟩
theorem PAt.kept {w w' : World} {v : Value} {ls : List (List Int)} (h : PAt w v ls) (hb : Below w.heap.size w w') : PAt w' v ls := by
  obtain ⟨A, cap, h1, h2, h3⟩ := h
  refine ⟨A, cap, h1, h2, fun hp => ?_⟩
  obtain ⟨g, o, h4, h5, h6⟩ := h3 hp
  refine ⟨g, o, h4, Nat.lt_of_lt_of_le h5 hb.size, fun i hi => ?_⟩
  obtain ⟨u, h7, h8⟩ := h6 i hi
  exact ⟨u, (hb.cell (p := ⟨g, o + i, none⟩) h5).trans h7, h8.kept hb⟩
theorem crcF_snoc {l : List Int} {j : Nat} (h : j < l.length) (r : Nat) : crcF r (l.take (j + 1)) = mvF (crcF r (l.take j)) (l.getD j 0).toNat := by
  rw [List.take_succ_eq_append_getElem h, crcF_app]
  show mvF _ _ = _
  simp [List.getD, List.getElem?_eq_getElem h]
theorem flat_snoc {ls : List (List Int)} {i : Nat} (h : i < ls.length) : (ls.take (i + 1)).flatten = (ls.take i).flatten ++ ls.getD i [] := by
  have e : ls.getD i [] = ls[i] := by simp [List.getD, List.getElem?_eq_getElem h]
  rw [List.take_succ_eq_append_getElem h, List.flatten_append, e, List.flatten_cons, List.flatten_nil, List.append_nil]
def boks (ls : List (List Int)) : Prop := ls.length ≤ 1000 ∧ ∀ l ∈ ls, bok l ∧ l.length ≤ 2000000
theorem boks_at {ls : List (List Int)} (h : boks ls) (i : Nat) : bok (ls.getD i []) ∧ (ls.getD i []).length ≤ 2000000 := by
  by_cases hi : i < ls.length
  · have e : ls.getD i [] = ls[i] := by simp [List.getD, List.getElem?_eq_getElem hi]
    rw [e]; exact h.2 _ (List.getElem_mem hi)
  · have e : ls.getD i [] = [] := by simp [List.getD, List.getElem?_eq_none (Nat.le_of_not_lt hi)]
    rw [e]; exact ⟨fun x hx => absurd hx (List.not_mem_nil), by decide⟩
theorem boks_flat {ls : List (List Int)} (h : boks ls) : bok ls.flatten := fun x hx => by
  obtain ⟨l, hl, hx2⟩ := List.mem_flatten.1 hx
  exact (h.2 l hl).1 x hx2
theorem boks_take {ls : List (List Int)} (h : boks ls) (i : Nat) : boks (ls.take i) := ⟨by have := h.1; rw [List.length_take]; omega, fun l hl => h.2 l (List.mem_of_mem_take hl)⟩
theorem boks_one {l : List Int} (h : bok l) (hl : l.length ≤ 2000000) : boks [l] := ⟨by simp, fun m hm => by rw [List.mem_singleton] at hm; subst hm; exact ⟨h, hl⟩⟩
theorem not32 (r : Nat) (h : r < 4294967296) : bits .xor .u32 IntKind.u32.max (r : Int) = ((4294967295 - r : Nat) : Int) := by
  show IntKind.u32.wrap ((BitVec.ofInt 32 IntKind.u32.max ^^^ BitVec.ofInt 32 (r : Int)).toNat : Int) = _
  have h3 : BitVec.ofInt 32 IntKind.u32.max = BitVec.allOnes 32 := by decide
  rw [h3, BitVec.allOnes_xor, BitVec.toNat_not, BitVec.toNat_ofInt]
  simp [IntKind.wrap, IntKind.bits, IntKind.signed]
  omega

end Go.Proofs.Ytnekjbdogdghnaa.Fr
