/-
  Decimal texts: plain mathematics, and a row of bytes in memory. Conditions: those in each lemma.
-/
import Derived.Test.YtjnohdkpkbiclaaInt
import Derived.Laws.BytesString
namespace Go.Proofs.Ytjnohdkpkbiclaa
open Go.RowKit

/-- The digits of n as bytes, at most so many. -/
def decF : Nat → Nat → List Int
  | 0, _ => []
  | f + 1, n => if n < 10 then [48 + (n : Int)] else decF f (n / 10) ++ [48 + ((n % 10 : Nat) : Int)]
/-- The number of digits. -/
def numOf (cs : List Int) : Int := cs.foldl (fun a c => a * 10 + (c - 48)) 0
theorem numOf_snoc (cs : List Int) (c : Int) : numOf (cs ++ [c]) = numOf cs * 10 + (c - 48) := by simp [numOf]
/-- All are digits. -/
def AllDig (cs : List Int) : Prop := ∀ c ∈ cs, 48 ≤ c ∧ c ≤ 57
theorem AllDig.snoc {cs : List Int} {c : Int} (h : AllDig cs) (h0 : 48 ≤ c) (h1 : c ≤ 57) : AllDig (cs ++ [c]) := fun x hx => by
  rcases List.mem_append.1 hx with hx | hx
  · exact h x hx
  · simp at hx; omega
theorem decF_ok (f n : Nat) (hf : 0 < f) (hn : n < 10 ^ f) : AllDig (decF f n) ∧ numOf (decF f n) = n ∧ decF f n ≠ [] ∧ ((decF f n).head? = some 48 → decF f n = [48]) ∧ (n = 0 ∨ (decF f n).head? ≠ some 48) := by
  induction f generalizing n with
  | zero => omega
  | succ f ih =>
    unfold decF
    by_cases h : n < 10
    · rw [if_pos h]
      refine ⟨fun c hc => by simp at hc; omega, by simp [numOf]; omega, by simp, fun hh => by simp at hh ⊢; omega, by simp; omega⟩
    · rw [if_neg h]
      have hf0 : 0 < f := by
        rcases Nat.eq_zero_or_pos f with rfl | h0
        · simp at hn; omega
        · exact h0
      have hn2 : n / 10 < 10 ^ f := by rw [Nat.pow_succ] at hn; omega
      obtain ⟨h1, h2, h3, h4, h5⟩ := ih (n / 10) hf0 hn2
      have h6 : (decF f (n / 10)).head? ≠ some 48 := by
        rcases h5 with h5 | h5
        · omega
        · exact h5
      have h7 : (decF f (n / 10) ++ [48 + ((n % 10 : Nat) : Int)]).head? ≠ some 48 := by
        cases hd : decF f (n / 10) with
        | nil => exact absurd hd h3
        | cons a t => rw [hd] at h6; simpa using h6
      exact ⟨h1.snoc (by omega) (by omega), by rw [numOf_snoc, h2]; omega, by simp, fun hh => absurd hh h7, .inr h7⟩

/-- Bytes as values, as a string. -/
def bv (bs : List Int) : List Value := bs.map (Value.int .u8)
def mkStr (bs : List Int) : ByteArray := bs.foldl (fun r n => r.push (UInt8.ofNat n.toNat)) ByteArray.empty

theorem brow_cell {w : World} {g : Nat} {t : TypeId} {bs : List Int} (h : w.heap[g]? = some (.cells (bv bs).toArray t (0, 0))) (j : Nat) (hj : j < bs.length) :
    w.cell? ⟨g, j, none⟩ = some (.int .u8 (bs.getD j 0)) ∧ w.frozen? ⟨g, j, none⟩ = false := by
  refine ⟨?_, by simp [World.frozen?, h]⟩
  rw [cell_of_row w g j _ _ _ h]
  simp only [bv, List.getElem?_toArray, List.getElem?_map, List.getD_eq_getElem?_getD, List.getElem?_eq_getElem hj]
  rfl
theorem brow_set {w : World} {g : Nat} {t : TypeId} {bs : List Int} (h : w.heap[g]? = some (.cells (bv bs).toArray t (0, 0))) (j : Nat) (d : Int) :
    (w.setCell ⟨g, j, none⟩ (.int .u8 d)).heap[g]? = some (.cells (bv (bs.set j d)).toArray t (0, 0)) := by
  simp only [World.setCell, Array.getElem?_modify, if_true]
  rw [h]
  simp [bv, List.map_set]
/-- The string of the row's bytes from k on. -/
theorem brow_string {w : World} {g : Nat} {t : TypeId} {bs : List Int} (h : w.heap[g]? = some (.cells (bv bs).toArray t (0, 0))) (k n c : Nat) (hn : k + n = bs.length) :
    (convert 89 9 (.slice (some ⟨g, k, none⟩) n c)).run Try.prog w = .ok (.string (mkStr (bs.drop k))) w := by
  rw [run_convert_bytes_string w 89 9 5 _ _ _ Try.underlying89 Try.underlying5 Try.underlying9]
  refine run_bytesToString w _ n c (bs.drop k) ?_
  have hl : ((bs.drop k).map (Value.int .u8)).length = n := by simp; omega
  have := run_loadCells_list (P := Try.prog) (w := w) ⟨g, k, none⟩ ((bs.drop k).map (Value.int .u8)) (fun j v hv => by
    have e : (⟨g, k, none⟩ : Addr).add j = ⟨g, k + j, none⟩ := by unfold Addr.add; split <;> simp_all
    rw [e, cell_of_row w g (k + j) _ _ _ h]
    simp only [List.getElem?_map, List.getElem?_drop] at hv
    simpa [bv] using hv)
  rw [hl] at this
  exact this
theorem mkStr_data (bs : List Int) : (mkStr bs).data.toList = bs.map (fun n => UInt8.ofNat n.toNat) := by
  have : ∀ (l : List Int) (r : ByteArray), (l.foldl (fun r n => r.push (UInt8.ofNat n.toNat)) r).data.toList = r.data.toList ++ l.map (fun n => UInt8.ofNat n.toNat) := by
    intro l
    induction l with
    | nil => intro r; simp
    | cons a t ih => intro r; rw [List.foldl_cons, ih]; simp [ByteArray.push]
  have h := this bs ByteArray.empty
  simpa [mkStr] using h
end Go.Proofs.Ytjnohdkpkbiclaa
