/-
  Texts in order, byte by byte, and the contract of cmp.Compare over them. Conditions: none.
-/
import Derived.Test.YtkoihpfgleboiaaTBase
import Derived.Laws.Cover1
import Derived.Lib.Strings
namespace Go.Proofs.Ytkoihpfgleboiaa.Tb
open Go.RowKit

theorem bl_irr : ∀ x : List UInt8, Op.bytesLess x x = false
  | [] => rfl
  | a :: x => by rw [Op.bytesLess, bl_irr x]; simp
theorem bl_tr : ∀ x y z : List UInt8, Op.bytesLess x y = true → Op.bytesLess y z = true → Op.bytesLess x z = true
  | [], [], _, h, _ => by simp [Op.bytesLess] at h
  | [], _ :: _, [], _, h => by simp [Op.bytesLess] at h
  | [], _ :: _, _ :: _, _, _ => by simp [Op.bytesLess]
  | _ :: _, [], _, h, _ => by simp [Op.bytesLess] at h
  | _ :: _, _ :: _, [], _, h => by simp [Op.bytesLess] at h
  | a :: x, b :: y, c :: z, h, k => by
    have ih := bl_tr x y z
    simp only [Op.bytesLess, Bool.or_eq_true, Bool.and_eq_true, decide_eq_true_eq, beq_iff_eq, UInt8.lt_iff_toNat_lt] at h k ⊢
    rcases h with h | ⟨rfl, h⟩
    · rcases k with k | ⟨rfl, k⟩
      · left; omega
      · left; exact h
    · rcases k with k | ⟨rfl, k⟩
      · left; exact k
      · right; exact ⟨rfl, ih h k⟩
theorem bl_tri : ∀ x y : List UInt8, Op.bytesLess x y = false → Op.bytesLess y x = false → x = y
  | [], [], _, _ => rfl
  | [], _ :: _, h, _ => by simp [Op.bytesLess] at h
  | _ :: _, [], _, h => by simp [Op.bytesLess] at h
  | a :: x, b :: y, h, k => by
    have ih := bl_tri x y
    simp only [Op.bytesLess, Bool.or_eq_false_iff, Bool.and_eq_false_iff, decide_eq_false_iff_not, beq_eq_false_iff_ne, UInt8.lt_iff_toNat_lt] at h k
    have e : a = b := UInt8.toNat_inj.1 (by omega)
    subst e
    rw [ih (h.2.resolve_left (fun n => n rfl)) (k.2.resolve_left (fun n => n rfl))]
theorem toList_data' (s : ByteArray) : s.toList = s.data.toList := ByteArray.toList_eq s
theorem bytes_inj {s t : ByteArray} (h : s.toList = t.toList) : s = t := by
  rw [toList_data', toList_data'] at h
  cases s; cases t
  simp only [ByteArray.mk.injEq]
  exact Array.toList_inj.1 h
instance : Ky ByteArray where
  lt := fun a b => Op.bytesLess a.toList b.toList
  irr := fun _a => bl_irr _
  tr := fun _a _b _c => bl_tr _ _ _
  tri := fun _a _b h k => bytes_inj (bl_tri _ _ h k)
  dec := inferInstance
  default := ByteArray.empty
theorem ltS (a b : ByteArray) : Ky.lt a b = Op.bytesLess a.toList b.toList := rfl
theorem beqS (a b : ByteArray) : (a.toList == b.toList) = decide (a = b) := by
  rw [Bool.eq_iff_iff, beq_iff_eq, decide_eq_true_eq]
  exact ⟨bytes_inj, fun h => by rw [h]⟩

set_option maxRecDepth 100000 in
theorem isNaN_string (a : ByteArray) (w : World) : Calls Try.prog 70 #[.string a] w fun e w' => e = .returned (.bool false) ∧ w = w' := by
  have h : (a.toList == a.toList) = true := by simp
  go_enter Try.func70, Try.ntmps70
  go_wp2
  go_ret
  exact ⟨rfl, rfl⟩
set_option maxRecDepth 100000 in
theorem compare_string (a b : ByteArray) (w : World) : Calls Try.prog 60 #[.string a, .string b] w fun e w' => e = .returned (.int .i64 (cmpK a b)) ∧ w = w' := by
  cases h1 : Op.bytesLess a.toList b.toList
  · cases h2 : Op.bytesLess b.toList a.toList
    · have e : Hid (cmpK a b = 0) := by show _ = _; unfold cmpK; rw [ltS, ltS, h1, h2]; rfl
      have h3 : (a.toList == b.toList) = true := by rw [beqS]; exact decide_eq_true (Ky.tri a b h1 h2)
      clear h2
      go_enter Try.func60, Try.ntmps60
      go_wp2_with (go_at_call 70; refine (isNaN_string _ _).mono ?_; rintro e w' ⟨rfl, rfl⟩)
      go_ret
      exact ⟨ret_int e.out.symm, rfl⟩
    · have e : Hid (cmpK a b = 1) := by show _ = _; unfold cmpK; rw [ltS, ltS, h1, h2]; rfl
      have h3 : (a.toList == b.toList) = false := by
        rw [beqS]
        refine decide_eq_false fun e => ?_
        rw [e, bl_irr] at h2; cases h2
      clear h2
      go_enter Try.func60, Try.ntmps60
      go_wp2_with (go_at_call 70; refine (isNaN_string _ _).mono ?_; rintro e w' ⟨rfl, rfl⟩)
      go_ret
      exact ⟨ret_int e.out.symm, rfl⟩
  · have e : Hid (cmpK a b = -1) := by show _ = _; unfold cmpK; rw [ltS, h1]; rfl
    go_enter Try.func60, Try.ntmps60
    go_wp2_with (go_at_call 70; refine (isNaN_string _ _).mono ?_; rintro e w' ⟨rfl, rfl⟩)
    go_ret
    exact ⟨ret_int e.out.symm, rfl⟩
end Go.Proofs.Ytkoihpfgleboiaa.Tb
