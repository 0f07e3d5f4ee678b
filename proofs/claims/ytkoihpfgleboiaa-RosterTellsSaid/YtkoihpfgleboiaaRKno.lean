/-
  The chapter's examples. Conditions: none.
-/
import Derived.Test.YtkoihpfgleboiaaRSame
namespace Go.Proofs.Ytkoihpfgleboiaa.Ro
open Go.RowKit Tb Td

def exM : List (ByteArray × Int) := [({ data := #[97, 108, 102, 97] }, 0), ({ data := #[98, 101, 116, 97] }, 1)]
theorem ex_new : newE 3 [] exM = 0 := by show _ = _; kernel_rfl
theorem ex_get : Si.getL (meL exM) { data := #[98, 101, 116, 97] } = 1 := by show _ = _; kernel_rfl
theorem ex_has : hasB (meL exM) { data := #[98, 101, 116, 97] } = true := by show _ = _; kernel_rfl
theorem ex_len : (meL exM).length ≤ 1000 := Nat.le_trans (meL_len _) (by decide)
theorem ex_peers : peersL 3 0 = [1, 2] := by show _ = _; kernel_rfl
theorem ex_mrd (w : World) (t : TypeId) : MRd (w.alloc (.cells #[.string { data := #[97, 108, 102, 97] }, .int .i64 0, .string { data := #[98, 101, 116, 97] }, .int .i64 1] t)) (some ⟨w.heap.size, 0, none⟩) exM := by
  refine .inr ⟨_, _, rfl, by simp, fun i m h => ?_⟩
  have hb := block_new w (.cells #[.string { data := #[97, 108, 102, 97] }, .int .i64 0, .string { data := #[98, 101, 116, 97] }, .int .i64 1] t)
  match i, h with
  | 0, h =>
    simp only [exM, List.getElem?_cons_zero, Option.some.injEq] at h
    subst h
    exact ⟨by rw [cell_of_row _ _ _ _ _ _ hb]; rfl, by rw [cell_of_row _ _ _ _ _ _ hb]; rfl⟩
  | 1, h =>
    simp only [exM, List.getElem?_cons_succ, List.getElem?_cons_zero, Option.some.injEq] at h
    subst h
    exact ⟨by rw [cell_of_row _ _ _ _ _ _ hb]; rfl, by rw [cell_of_row _ _ _ _ _ _ hb]; rfl⟩
  | j + 2, h => simp [exM] at h
theorem ex_nrd (w : World) (t : TypeId) : NRd (w.alloc (.cells #[.int .i64 1, .int .i64 2] t)) (some ⟨w.heap.size, 0, none⟩) [1, 2] := by
  refine .inr ⟨_, _, rfl, by simp, fun i m h => ?_⟩
  have hb := block_new w (.cells #[.int .i64 1, .int .i64 2] t)
  match i, h with
  | 0, h =>
    simp only [List.getElem?_cons_zero, Option.some.injEq] at h
    subst h
    rw [cell_of_row _ _ _ _ _ _ hb]; rfl
  | 1, h =>
    simp only [List.getElem?_cons_succ, List.getElem?_cons_zero, Option.some.injEq] at h
    subst h
    rw [cell_of_row _ _ _ _ _ _ hb]; rfl
  | j + 2, h => simp at h

set_option maxRecDepth 100000 in
set_option maxHeartbeats 2000000 in
theorem known_any (w : World) : Calls Try.prog 9 #[] w fun e w' => e = .returned (.bool true) ∧ Below w.heap.size w w' := by
  have HN := Lib.hid (new_ok (w.alloc (.cells #[.string { data := #[97, 108, 102, 97] }, .int .i64 0, .string { data := #[98, 101, 116, 97] }, .int .i64 1] 64)) 3 none 0 [] (some ⟨w.heap.size, 0, none⟩) 2 exM (.inl rfl) (ex_mrd w _) ex_new)
  have HB0 : Hid (Below w.heap.size w (w.alloc (.cells #[.string { data := #[97, 108, 102, 97] }, .int .i64 0, .string { data := #[98, 101, 116, 97] }, .int .i64 1] 64))) := (Below.refl _ _).alloc (Nat.le_refl _) _
  have HH : Hid (∀ W b, RosS W b 3 (isL []) (meL exM) → Calls Try.prog 12 #[.pointer (some ⟨b, 0, none⟩), .string { data := #[98, 101, 116, 97] }] W fun e w' => e = .returned (.tuple #[.int .i64 1, .int .i64 0]) ∧ Below W.heap.size W w') := fun W b hS => by
    have := home_any W _ 3 _ _ { data := #[98, 101, 116, 97] } (.inr ⟨b, rfl, hS⟩) (meL_asc _) ex_len
    rw [ex_get, ex_has] at this
    exact this
  have HP : Hid (∀ W b, RosS W b 3 (isL []) (meL exM) → Calls Try.prog 22 #[.pointer (some ⟨b, 0, none⟩), .int .i64 0] W fun e w' => ∃ A c, e = .returned (.slice A 2 c) ∧ NRd w' A [1, 2] ∧ Below W.heap.size W w') := fun W b hS => by
    refine (peers_any W _ 3 0 _ _ (.inr ⟨b, rfl, hS⟩) (by decide)).mono ?_
    rw [ex_peers]
    rintro e w' ⟨v, rfl, ho, hb⟩
    obtain ⟨A, c, rfl, hr⟩ := own_nums ho
    exact ⟨A, c, rfl, hr, hb⟩
  have HS : Hid (∀ W A B c1 c2, NRd W A [1, 2] → NRd W B [1, 2] → Calls Try.prog 21 #[.slice A 2 c1, .slice B 2 c2] W fun e w' => e = .returned (.bool true) ∧ Below W.heap.size W w') := fun W A B c1 c2 h1 h2 =>
    same_nums W A B c1 c2 [1, 2] h1 h2 (by decide)
  go_enter Try.func9, Try.ntmps9
  go_wp2_with (first
    | (go_at_call 29; refine HN.out.mono ?_; rintro e w1 ⟨b, rfl, hS1, hb1⟩; have HS1 := Lib.hid hS1; have HB1 := Lib.hid (HB0.out.trans (hb1.mono HB0.out.size)); clear hS1 hb1)
    | (go_at_call 12; refine (HH.out _ _ HS1.out).mono ?_; rintro e w2 ⟨rfl, hb2⟩; have HS2 := Lib.hid (HS1.out.below hb2); have HB2 := Lib.hid (HB1.out.trans (hb2.mono HB1.out.size)); clear hb2)
    | (go_at_call 22; refine (HP.out _ _ HS2.out).mono ?_; rintro e w3 ⟨A, c, rfl, hr3, hb3⟩; have HR3 := Lib.hid hr3; have HB3 := Lib.hid (HB2.out.trans (hb3.mono HB2.out.size)); clear hr3 hb3)
    | (go_at_call 21; refine (HS.out _ _ _ _ _ (HR3.out.below ((Below.refl _ _).alloc (Nat.le_refl _) _)) (ex_nrd _ _)).mono ?_; rintro e w4 ⟨rfl, hb4⟩; have HB4 := Lib.hid ((HB3.out.alloc HB3.out.size _).trans (hb4.mono (HB3.out.alloc HB3.out.size _).size)); clear hb4))
  go_ret
  exact ⟨rfl, HB4.out⟩
end Go.Proofs.Ytkoihpfgleboiaa.Ro
