/-
  The contracts of number, bytes.Clone and put. Conditions: four bytes; at most two million bytes.
-/
import Derived.Test.YtnekjbdogdghnaaFSum
namespace Go.Proofs.Ytnekjbdogdghnaa.Fr
open Go.RowKit

theorem numF_snoc {l : List Int} {j : Nat} (h : j < l.length) (a : Nat) : numF a (l.take (j + 1)) = numF a (l.take j) * 256 + (l.getD j 0).toNat := by
  have e : l.getD j 0 = l[j] := by simp [List.getD, List.getElem?_eq_getElem h]
  rw [List.take_succ_eq_append_getElem h, e]
  generalize l[j] = x
  generalize l.take j = m
  induction m generalizing a with
  | nil => rfl
  | cons y m ih => exact ih _
theorem numF_bound {l : List Int} (h : bok l) (j : Nat) (hj : j ≤ l.length) : numF 0 (l.take j) < 256 ^ j := by
  induction j with
  | zero => simp [numF]
  | succ j ih =>
    have h1 := ih (by omega)
    have h2 := bok_at h (i := j) (by omega)
    rw [numF_snoc (by omega), Nat.pow_succ]
    omega
set_option maxRecDepth 100000 in
theorem clone_any (w : World) (v : Value) (l : List Int) (h : BAt w v l) (hl : l.length ≤ 2000000) :
    Calls Try.prog 45 #[v] w fun e w' => ∃ v', e = .returned v' ∧ w'.ownsRow w.heap.size 5 1 v' l.length (bv l) ∧ Below w.heap.size w w' := by
  obtain ⟨A, cap, rfl, _, hc⟩ := h
  obtain ⟨i0, hi0, hz0, hz1, hz2⟩ := info_parts u8Inf
  have q22 : ∀ (w : World) (a : Option Addr) (n c n' c' : Nat), (binOp .eql 37 (.slice a n c) (.slice none n' c')).run Try.prog w = .ok (.bool a.isNone) w := fun w a n c n' c' => Lib.run_eql_slice_nil w _ _ a n c n' c' Try.underlying37
  obtain ⟨n, hn⟩ : ∃ n, n = l.length := ⟨_, rfl⟩
  have HN := Lib.hid hn
  rw [← hn] at hc hl ⊢
  cases A with
  | none =>
    have h0 : l = [] := by
      cases l with
      | nil => rfl
      | cons x r => obtain ⟨g, o, h1, _⟩ := hc (by rw [hn]; simp); cases h1
    subst h0
    have HO : Hid (w.ownsRow w.heap.size 5 1 (.slice none 0 0) n (bv [])) := by
      show World.ownsRow _ _ _ _ _ _ _
      rw [hn]; exact World.ownsRow_nil _ _ _ _
    clear hn hc
    go_enter Try.func45, Try.ntmps45
    go_wp2
    go_ret
    exact ⟨_, rfl, HO.out, Below.refl _ _⟩
  | some a =>
    have HC : Hid (∀ j u, (bv l)[j]? = some u → (w.alloc (.cells #[] 5)).cell? (a.add j) = some u) := by
      intro j u hu
      have hj : j < n := by have := (List.getElem?_eq_some_iff.1 hu).1; rw [bv_len] at this; omega
      obtain ⟨g, o, h1, h2, h3⟩ := hc (by omega)
      cases h1
      rw [show (Addr.mk g o none).add j = ⟨g, o + j, none⟩ by unfold Addr.add; split <;> simp_all, bv_get hu]
      exact Lib.cell?_alloc_some _ (h3 j hj)
    clear hn hc
    go_enter Try.func45, Try.ntmps45
    go_wp2_with (at_builtin; refine wpList_append_own _ rfl _ _ 37 rfl w.heap.size 5 i0 (.int .u8 0) 1 1 Try.underlying37 hi0 hz0 hz1 hz2 rfl (by decide) _ _ _ rfl (World.ownsRow_made w #[] 0 (Nat.le_refl _) (Nat.zero_le _) rfl) a n cap (bv l) rfl (by rw [bv_len, HN.out]; omega) HC.out (bv_one _) (by unfold maxLen; omega) (by omega) (by simp) ?_; intro v' w1 hown hgrow hnil)
    go_ret
    exact ⟨v', rfl, by simpa using hown, ((Below.refl _ w).alloc (Nat.le_refl _) _).grown hgrow (by simp) (by intro k hk; have hk2 : w.heap.size = k := Option.some.inj hk; omega)⟩

theorem byte_of (n k : Nat) : IntKind.u8.wrap ((n / k : Nat) : Int) = ((n / k % 256 : Nat) : Int) := by rw [IntKind.wrap_u8]; omega
end Go.Proofs.Ytnekjbdogdghnaa.Fr
