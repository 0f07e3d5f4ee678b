/-
  The store and the reference's store go together: a unit, grow. Conditions: as grow's.
-/
import Derived.Test.YtffeinbbgfogoaaSRgrow
namespace Go.Proofs.Ytffeinbbgfogoaa.Sr
open Go.RowKit Fr

/-- The store's cells and the reference's tell the same. -/
structure Rl (s : S) (x : RS) : Prop where
  dn : x.dn = s.d
  rm : x.rm = s.room
  used : s.used = usedL x.D
  lf : x.lf = if s.a = true then s.n else -1
  left : s.a = true → 0 ≤ s.n ∧ s.n ≤ 9223372036854775807
theorem Rl.bounds {s : S} {x : RS} (h : Rl s x) : -1 ≤ x.lf ∧ x.lf ≤ 9223372036854775807 := by
  rw [h.lf]
  split
  · rename_i ha; have := h.left ha; omega
  · omega
theorem Rl.cnt {s : S} {x : RS} (h : Rl s x) (n : Nat) : cnt x n = (useN s n).toNat ∧ (useN s n) = (cnt x n : Int) := by
  unfold Sr.cnt useN
  rw [h.lf]
  by_cases ha : s.a = true
  · have := h.left ha
    rw [if_pos ha, if_neg (by omega)]
    by_cases hl : s.n < n
    · rw [if_pos ⟨ha, hl⟩]; omega
    · rw [if_neg (fun h => hl h.2)]; omega
  · rw [if_neg ha, if_pos (by omega), if_neg (fun h => ha h.1)]; omega
theorem Rl.lfA {s : S} {x : RS} (h : Rl s x) (n : Nat) : Sr.lfA x.lf (Sr.cnt x n) = if (useS s n).a = true then (useS s n).n else -1 := by
  have hc := h.cnt n
  unfold Sr.lfA
  rw [hc.1, h.lf]
  unfold useN useS
  by_cases ha : s.a = true
  · have := h.left ha
    rw [if_pos ha, if_neg (by omega), if_pos ha]
    by_cases hl : s.n < n
    · rw [if_pos ⟨ha, hl⟩, if_pos hl]; simp [ha]; omega
    · rw [if_neg (fun h => hl h.2), if_neg hl]; simp [ha]
  · rw [if_neg ha, if_pos (by omega), if_neg ha, if_neg ha]
theorem useS_left {s : S} (h : s.a = true → 0 ≤ s.n ∧ s.n ≤ 9223372036854775807) (n : Nat) : (useS s n).a = true → 0 ≤ (useS s n).n ∧ (useS s n).n ≤ 9223372036854775807 := (useS_keeps s n (by omega) h).2.2
theorem useS_d {s : S} {x : RS} (h : Rl s x) (hd : s.d = false) (n : Nat) : (useS s n).d = gD (cnt x n) n ∧ dwn (useS s n) = gE (cnt x n) n := by
  have hc := (h.cnt n).2
  have h1 : (useS s n).d = gD (cnt x n) n := by
    unfold gD useS
    unfold useN at hc
    by_cases ha : s.a = true
    · rw [if_pos ha]
      by_cases hl : s.n < n
      · rw [if_pos ⟨ha, hl⟩] at hc
        rw [if_pos hl]
        have : cnt x n ≠ n := by omega
        simp [this]
      · rw [if_neg (fun h => hl h.2)] at hc
        rw [if_neg hl]
        have : cnt x n = n := by omega
        simp [this, hd]
    · rw [if_neg (fun h => ha h.1)] at hc
      rw [if_neg ha]
      have : cnt x n = n := by omega
      simp [this, hd]
  refine ⟨h1, ?_⟩
  unfold dwn gE
  rw [h1]
  unfold gD
  by_cases hn : cnt x n = n
  · simp [hn]
  · simp [hn]
/-- A unit. -/
theorem ruse_any {w : World} {q : Nat} {x : RS} {s : S} (h : RfR w q x) (hr : Rl s x) (hd : s.d = false) :
    Calls Try.prog 56 #[.pointer (some ⟨q, 0, none⟩)] w fun e w' => e = .returned (.bool (decide (useN s 1 = 1))) ∧ ∃ x', Rm w w' q x x' ∧ x'.D = x.D ∧ Rl (useS s 1) x' := by
  have hb := hr.bounds
  have hk := useS_keeps s 1 (by omega) hr.left
  have hlf := hr.lf
  by_cases h0 : x.lf = 0
  · have ha : s.a = true ∧ s.n = 0 := by
      rw [h0] at hlf
      split at hlf
      · rename_i ha; exact ⟨ha, hlf.symm⟩
      · omega
    have e1 : useN s 1 = 0 := by unfold useN; rw [if_pos ⟨ha.1, by omega⟩]; exact ha.2
    have e2 : useS s 1 = { s with n := 0, d := true } := by unfold useS; rw [if_pos ha.1, if_pos (by omega)]
    rw [e1]
    refine (ruse_no h (.inr h0)).mono ?_
    rintro e w' ⟨rfl, hm⟩
    refine ⟨rfl, _, hm, rfl, ?_⟩
    rw [e2]
    exact ⟨rfl, hr.rm, hr.used, by show x.lf = if s.a = true then 0 else -1; rw [if_pos ha.1]; exact h0, fun _ => by show (0 : Int) ≤ 0 ∧ (0 : Int) ≤ _; omega⟩
  · have e1 : useN s 1 = 1 := by
      unfold useN
      split
      · rename_i h1
        have := hr.left h1.1
        rw [if_pos h1.1] at hlf
        omega
      · rfl
    rw [e1]
    refine (ruse_yes h (by rw [hr.dn]; exact hd) h0 hb).mono ?_
    rintro e w' ⟨rfl, hm⟩
    refine ⟨rfl, _, hm, rfl, ?_⟩
    have e3 : (useS s 1).d = s.d := by
      unfold useS
      split
      · rename_i ha
        split
        · rename_i hl
          have := hr.left ha
          rw [if_pos ha] at hlf
          omega
        · rfl
      · rfl
    have e4 : (if 0 < x.lf then x.lf - 1 else x.lf) = if (useS s 1).a = true then (useS s 1).n else -1 := by
      by_cases ha : s.a = true
      · have hl := hr.left ha
        rw [if_pos ha] at hlf
        have e5 : useS s 1 = { s with n := s.n - 1 } := by unfold useS; rw [if_pos ha, if_neg (by omega)]
        rw [e5, hlf]
        show _ = if s.a = true then s.n - 1 else -1
        rw [if_pos ha, if_pos (by omega)]
      · rw [if_neg ha] at hlf
        have e5 : useS s 1 = s := by unfold useS; rw [if_neg ha]
        rw [e5, hlf, if_neg ha]; rfl
    exact ⟨by show x.dn = _; rw [e3]; exact hr.dn, by show x.rm = _; rw [hk.2.1]; exact hr.rm, by rw [hk.1]; exact hr.used, e4, hk.2.2⟩
/-- Bytes, one by one. -/
theorem rgrow_any {w : World} {q : Nat} {x : RS} {s : S} (k : ByteArray) {A : Option Addr} {n c : Nat} {bs : List Int} (h : RfR w q x) (hr : Rl s x) (hd : s.d = false) (hn : x.D.length + 2 ≤ 1000) (hbs : bs.length = n) (hbl : (bytL x.D k).length + n ≤ 2000000) (hv : ∀ w', Off (fun i => i = q) w w' → BAt w' (.slice A n c) bs) :
    Calls Try.prog 54 #[.pointer (some ⟨q, 0, none⟩), .string k, .slice A n c] w fun e w' => e = .returned (.int .i64 (dwn (useS s n))) ∧
      ∃ x', Rm w w' q x x' ∧ Alike (grL x.D k bs (useN s n).toNat) x'.D ∧ Rl { useS s n with used := (usedL x'.D : Int) } x' := by
  obtain ⟨e1, e2⟩ := useS_d hr hd n
  have hk := useS_keeps s n (by omega) hr.left
  rw [e2]
  refine (grow_any k h (by rw [hr.dn]; exact hd) hr.bounds hn hbs hbl hv).mono ?_
  rintro e w' ⟨rfl, x', hm, hrm, hlf, hdn, hal⟩
  refine ⟨rfl, x', hm, ?_, ⟨by rw [hdn, ← e1], by rw [hrm, hr.rm]; exact hk.2.1.symm, rfl, by rw [hlf, hr.lfA], hk.2.2⟩⟩
  rw [← (hr.cnt n).1]
  exact hal
end Go.Proofs.Ytffeinbbgfogoaa.Sr
